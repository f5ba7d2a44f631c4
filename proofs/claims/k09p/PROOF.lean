import PyProof.Rows.All
import Wide.All
import OpenK.AllK
import Wide.FinOn
import HandS.ForMost
import HandS.Wide
import HandS.ExcInit
import HandS.IsInst
import HandS.Deep
import HandS.Evl
import HandS.Conv
import HandS.NoneIn
import HandS.Codes
import HandS.OwnEq
import HandS.DictComp
import HandS.SortOrd
import HandS.SortRule
import HandS.RaiseMore
import HandS.TryOnly
import HandS.Lambda
import HandS.Zip
import HandS.ListItems
import KE.DatumIndex
import HandS.TryMany
import HandS.MakeKwOnly
import HandS.EndTab
import HandS.HeadWalk
import HandS.ExcField
import HandS.WordsExc
import PyProof.IsiNone
import PyProof.IsiH_set
import PyProof.InstEq
import PyProof.InstNe
import KE.KRevSl
import PySem.Challenge.RW_anyaround_k09_parts_made
import KE.KeyNested
import KE.GoesMore
import HandS.Style
import PyProof.NeKinds
import PyProof.FactsAll.dict_2
import KE.KNestM
set_option Elab.async false
set_option linter.all false
set_option maxRecDepth 100000
namespace AA
open PySem PySem.Spec PyProof.Rows L2
def top (i : Nat) : Stmt := PySem.Challenge.pw_anyaround_k09_parts_made.main.body.getD i (.Pass ⟨0, 0, 0, 0⟩)
abbrev sIsInteger : Stmt := top 7
abbrev sIsList : Stmt := top 8
abbrev sReadStep : Stmt := top 11
abbrev sReadSteps : Stmt := top 12
abbrev sFirstWrong : Stmt := top 15
abbrev sStream : Stmt := top 17
abbrev sDraw : Stmt := top 18
abbrev sPick : Stmt := top 19
abbrev sMixed : Stmt := top 20
abbrev sSame : Stmt := top 21
abbrev sLoose : Stmt := top 22
abbrev sAmounts : Stmt := top 23
abbrev sStep : Stmt := top 24
abbrev sPart : Stmt := top 25
abbrev sTried : Stmt := top 26
abbrev sMadeRight : Stmt := top 27
abbrev sUnlikeRight : Stmt := top 28
abbrev sRefusedRight : Stmt := top 29
abbrev sLaw : Stmt := top 30
abbrev sWebInit : Stmt := inClass (top 10) 0
abbrev sWebPlaces : Stmt := inClass (top 10) 1
abbrev sWebSteps : Stmt := inClass (top 10) 2
abbrev sWebEq : Stmt := inClass (top 10) 3
abbrev sPartInit : Stmt := inClass (top 14) 0
abbrev sPartWeb : Stmt := inClass (top 14) 1
abbrev sPartIns : Stmt := inClass (top 14) 2
abbrev sPartOuts : Stmt := inClass (top 14) 3
abbrev sPartEq : Stmt := inClass (top 14) 4
abbrev sBadPlInit : Stmt := inClass (top 2) 0
abbrev sBadStInit : Stmt := inClass (top 3) 0
abbrev sBadInInit : Stmt := inClass (top 4) 0
abbrev sBadOuInit : Stmt := inClass (top 5) 0
end AA

set_option Elab.async false
set_option linter.all false
set_option maxRecDepth 100000
set_option maxHeartbeats 4000000
namespace AA
open PySem PySem.Spec PyProof.Rows L2 Evl

/-- built-in names that the program's top leaves alone -/
structure Bn (mg : Str → Option Value) : Prop where
  abs : mg "abs" = none
  int : mg "int" = none
  len : mg "len" = none
  list : mg "list" = none
  tuple : mg "tuple" = none
  dict : mg "dict" = none
  bool : mg "bool" = none
  range : mg "range" = none
  enumerate : mg "enumerate" = none
  isinstance : mg "isinstance" = none
  all : mg "all" = none
  zip : mg "zip" = none
  sorted : mg "sorted" = none
  max : mg "max" = none
  sum : mg "sum" = none
  repr : mg "repr" = none

theorem cal_of {P : Program} {w : World} {K : PySem.W.Frag} {mg : Str → Option Value} {base : Heap} {k : Nat} {x : Str} {st : Stmt} {f : Addr} {fd : FuncData} {ps : List Str} {sp : Sp}
    (F : L2.Fun K x x st f fd) (hm : mg x = some (.ref f)) (b : Binds K fd ps []) (G : FnOk P w K mg base CX0 k f fd ps sp) : C8.Cal P w K mg base k x sp [] := ⟨f, fd, ps, [], G, hm, F.kp, b, .nil⟩

/-! ### the heap without the stream's two lists -/
def hid (a b : Addr) (H : Hp) : Hp := fun x => if x = a ∨ x = b then none else H x
theorem hid_some {a b x : Addr} {H : Hp} {o : HO} (h : hid a b H x = some o) : H x = some o ∧ x ≠ a ∧ x ≠ b := by
  unfold hid at h
  by_cases e : x = a ∨ x = b
  · rw [if_pos e] at h
    cases h
  · rw [if_neg e] at h
    exact ⟨h, fun z => e (.inl z), fun z => e (.inr z)⟩
theorem hid_ne {a b x : Addr} {H : Hp} (ha : x ≠ a) (hb : x ≠ b) : hid a b H x = H x := by
  unfold hid
  rw [if_neg (fun z => z.elim ha hb)]
theorem hid_ex {a b : Addr} {H : Hp} : Ex (hid a b H) H := fun x o h => (hid_some h).1
theorem hid_upda {a b : Addr} {H : Hp} {o : HO} : hid a b (upd H a o) = hid a b H := by
  funext x
  unfold hid upd
  by_cases e : x = a ∨ x = b
  · rw [if_pos e, if_pos e]
  · rw [if_neg e, if_neg e, if_neg (fun z => e (.inl z))]
theorem hid_updb {a b : Addr} {H : Hp} {o : HO} : hid a b (upd H b o) = hid a b H := by
  funext x
  unfold hid upd
  by_cases e : x = a ∨ x = b
  · rw [if_pos e, if_pos e]
  · rw [if_neg e, if_neg e, if_neg (fun z => e (.inr z))]
theorem hid_upd {a b p : Addr} {H : Hp} {o : HO} (ha : p ≠ a) (hb : p ≠ b) : hid a b (upd H p o) = upd (hid a b H) p o := by
  funext x
  unfold hid upd
  by_cases e : x = a ∨ x = b
  · rw [if_pos e]
    by_cases q : x = p
    · rcases e with e | e
      · exact absurd (q.symm.trans e) ha
      · exact absurd (q.symm.trans e) hb
    · rw [if_neg q]
      exact (if_pos e).symm
  · rw [if_neg e]
    by_cases q : x = p
    · rw [if_pos q, if_pos q]
    · rw [if_neg q, if_neg q]
      exact (if_neg e).symm
theorem hid_none {a b p : Addr} {H : Hp} (h : H p = none) : hid a b H p = none := by
  unfold hid
  split
  · rfl
  · exact h
theorem hid_mono {a b : Addr} {H H' : Hp} (e : Ex H H') : Ex (hid a b H) (hid a b H') := fun x o h => by
  obtain ⟨h1, h2, h3⟩ := hid_some h
  rw [hid_ne h2 h3]
  exact e x o h1

/-- the stream: its list of four at a, the rest of the script at b; at most n draws so far -/
def SAt (H : Hp) (a b : Addr) (n : Nat) : Prop :=
  ∃ (ns : List Int) (c1 c2 c3 : Int), H a = some (.lst [.ref b, .int c1, .int c2, .int c3]) ∧ H b = some (.lst (ns.map V.int)) ∧ ns.length ≤ 63 ∧ 0 ≤ c1 ∧ 0 ≤ c2 ∧ c2 ≤ n ∧ 0 ≤ c3 ∧ c3 < 2147483647
theorem SAt.mono {H : Hp} {a b : Addr} {n m : Nat} (h : SAt H a b n) (l : n ≤ m) : SAt H a b m := by
  obtain ⟨ns, c1, c2, c3, h1, h2, h3, h4, h5, h6, h7⟩ := h
  exact ⟨ns, c1, c2, c3, h1, h2, h3, h4, h5, by omega, h7⟩
theorem SAt.ne {H : Hp} {a b : Addr} {n : Nat} (h : SAt H a b n) : a ≠ b := by
  obtain ⟨ns, c1, c2, c3, h1, h2, _⟩ := h
  intro e
  subst e
  rw [h1] at h2
  have := HO.lst.inj (Option.some.inj h2)
  cases ns with
  | nil => cases this
  | cons x r => cases (List.cons.inj this).1
theorem SAt.nea {H : Hp} {a b p : Addr} {n : Nat} (h : SAt H a b n) (hp : H p = none) : p ≠ a := fun e => by
  obtain ⟨ns, c1, c2, c3, h1, _⟩ := h
  rw [e, h1] at hp
  cases hp
theorem SAt.neb {H : Hp} {a b p : Addr} {n : Nat} (h : SAt H a b n) (hp : H p = none) : p ≠ b := fun e => by
  obtain ⟨ns, c1, c2, c3, _, h1, _⟩ := h
  rw [e, h1] at hp
  cases hp
theorem SAt.ex {H H' : Hp} {a b : Addr} {n : Nat} (h : SAt H a b n) (e : Ex H H') : SAt H' a b n := by
  obtain ⟨ns, c1, c2, c3, h1, h2, r⟩ := h
  exact ⟨ns, c1, c2, c3, e _ _ h1, e _ _ h2, r⟩
theorem SAt.upd {H : Hp} {a b p : Addr} {n : Nat} {o : HO} (h : SAt H a b n) (ha : p ≠ a) (hb : p ≠ b) : SAt (upd H p o) a b n := by
  obtain ⟨ns, c1, c2, c3, h1, h2, r⟩ := h
  exact ⟨ns, c1, c2, c3, by rw [upd_ne ha.symm]; exact h1, by rw [upd_ne hb.symm]; exact h2, r⟩

/-- the promise's heaps: all but the stream stands as it stood -/
abbrev ExS (a b : Addr) (H H' : Hp) : Prop := Ex (hid a b H) (hid a b H')
theorem ExS.at {a b p : Addr} {H H' : Hp} {o : HO} (e : ExS a b H H') (h : H p = some o) (ha : p ≠ a) (hb : p ≠ b) : H' p = some o :=
  hid_ex _ _ (e p o (by rw [hid_ne ha hb]; exact h))

theorem ExS.upda {a b : Addr} {H H1 : Hp} {o : HO} (p : ExS a b H H1) : ExS a b H (L2.upd H1 a o) := by
  show Ex _ (hid a b (L2.upd H1 a o))
  rw [hid_upda]
  exact p
theorem ExS.updb {a b : Addr} {H H1 : Hp} {o : HO} (p : ExS a b H H1) : ExS a b H (L2.upd H1 b o) := by
  show Ex _ (hid a b (L2.upd H1 b o))
  rw [hid_updb]
  exact p
theorem ExS.new {a b c : Addr} {H H1 : Hp} {o : HO} (p : ExS a b H H1) (n : H1 c = none) : ExS a b H (L2.upd H1 c o) := p.trans (hid_mono (Ex.new n))
theorem ExS.own {a b p : Addr} {H H1 : Hp} {o : HO} (e : ExS a b H H1) (hp : H p = none) (pa : p ≠ a) (pb : p ≠ b) : ExS a b H (L2.upd H1 p o) := by
  show Ex _ (hid a b (L2.upd H1 p o))
  rw [hid_upd pa pb]
  exact e.mut (hid_none hp)
theorem sz_m {n : Nat} (h : n ≤ 1000000) : n < sizeLine := Nat.lt_of_le_of_lt h (by decide)
theorem sz_le {n : Nat} (h : n ≤ 1000000) : n ≤ sizeLine := Nat.le_of_lt (sz_m h)
theorem ExS.back {a b p : Addr} {H H' : Hp} {n : Nat} (e : ExS a b H H') (S' : SAt H' a b n) (h : H' p = none) : H p = none := by
  cases q : H p with
  | none => rfl
  | some o =>
    rw [e.at q (S'.nea h) (S'.neb h)] at h
    cases h
theorem get_ints {ns : List Int} {i : Nat} {x : V} (h : (ns.map V.int)[i]? = some x) : ∃ c, ns[i]? = some c ∧ x = .int c := by
  rw [List.getElem?_map] at h
  cases e : ns[i]? with
  | none =>
    rw [e] at h
    cases h
  | some c =>
    rw [e] at h
    exact ⟨c, rfl, (Option.some.inj h).symm⟩
theorem mem_of_get {α : Type} {l : List α} {i : Nat} {x : α} (h : l[i]? = some x) : x ∈ l := by
  obtain ⟨h1, h2⟩ := List.getElem?_eq_some_iff.mp h
  rw [← h2]
  exact List.getElem_mem h1
theorem ExS.rfl {a b : Addr} {H : Hp} : ExS a b H H := Ex.refl _

/-! ### what is new since H -/
def nw (H H' : Hp) : Hp := fun z => match H z with
  | none => H' z
  | some _ => none
theorem nw_some {H H' : Hp} {z : Addr} {o : HO} (h : nw H H' z = some o) : H z = none ∧ H' z = some o := by
  unfold nw at h
  split at h
  · rename_i e
    exact ⟨e, h⟩
  · cases h
theorem nw_of {H H' : Hp} {z : Addr} {o : HO} (h : H z = none) (h' : H' z = some o) : nw H H' z = some o := by
  unfold nw
  rw [h]
  exact h'
theorem nw_le {H H' : Hp} : Ex (nw H H') H' := fun z o h => (nw_some h).2
theorem nw_hid {a b : Addr} {n : Nat} {H H' : Hp} (s : SAt H a b n) : Ex (nw H H') (hid a b H') := fun z o h => by
  obtain ⟨h1, h2⟩ := nw_some h
  rw [hid_ne (s.nea h1) (s.neb h1)]
  exact h2
theorem nw_step {a b : Addr} {n : Nat} {H H1 H2 : Hp} (s : SAt H a b n) (e : ExS a b H1 H2) : Ex (nw H H1) (nw H H2) := fun z o h => by
  obtain ⟨h1, h2⟩ := nw_some h
  exact nw_of h1 (e.at h2 (s.nea h1) (s.neb h1))
/-- what is new since a later heap is new since the earlier one -/
theorem nw_base {a b : Addr} {m : Nat} {H H1 H2 : Hp} (e : ExS a b H H1) (s : SAt H1 a b m) : Ex (nw H1 H2) (nw H H2) := fun z o h => by
  obtain ⟨h1, h2⟩ := nw_some h
  exact nw_of (e.back s h1) h2

/-! ### the heap's tuples: they never change -/
def tps (H : Hp) : Hp := fun x => match H x with
  | some (.tup xs) => some (.tup xs)
  | _ => none
theorem tps_some {H : Hp} {x : Addr} {o : HO} (h : tps H x = some o) : H x = some o ∧ ∃ xs, o = .tup xs := by
  unfold tps at h
  split at h
  · rename_i xs e
    cases h
    exact ⟨e, xs, rfl⟩
  · cases h
theorem tps_of {H : Hp} {x : Addr} {xs : List V} (h : H x = some (.tup xs)) : tps H x = some (.tup xs) := by
  unfold tps
  rw [h]
theorem tps_le {H : Hp} : Ex (tps H) H := fun x o h => (tps_some h).1
theorem tps_mono {H H' : Hp} (e : Ex H H') : Ex (tps H) (tps H') := fun x o h => by
  obtain ⟨h1, xs, rfl⟩ := tps_some h
  exact tps_of (e _ _ h1)
theorem tps_hid {a b : Addr} {n : Nat} {H H' : Hp} (e : ExS a b H H') (s : SAt H a b n) : Ex (tps H) (tps H') := fun x o h => by
  obtain ⟨h1, xs, rfl⟩ := tps_some h
  obtain ⟨ns, c1, c2, c3, ha, hb, _⟩ := s
  have xa : x ≠ a := fun z => by
    rw [z, ha] at h1
    cases h1
  have xb : x ≠ b := fun z => by
    rw [z, hb] at h1
    cases h1
  exact tps_of (e.at h1 xa xb)
/-- no tuple stands at p -/
def NoTup (H : Hp) (p : Addr) : Prop := ∀ xs, H p ≠ some (.tup xs)
theorem NoTup.lst {H : Hp} {p : Addr} {xs : List V} (h : H p = some (.lst xs)) : NoTup H p := fun ys z => by
  rw [h] at z
  cases z
theorem NoTup.none {H : Hp} {p : Addr} (h : H p = none) : NoTup H p := fun ys z => by
  rw [h] at z
  cases z
theorem tps_upd {H : Hp} {p : Addr} {o : HO} (h : NoTup H p) : Ex (tps H) (tps (L2.upd H p o)) := fun x u hx => by
  obtain ⟨h1, xs, rfl⟩ := tps_some hx
  have xp : x ≠ p := fun z => h xs (by rw [← z]; exact h1)
  exact tps_of (by rw [upd_ne xp]; exact h1)
theorem tps_tup {H : Hp} {p : Addr} {xs : List V} : tps (L2.upd H p (.tup xs)) p = some (.tup xs) := tps_of upd_same

/-! ### data on the heap -/
mutual
theorem dp_ex {K : PySem.W.Frag} {H H' : Hp} (e : Ex H H') : ∀ (d : PyData) (v : V), Dp K H v d → Dp K H' v d
  | .none, _, h => by cases h; exact .non
  | .bool b, _, h => by cases h; exact .bl _
  | .int i, _, h => by cases h; exact .int _
  | .str x, _, h => by cases h; exact .str _
  | .list ds, _, h => by
    cases h with
    | lst h1 h2 => exact .lst (ex_l e h1) (dpa_ex e ds _ h2)
  | .tuple ds, _, h => by
    cases h with
    | tup h1 h2 => exact .tup (ex_t e h1) (dpa_ex e ds _ h2)
  | .dict _, _, h => by cases h
theorem dpa_ex {K : PySem.W.Frag} {H H' : Hp} (e : Ex H H') : ∀ (ds : List PyData) (vs : List V), DpAll K H vs ds → DpAll K H' vs ds
  | [], _, h => by cases h; exact .nil
  | d :: ds, _, h => by
    cases h with
    | cons h1 h2 => exact .cons (dp_ex e d _ h1) (dpa_ex e ds _ h2)
end
theorem dp_ints {K : PySem.W.Frag} {H : Hp} : ∀ ns : List Int, DpAll K H (ns.map V.int) (ns.map PyData.int)
  | [] => .nil
  | n :: r => .cons (.int n) (dp_ints r)
theorem lay_ints : ∀ ns : List Int, PyData.canLayAll0 (ns.map PyData.int) = true
  | [] => rfl
  | n :: r => by
    show (PyData.canLay0 (.int n) && PyData.canLayAll0 (r.map PyData.int)) = true
    rw [lay_ints r]
    rfl
theorem dep_ints : ∀ ns : List Int, PyData.depthAll (ns.map PyData.int) = 0
  | [] => rfl
  | n :: r => by
    show max (PyData.depth (.int n)) (PyData.depthAll (r.map PyData.int)) = 0
    rw [dep_ints r]
    rfl
theorem shaped_ints (ns : List Int) : SeqAt.shaped (.list (ns.map PyData.int)) = true := by
  show (PyData.canLayAll0 (ns.map PyData.int) && decide (PyData.depthAll (ns.map PyData.int) + 1 ≤ 64)) = true
  rw [lay_ints, dep_ints]
  rfl
theorem eqv_ints_nil : ∀ ns : List Int, PyData.eqv (.list (ns.map PyData.int)) (.list []) = ns.isEmpty
  | [] => rfl
  | n :: r => rfl
theorem dpa_len {K : PySem.W.Frag} {H : Hp} : ∀ {vs : List V} {ds : List PyData}, DpAll K H vs ds → vs.length = ds.length
  | [], _, h => by cases h; rfl
  | v :: vs, _, h => by
    cases h with
    | cons h1 h2 => rw [List.length_cons, List.length_cons, dpa_len h2]
theorem dpa_get {K : PySem.W.Frag} {H : Hp} : ∀ {vs : List V} {ds : List PyData} {i : Nat} {v : V}, DpAll K H vs ds → vs[i]? = some v → ∃ d, ds[i]? = some d ∧ Dp K H v d
  | [], _, _, _, _, e => by simp at e
  | v :: vs, _, 0, x, h, e => by
    cases h with
    | cons h1 h2 =>
      cases (Option.some.inj e)
      exact ⟨_, rfl, h1⟩
  | v :: vs, _, i + 1, x, h, e => by
    cases h with
    | cons h1 h2 => exact dpa_get (i := i) h2 e
theorem dpa_app {K : PySem.W.Frag} {H : Hp} : ∀ {vs ws : List V} {ds es : List PyData}, DpAll K H vs ds → DpAll K H ws es → DpAll K H (vs ++ ws) (ds ++ es)
  | [], _, _, _, h, k => by cases h; exact k
  | v :: vs, _, _, _, h, k => by
    cases h with
    | cons h1 h2 => exact .cons h1 (dpa_app h2 k)

theorem Room.u65 {k : Nat} {A : Around} (r : Room k A) : A.units + 65 < cLine := by
  have := r.un
  omega
/-! ### steps -/
structure St5 where
  one : Int
  other : Int
  p : Int
  q : Int
  ticks : Int
  change : Int
  deriving DecidableEq
def stD (s : St5) : PyData := .tuple [.int s.one, .int s.other, .tuple [.int s.p, .int s.q], .int s.ticks, .int s.change]
theorem stD_inv {K : PySem.W.Frag} {H : Hp} {v : V} {s : St5} (h : Dp K H v (stD s)) : ∃ t u : Addr, v = .ref t ∧ SqT K H t [.int s.one, .int s.other, .ref u, .int s.ticks, .int s.change] ∧ SqT K H u [.int s.p, .int s.q] := by
  unfold stD at h
  cases h with
  | tup h1 h2 =>
    cases h2 with
    | cons a1 h2 =>
      cases h2 with
      | cons a2 h2 =>
        cases h2 with
        | cons a3 h2 =>
          cases h2 with
          | cons a4 h2 =>
            cases h2 with
            | cons a5 h2 =>
              cases h2
              cases a1
              cases a2
              cases a4
              cases a5
              cases a3 with
              | tup b1 b2 =>
                cases b2 with
                | cons c1 b2 =>
                  cases b2 with
                  | cons c2 b2 =>
                    cases b2
                    cases c1
                    cases c2
                    exact ⟨_, _, rfl, h1, b1⟩
theorem stD_mk {K : PySem.W.Frag} {H : Hp} {t u : Addr} {s : St5} (h1 : SqT K H t [.int s.one, .int s.other, .ref u, .int s.ticks, .int s.change]) (h2 : SqT K H u [.int s.p, .int s.q]) : Dp K H (.ref t) (stD s) :=
  .tup h1 (.cons (.int _) (.cons (.int _) (.cons (.tup h2 (.cons (.int _) (.cons (.int _) .nil))) (.cons (.int _) (.cons (.int _) .nil)))))
theorem stD_eqv (s t : St5) : PyData.eqv (stD s) (stD t) = decide (s = t) := by
  have : PyData.eqv (stD s) (stD t) = ((s.one == t.one) && ((s.other == t.other) && (((s.p == t.p) && ((s.q == t.q) && true)) && ((s.ticks == t.ticks) && ((s.change == t.change) && true))))) := rfl
  rw [this]
  cases s
  cases t
  simp only [St5.mk.injEq]
  rw [Bool.eq_iff_iff]
  simp [and_assoc]
theorem stD_lay (s : St5) : (stD s).canLay0 = true := rfl
theorem stD_depth (s : St5) : (stD s).depth = 2 := rfl
theorem stDs_lay : ∀ ss : List St5, PyData.canLayAll0 (ss.map stD) = true
  | [] => rfl
  | s :: r => by
    show (PyData.canLay0 (stD s) && PyData.canLayAll0 (r.map stD)) = true
    rw [stDs_lay r]
    rfl
theorem stDs_depth : ∀ ss : List St5, PyData.depthAll (ss.map stD) ≤ 2
  | [] => by decide
  | s :: r => by
    have := stDs_depth r
    show max (PyData.depth (stD s)) (PyData.depthAll (r.map stD)) ≤ 2
    rw [stD_depth]
    omega
theorem stD_shaped (s : St5) : SeqAt.shaped (stD s) = true := rfl
theorem stDs_shaped (ss : List St5) : SeqAt.shaped (.list (ss.map stD)) = true := by
  have h : PyData.depth (.list (ss.map stD)) ≤ 64 := by
    have := stDs_depth ss
    show PyData.depthAll (ss.map stD) + 1 ≤ 64
    omega
  show (PyData.canLayAll0 (ss.map stD) && decide (PyData.depth (.list (ss.map stD)) ≤ 64)) = true
  rw [stDs_lay, decide_eq_true h]
  rfl
/-- a step between so many places -/
structure StOk (n : Int) (s : St5) : Prop where
  o0 : 0 ≤ s.one
  o1 : s.one < n
  t0 : 0 ≤ s.other
  t1 : s.other < n
  k : 1 ≤ s.ticks
/-- and small -/
structure StSm (s : St5) : Prop where
  p0 : -9 ≤ s.p
  p1 : s.p ≤ 9
  q0 : -9 ≤ s.q
  q1 : s.q ≤ 9
  k1 : s.ticks ≤ 6
  c0 : -9 ≤ s.change
  c1 : s.change ≤ 9
/-! ### loops over enumerate(list) -/
theorem for_enumL {K : PySem.W.Frag} {a : Addr} {xs : List V} {g : TG} {tb : TS} {D : Ends} {σ : L2.St} {H : Hp} (Pv : Nat → L2.St → Hp → Prop) (h0 : Pv 0 σ H) (hl : ∀ i σ H, i ≤ xs.length → Pv i σ H → SqL K H a xs)
    (hs : ∀ (i : Nat) (x : V) (σ : L2.St) (H : Hp) (T : Addr), xs[i]? = some x → Pv i σ H → H T = none → g (.ref T) σ (upd H T (.tup [.int (i : Nat), x])) fun σ2 H2 => tb { D with nx := Pv (i + 1), ct := Pv (i + 1), bk := D.nx } σ2 H2) (hd : ∀ σ H, Pv xs.length σ H → D.nx σ H) :
    ∃ W : Nat → Nat → L2.St → Hp → Prop, (∃ m, W 0 m σ H) ∧ ∀ i m σ H, W i m σ H →
      ((Ite K a).stop i H ∧ D.nx σ H) ∨ ((Ite K a).go i H ∧ ∃ N : L2.St → Hp → Prop, (∀ σ' H', N σ' H' → ∃ m', m' < m ∧ W (i + 1) m' σ' H') ∧ ∀ x H', (Ite K a).yld i H x H' → g x σ H' fun σ2 H2 => tb { D with nx := N, ct := N, bk := D.nx } σ2 H2) := by
  refine ⟨fun i m σ H => m = xs.length - i ∧ i ≤ xs.length ∧ Pv i σ H, ⟨xs.length, by simp, Nat.zero_le _, h0⟩, ?_⟩
  rintro i m σ H ⟨rfl, hi, p⟩
  have q := hl i σ H hi p
  by_cases hlt : i < xs.length
  · refine .inr ⟨⟨xs, xs[i], q, by simp [hlt]⟩, Pv (i + 1), fun σ' H' p' => ⟨xs.length - (i + 1), by omega, rfl, hlt, p'⟩, fun x H' y => ?_⟩
    obtain ⟨T, z, rfl, hT, rfl, e⟩ := y
    exact hs i z σ _ T (e xs q) p hT
  · have e : i = xs.length := by omega
    subst e
    exact .inl ⟨⟨xs, q, Nat.le_refl _⟩, hd σ H p⟩
theorem atI_back {α : Type} {xs : List α} {i : Nat} (h : i < xs.length) : ∃ y, atI xs ((i : Int) - 1) = some y ∧ y ∈ xs := by
  cases i with
  | zero =>
    have e : ixN xs.length (((0 : Nat) : Int) - 1) = some (xs.length - 1) := by
      unfold ixN
      rw [if_neg (by omega), if_pos (by omega)]
      congr 1
      omega
    have hl : xs.length - 1 < xs.length := by omega
    refine ⟨xs[xs.length - 1], ?_, List.getElem_mem hl⟩
    unfold atI
    rw [e]
    exact List.getElem?_eq_getElem hl
  | succ i =>
    have e : ((i + 1 : Nat) : Int) - 1 = (i : Int) := by omega
    rw [e]
    have hl : i < xs.length := by omega
    exact ⟨xs[i], atI_nat (List.getElem?_eq_getElem hl), List.getElem_mem hl⟩
end AA

set_option Elab.async false
set_option linter.all false
set_option maxRecDepth 100000
set_option maxHeartbeats 4000000
namespace AA
open PySem PySem.Spec PyProof.Rows L2 Evl

section
variable {P : Program} {w : World} {K : PySem.W.Frag} {mg : Str → Option Value} {base : Heap}
def spDraw : Sp := fun vs H Q _ => ∃ (a b : Addr) (n : Nat) (m : Int), vs = [.ref a, .int m] ∧ SAt H a b n ∧ n < 1000000000 ∧ 0 < m ∧ m < 1000000000 ∧
  ∀ (H' : Hp) (i : Int), ExS a b H H' → SAt H' a b (n + 1) → 0 ≤ i → i < m → Q (.int i) H'
theorem scDraw : FnScope ["_law_stream_here", "_law_many", "_law_cell", "_law_digit", "_law_mixed_here"] ["_law_stream_here", "_law_many"] (defScope sDraw) := ⟨rfl, rfl, rfl, by decide +kernel, rfl, by decide +kernel, by decide +kernel⟩

theorem ok_draw {f : Addr} {fd : FuncData} (F : L2.Fun K "_law_draw" "_law_draw" sDraw f fd) (T : Bn mg) : FnOk P w K mg base CX0 1 f fd ["_law_stream_here", "_law_many"] spDraw := by
  refine F.ok scDraw (fun vs H Q E h => ?_) (fun cdv A outer s H vs Q E hr h => ?_)
  · obtain ⟨a, b, n, m, rfl, _⟩ := h
    rfl
  · obtain ⟨a, b, n, m, rfl, hS, hn, hm0, hm1, k⟩ := h
    refine ⟨_, pss_cons (ps_asg (pe_op op_add (pe_ix ix_list (pv 0) pe_int (fun _ _ => rfl)) pe_int) (pg_sub (pv 0) pe_int set_list))
      (Evl.pss_cut (ps_while PassesOwn.never (PW.pt (pw_and (pt_cmpR op_eq (pe_ix ix_list (pv 0) pe_int (fun _ _ => rfl)) pe_int (nomark _))
            (pw_and1 (pt_cmpR (op_neD hr.units) (pe_ix ix_list (pv 0) pe_int (fun _ _ => rfl)) (pe_lst pa_nil) (nomark _)))))
          (pss_cons (ps_set (i := 2) scDraw.nd rfl (Or.inl rfl) (pe_callB call_abs (by rfl) T.abs boot_abs (pa_cons (pe_bm PySem.F.plainAttrs_list PySem.F.slot_list_pop PySem.F.type_list_pop mt_popAt (pe_ix ix_list (pv 0) pe_int (fun _ _ => rfl)) (pa_cons pe_int pa_nil)) pa_nil)))
          (pss_cons (ps_asg (pe_op op_mod (pe_callTy call_int1 (by rfl) T.int boot_int (pa_cons (pe_op op_add (pe_op op_add (pe_op op_mul (pe_ix ix_list (pv 0) pe_int (fun _ _ => rfl)) pe_int) (pv 2)) pe_int) pa_nil)) pe_int) (pg_sub (pv 0) pe_int set_list))
          (pss_one (ps_asg (pe_ifExp (pt_cmpR op_ge (pv 2) (pe_op op_pow pe_int pe_int) (nomark _)) (pv 2) pe_int) (pg_sub (pv 0) pe_int set_list))))))
      (pss_cons (ps_if (pt_cmpR op_gt (pe_ix ix_list (pv 0) pe_int (fun _ _ => rfl)) pe_int (nomark _))
          (pss_cons (ps_set (i := 3) scDraw.nd rfl (Or.inl rfl) (pe_op op_mod (pe_callTy call_int1 (by rfl) T.int boot_int (pa_cons (pe_ix ix_list (pv 0) pe_int (fun _ _ => rfl)) pa_nil)) (pv 1)))
          (pss_cons (ps_asg (pe_op op_fdiv (pe_ix ix_list (pv 0) pe_int (fun _ _ => rfl)) (pv 1)) (pg_sub (pv 0) pe_int set_list))
          (pss_one (ps_ret (pv 3)))))
          pss_nil)
      (pss_cons (ps_set (i := 4) scDraw.nd rfl (Or.inl rfl) (pe_op op_mod (pe_callTy call_int1 (by rfl) T.int boot_int (pa_cons (pe_op op_pow (pe_op op_add (pe_op op_add (pe_ix ix_list (pv 0) pe_int (fun _ _ => rfl)) (pe_op op_mul pe_int (pe_ix ix_list (pv 0) pe_int (fun _ _ => rfl)))) pe_int) pe_int) pa_nil)) pe_int))
      (pss_one (ps_ret (pe_op op_mod (pe_op op_mod (pe_callTy call_int1 (by rfl) T.int boot_int (pa_cons (pe_op op_pow (pe_op op_add (pe_op op_add (pe_op op_mul (pv 4) pe_int) (pe_op op_mul pe_int (pe_ix ix_list (pv 0) pe_int (fun _ _ => rfl)))) pe_int) pe_int) pa_nil)) pe_int) (pv 1))))))), ?_⟩
    have hab := hS.ne
    obtain ⟨ns, c1, c2, c3, hA, hB, hl, p1, p2, p2', p3, p3'⟩ := hS
    -- stream[2] = stream[2] + 1
    refine ⟨_, rfl, a, _, 2, .int c2, rfl, rfl, SqL.of hA, rfl, _, _, rfl, rfl, _, rfl, a, _, 2, 2, rfl, rfl, hA, rfl, ?_⟩
    have eA : upd H a (.lst [.ref b, .int c1, .int (c2 + 1), .int c3]) a = some (.lst [.ref b, .int c1, .int (c2 + 1), .int c3]) := upd_same
    refine ⟨fun σ H2 => ∃ (ms : List Int) (d1 d3 : Int) (x2 : Option V), σ = [some (.ref a), some (.int m), x2, none, none] ∧ ExS a b H H2 ∧ H2 a = some (.lst [.ref b, .int d1, .int (c2 + 1), .int d3]) ∧
        H2 b = some (.lst (ms.map V.int)) ∧ ms.length ≤ 63 ∧ 0 ≤ d1 ∧ 0 ≤ d3 ∧ d3 < 2147483647, ?_, ?_⟩
    · refine ⟨fun mm σ H1 => ∃ (ms : List Int) (d1 d3 : Int) (x2 : Option V), σ = [some (.ref a), some (.int m), x2, none, none] ∧ ExS a b H H1 ∧ H1 a = some (.lst [.ref b, .int d1, .int (c2 + 1), .int d3]) ∧
          H1 b = some (.lst (ms.map V.int)) ∧ ms.length ≤ 63 ∧ ms.length = mm ∧ 0 ≤ d1 ∧ 0 ≤ d3 ∧ d3 < 2147483647, ⟨ns.length, ns, c1, c3, none, rfl, (ExS.rfl (H := H)).upda, eA, by rw [upd_ne hab.symm]; exact hB, hl, rfl, p1, p3, p3'⟩, ?_⟩
      rintro mm σ H1 ⟨ms, d1, d3, x2, rfl, hX, hA1, hB1, hl1, rfl, q1, q3, q3'⟩
      refine ⟨_, rfl, a, _, 1, .int d1, rfl, rfl, SqL.of hA1, rfl, rfl, _, rfl, ?_⟩
      by_cases hd : d1 = 0
      · subst hd
        refine iteT ?_
        refine ⟨_, rfl, a, _, 0, .ref b, rfl, rfl, SqL.of hA1, rfl, Nat.zero_le _, fun l hl0 => ?_⟩
        have hbl : b ≠ l := ne_of_none hB1 hl0
        have hal : a ≠ l := ne_of_none hA1 hl0
        have hB2 : upd H1 l (.lst []) b = some (.lst (ms.map V.int)) := by rw [upd_ne hbl]; exact hB1
        have hA2 : upd H1 l (.lst []) a = some (.lst [.ref b, .int 0, .int (c2 + 1), .int d3]) := by rw [upd_ne hal]; exact hA1
        refine ⟨.list (ms.map PyData.int), .list [], .lst (SqL.of hB2) (dp_ints ms), .lst (SqL.of upd_same) .nil, shaped_ints ms, rfl, _, rfl, ?_⟩
        rw [eqv_ints_nil]
        cases ms with
        | nil =>
          refine iteF ?_
          exact ⟨[], 0, d3, x2, rfl, hX.new hl0, hA2, hB2, hl1, q1, q3, q3'⟩
        | cons c ms =>
          refine iteT ?_
          refine ⟨fun σ H3 => ∃ (d1 d3 : Int) (x2 : Option V), σ = [some (.ref a), some (.int m), x2, none, none] ∧ ExS a b H H3 ∧ H3 a = some (.lst [.ref b, .int d1, .int (c2 + 1), .int d3]) ∧
            H3 b = some (.lst (ms.map V.int)) ∧ 0 ≤ d1 ∧ 0 ≤ d3 ∧ d3 < 2147483647, ?_, ?_⟩
          · rintro σ' H' ⟨d1, d3, x2, e, z1, z2, z3, z4, z5, z6⟩
            exact ⟨ms.length, Nat.lt_succ_self _, ms, d1, d3, x2, e, z1, z2, z3, by have : (c :: ms).length ≤ 63 := hl1; rw [List.length_cons] at this; omega, rfl, z4, z5, z6⟩
          · -- cell = abs(stream[0].pop(0))
            refine ⟨_, rfl, a, _, 0, .ref b, rfl, rfl, SqL.of hA2, rfl, .inl ⟨rfl, _, SqL.of hB2⟩, b, _, 0, 0, .int c, rfl, rfl, hB2, by decide, by decide, seqIndex_of (k := 0) (by decide) (by show (0 : Int) < (((c :: ms).map V.int).length : Int); rw [List.length_map, List.length_cons]; omega), rfl, _, rfl, ?_⟩
            have hA3 : upd (upd H1 l (.lst [])) b (.lst (ms.map V.int)) a = some (.lst [.ref b, .int 0, .int (c2 + 1), .int d3]) := by rw [upd_ne hab]; exact hA2
            -- stream[3] = int(stream[3] * 8191 + cell + 3) % 2147483647
            generalize hcell : (if c < 0 then -c else c) = cell
            have hc0 : 0 ≤ cell := by rw [← hcell]; split <;> omega
            refine ⟨_, rfl, a, _, 3, .int d3, rfl, rfl, SqL.of hA3, rfl, _, _, rfl, rfl, .inr ⟨by decide, by decide⟩, _, rfl, _, _, rfl, rfl, _, _, rfl, rfl, .inl ⟨_, rfl, ?_⟩⟩
            refine ⟨_, _, rfl, rfl, (by show (0 : Int) < 2147483647; decide), _, rfl, a, _, 3, 3, rfl, rfl, hA3, rfl, ?_⟩
            -- stream[1] = cell if cell >= 10 ** 18 else 0
            refine ⟨_, rfl, _, _, rfl, rfl, ⟨by decide, by decide, by decide⟩, _, _, rfl, rfl, _, rfl, ?_⟩
            refine ite2 (fun _ => ?_) (fun _ => ?_)
            · refine ⟨_, rfl, _, rfl, a, _, 1, 1, rfl, rfl, upd_same, rfl, ?_⟩
              exact ⟨cell, _, _, rfl, (((hX.new hl0).updb).upda).upda, upd_same, by rw [upd_ne hab.symm, upd_ne hab.symm, upd_same]; rfl, hc0, Int.emod_nonneg _ (by decide), Int.emod_lt_of_pos _ (by decide)⟩
            · refine ⟨_, rfl, a, _, 1, 1, rfl, rfl, upd_same, rfl, ?_⟩
              exact ⟨0, _, _, rfl, (((hX.new hl0).updb).upda).upda, upd_same, by rw [upd_ne hab.symm, upd_ne hab.symm, upd_same]; rfl, Int.le_refl _, Int.emod_nonneg _ (by decide), Int.emod_lt_of_pos _ (by decide)⟩
      · have e : decide (V.int d1 = V.int 0) = false := decide_eq_false (fun e => hd (V.int.inj e))
        rw [e]
        refine iteF ?_
        refine iteF ?_
        exact ⟨ms, d1, d3, x2, rfl, hX, hA1, hB1, hl1, q1, q3, q3'⟩
    · rintro σ H2 ⟨ms, d1, d3, x2, rfl, hX, hA2, hB2, hl2, q1, q3, q3'⟩
      refine ⟨_, rfl, a, _, 1, .int d1, rfl, rfl, SqL.of hA2, rfl, _, _, rfl, rfl, _, rfl, ?_⟩
      refine ite2 (fun hp => ?_) (fun hp => ?_)
      · refine ⟨_, rfl, a, _, 1, .int d1, rfl, rfl, SqL.of hA2, rfl, .inl ⟨_, rfl, _, rfl, _, _, rfl, rfl, hm0, ?_⟩⟩
        refine ⟨_, rfl, a, _, 1, .int d1, rfl, rfl, SqL.of hA2, rfl, _, rfl, _, _, rfl, rfl, ⟨hm0, by omega⟩, _, rfl, a, _, 1, 1, rfl, rfl, hA2, rfl, ?_⟩
        refine ⟨_, rfl, ?_⟩
        refine k _ _ hX.upda ⟨ms, d1 / m, c2 + 1, d3, upd_same, by rw [upd_ne hab.symm]; exact hB2, hl2, Int.ediv_nonneg q1 (by omega), by omega, by omega, q3, q3'⟩ (Int.emod_nonneg _ (by omega)) (Int.emod_lt_of_pos _ hm0)
      · refine ⟨_, rfl, a, _, 3, .int d3, rfl, rfl, SqL.of hA2, rfl, _, rfl, a, _, 2, .int (c2 + 1), rfl, rfl, SqL.of hA2, rfl, _, _, rfl, rfl, .inl ⟨by decide, by decide⟩, _, _, rfl, rfl, _, _, rfl, rfl, _, _, rfl, rfl, ⟨by decide, by decide, ?_⟩, .inl ⟨_, rfl, ?_⟩⟩
        · have : (2:Nat) ^ 64 = 18446744073709551616 := by decide
          rw [this]
          omega
        refine ⟨_, _, rfl, rfl, (by show (0 : Int) < 2147483629; decide), ?_⟩
        generalize hmx : ((d3 + 7919 * (c2 + 1) + 104729) ^ (5 : Int).toNat % 2147483629 : Int) = mx
        have hx0 : 0 ≤ mx := by rw [← hmx]; exact Int.emod_nonneg _ (by decide)
        have hx1 : mx < 2147483629 := by rw [← hmx]; exact Int.emod_lt_of_pos _ (by decide)
        refine ⟨_, rfl, _, _, rfl, rfl, .inr ⟨by decide, by decide⟩, _, rfl, a, _, 2, .int (c2 + 1), rfl, rfl, SqL.of hA2, rfl, _, _, rfl, rfl, .inl ⟨by decide, by decide⟩, _, _, rfl, rfl, _, _, rfl, rfl, _, _, rfl, rfl, ⟨by decide, by decide, ?_⟩, .inl ⟨_, rfl, ?_⟩⟩
        · have : (2:Nat) ^ 64 = 18446744073709551616 := by decide
          rw [this]
          omega
        refine ⟨_, _, rfl, rfl, (by show (0 : Int) < 1000000007; decide), _, rfl, _, _, rfl, rfl, hm0, ?_⟩
        exact k _ _ hX ⟨ms, d1, c2 + 1, d3, hA2, hB2, hl2, q1, by omega, by omega, q3, q3'⟩ (Int.emod_nonneg _ (by omega)) (Int.emod_lt_of_pos _ hm0)
end
end AA

set_option Elab.async false
set_option linter.all false
set_option maxRecDepth 100000
set_option maxHeartbeats 4000000
namespace AA
open PySem PySem.Spec PyProof.Rows L2 Evl
section
variable {P : Program} {w : World} {K : PySem.W.Frag} {mg : Str → Option Value} {base : Heap}
/-! ### _law_stream -/
def spStream (K : PySem.W.Frag) : Sp := fun vs H Q _ => ∃ (s : Addr) (ns : List Int), vs = [.ref s] ∧ SqL K H s (ns.map V.int) ∧ ns.length ≤ 63 ∧
  ∀ (H' : Hp) (a b : Addr), Ex H H' → H a = none → H b = none → SAt H' a b 0 → Q (.ref a) H'
theorem scStream : FnScope ["_law_script"] ["_law_script"] (defScope sStream) := ⟨rfl, rfl, rfl, by decide +kernel, rfl, by decide +kernel, by decide +kernel⟩
theorem ok_stream {f : Addr} {fd : FuncData} (F : L2.Fun K "_law_stream" "_law_stream" sStream f fd) (T : Bn mg) : FnOk P w K mg base CX0 1 f fd ["_law_script"] (spStream K) := by
  refine F.ok scStream (fun vs H Q E h => ?_) (fun cdv A outer s H vs Q E hr h => ?_)
  · obtain ⟨a, ns, rfl, _⟩ := h
    rfl
  · obtain ⟨s0, ns, rfl, hS, hl, k⟩ := h
    refine ⟨_, pss_one (ps_ret (pe_lst (pa_cons (pe_callTy call_list_of (by rfl) T.list boot_list (pa_cons (pv 0) pa_nil)) (pa_cons pe_int (pa_cons pe_int (pa_cons pe_int pa_nil)))))), ?_⟩
    refine ⟨_, rfl, s0, _, rfl, .inl hS, fun b hb => ⟨by show 4 ≤ sizeLine; decide, fun a ha => ?_⟩⟩
    have hba : b ≠ a := ne_of_none upd_same ha
    have ha0 : H a = none := fresh_back (Ex.new hb) ha
    exact k _ a b ((Ex.new hb).trans (Ex.new ha)) ha0 hb ⟨ns, 0, 0, 17, upd_same, by rw [upd_ne hba]; exact upd_same, hl, by decide, by decide, by decide, by decide, by decide⟩

/-! ### _law_pick -/
def spPick (K : PySem.W.Frag) : Sp := fun vs H Q _ => ∃ (a b : Addr) (n : Nat) (t : Addr) (xs : List V), vs = [.ref a, .ref t] ∧ SAt H a b n ∧ n < 1000000000 ∧ SqL K (hid a b H) t xs ∧ 0 < xs.length ∧ xs.length < 1000000 ∧
  ∀ (H' : Hp) (i : Nat) (x : V), ExS a b H H' → SAt H' a b (n + 1) → xs[i]? = some x → Q x H'
theorem scPick : FnScope ["_law_stream_here", "_law_things"] ["_law_stream_here", "_law_things"] (defScope sPick) := ⟨rfl, rfl, rfl, by decide +kernel, rfl, by decide +kernel, by decide +kernel⟩
theorem ok_pick {f : Addr} {fd : FuncData} (F : L2.Fun K "_law_pick" "_law_pick" sPick f fd) (T : Bn mg) (cD : C8.Cal P w K mg base 1 "_law_draw" spDraw []) : FnOk P w K mg base CX0 2 f fd ["_law_stream_here", "_law_things"] (spPick K) := by
  refine F.ok scPick (fun vs H Q E h => ?_) (fun cdv A outer s H vs Q E hr h => ?_)
  · obtain ⟨a, b, n, t, xs, rfl, _⟩ := h
    rfl
  · obtain ⟨a, b, n, t, xs, rfl, hS, hn, hX, h0, h1, k⟩ := h
    refine ⟨_, pss_one (ps_ret (pe_ix ix_list (pv 1) (C8.pe_c cD hr (by decide) (by rfl) (pa_cons (pv 0) (pa_cons (pe_callB call_len_seq (by rfl) T.len PySem.boot_len (pa_cons (pv 1) pa_nil)) pa_nil))) (fun _ _ => rfl))), ?_⟩
    refine ⟨_, rfl, _, rfl, _, rfl, t, xs, rfl, .inl (ex_l hid_ex hX), a, b, n, _, rfl, hS, hn, by omega, by omega, fun H' i hE hS' i0 i1 => ?_⟩
    obtain ⟨j, rfl⟩ : ∃ j : Nat, i = (j : Int) := ⟨i.toNat, by omega⟩
    have hj : j < xs.length := by omega
    refine ⟨t, xs, (j : Int), xs[j], rfl, rfl, ex_l (hid_ex) (ex_l hE hX), atI_nat (List.getElem?_eq_getElem hj), ?_⟩
    exact k H' j _ hE hS' (List.getElem?_eq_getElem hj)

/-! ### _law_mixed -/
def spMixed (K : PySem.W.Frag) : Sp := fun vs H Q _ => ∃ (a b : Addr) (n : Nat) (t : Addr) (xs : List V), vs = [.ref a, .ref t] ∧ SAt H a b n ∧ SqL K (hid a b H) t xs ∧ n + xs.length < 1000000000 ∧ xs.length < 1000000 ∧
  ∀ (H' : Hp) (p : Addr) (ys : List V), ExS a b H H' → SAt H' a b (n + xs.length) → H p = none → H' p = some (.lst ys) → ys.Perm xs → Q (.ref p) H'
theorem scMixed : FnScope ["_law_stream_here", "_law_things", "_law_left", "_law_found", "_law_k"] ["_law_stream_here", "_law_things"] (defScope sMixed) := ⟨rfl, rfl, rfl, by decide +kernel, rfl, by decide +kernel, by decide +kernel⟩
theorem perm_erase {α : Type} : ∀ {l : List α} {i : Nat} {x : α}, l[i]? = some x → (x :: l.eraseIdx i).Perm l
  | [], _, _, h => by simp at h
  | y :: r, 0, x, h => by
    cases (Option.some.inj h)
    exact List.Perm.refl _
  | y :: r, i + 1, x, h => by
    have h' : r[i]? = some x := h
    have ih := perm_erase h'
    exact (List.Perm.swap y x _).trans (ih.cons y)
theorem ok_mixed {f : Addr} {fd : FuncData} (F : L2.Fun K "_law_mixed" "_law_mixed" sMixed f fd) (T : Bn mg) (cD : C8.Cal P w K mg base 1 "_law_draw" spDraw []) : FnOk P w K mg base CX0 2 f fd ["_law_stream_here", "_law_things"] (spMixed K) := by
  refine F.ok scMixed (fun vs H Q E h => ?_) (fun cdv A outer s H vs Q E hr h => ?_)
  · obtain ⟨a, b, n, t, xs, rfl, _⟩ := h
    rfl
  · obtain ⟨a, b, n, t, xs, rfl, hS, hX, hn, h1, k⟩ := h
    refine ⟨_, pss_cons (ps_par (i := 2) (j := 3) (by rfl) scMixed.nd rfl rfl (by decide) rfl rfl (pa_cons (pe_callTy call_list_of (by rfl) T.list boot_list (pa_cons (pv 1) pa_nil)) (pa_cons (pe_lst pa_nil) pa_nil)) (by rfl))
      (pss_cons (ps_for PassesOwn.never rfl (pi_range1 rfl T.range (pa_cons (pe_callB call_len_seq (by rfl) T.len PySem.boot_len (pa_cons (pv 2) pa_nil)) pa_nil)) (pg_name (i := 4) scMixed.nd rfl (Or.inl rfl))
        (pss_one (ps_expr (pe_bm PySem.F.plainAttrs_list PySem.F.slot_list_append PySem.F.type_list_append mt_append (pv 3)
          (pa_cons (pe_bm PySem.F.plainAttrs_list PySem.F.slot_list_pop PySem.F.type_list_pop mt_popAt (pv 2) (pa_cons (C8.pe_c cD hr (by decide) (by rfl) (pa_cons (pv 0) (pa_cons (pe_callB call_len_seq (by rfl) T.len PySem.boot_len (pa_cons (pv 2) pa_nil)) pa_nil))) pa_nil)) pa_nil)))))
      (pss_one (ps_ret (pv 3)))), ?_⟩
    refine ⟨_, rfl, t, xs, rfl, .inl (ex_l hid_ex hX), fun l hl => ⟨Nat.zero_le _, fun g hg => ?_⟩⟩
    have hlg : l ≠ g := ne_of_none upd_same hg
    have hg0 : H g = none := fresh_back (Ex.new hl) hg
    have ee : Ex H (upd (upd H l (.lst xs)) g (.lst [])) := (Ex.new hl).trans (Ex.new hg)
    have hL : upd (upd H l (.lst xs)) g (.lst []) l = some (.lst xs) := by rw [upd_ne hlg]; exact upd_same
    refine ⟨_, _, rfl, ?_⟩
    refine ⟨_, rfl, l, xs, rfl, .inl (SqL.of hL), (xs.length : Int), rfl, ?_, ?_, for_range (lo := 0) (n := ((xs.length : Int)).toNat) (fun i σ H1 => ∃ (zs ys : List V) (x4 : Option V), σ = [some (.ref a), some (.ref t), some (.ref l), some (.ref g), x4] ∧
        ExS a b H H1 ∧ SAt H1 a b (n + i) ∧ H1 l = some (.lst zs) ∧ H1 g = some (.lst ys) ∧ (ys ++ zs).Perm xs ∧ ys.length = i) ?_ ?_ ?_⟩
    · omega
    · omega
    · exact ⟨xs, [], none, rfl, hid_mono ee, hS.ex ee, hL, upd_same, List.Perm.refl _, rfl⟩
    · rintro i σ H1 hi ⟨zs, ys, x4, rfl, hE, hS1, hL1, hG1, hp, hy⟩
      have hlen := hp.length_eq
      rw [List.length_append] at hlen
      have hz : 0 < zs.length := by omega
      refine ⟨_, rfl, .inl ⟨rfl, _, SqL.of hG1⟩, _, rfl, .inl ⟨rfl, _, SqL.of hL1⟩, _, rfl, _, rfl, l, zs, rfl, .inl (SqL.of hL1), a, b, n + i, _, rfl, hS1, by omega, by omega, by omega, fun H2 j hE2 hS2 j0 j1 => ?_⟩
      obtain ⟨j, rfl⟩ : ∃ m : Nat, j = (m : Int) := ⟨j.toNat, by omega⟩
      have hj : j < zs.length := by omega
      have la := hS.nea hl
      have lb := hS.neb hl
      have ga := hS.nea hg0
      have gb := hS.neb hg0
      have hL2 := hE2.at hL1 la lb
      have hG2 := hE2.at hG1 ga gb
      refine ⟨l, zs, (j : Int), j, zs[j], rfl, rfl, hL2, by omega, by omega, by rw [seqIndex_of (by omega) (by omega)]; rfl, List.getElem?_eq_getElem hj, ?_⟩
      have hG3 : upd H2 l (.lst (zs.eraseIdx j)) g = some (.lst ys) := by rw [upd_ne hlg.symm]; exact hG2
      refine ⟨g, ys, _, rfl, rfl, hG3, by rw [hy]; exact sz_m (by omega), ?_⟩
      refine ⟨zs.eraseIdx j, ys ++ [zs[j]], _, rfl, ?_, ((hS2.upd la lb).upd ga gb), by rw [upd_ne hlg]; exact upd_same, upd_same, ?_, by rw [List.length_append, hy]; rfl⟩
      · exact ExS.own (ExS.own (hE.trans hE2) hl la lb) hg0 ga gb
      · have q := perm_erase (List.getElem?_eq_getElem hj)
        rw [List.append_assoc]
        exact (List.Perm.append_left ys q).trans hp
    · rintro σ H1 ⟨zs, ys, x4, rfl, hE, hS1, hL1, hG1, hp, hy⟩
      have e : (xs.length : Int).toNat = xs.length := by omega
      have hz : zs = [] := by
        have hlen := hp.length_eq
        rw [List.length_append] at hlen
        exact List.eq_nil_of_length_eq_zero (by omega)
      subst hz
      rw [List.append_nil] at hp
      rw [e] at hS1
      exact ⟨_, rfl, k H1 g ys hE hS1 hg0 hG1 hp⟩
end
end AA

set_option Elab.async false
set_option linter.all false
set_option maxRecDepth 100000
set_option maxHeartbeats 4000000
namespace AA
open PySem PySem.Spec PyProof.Rows L2 Evl
section
variable {P : Program} {w : World} {K : PySem.W.Frag} {mg : Str → Option Value} {base : Heap}
/-! ### _law_amounts -/
def spAmounts : Sp := fun vs H Q _ => ∃ (a b : Addr) (n : Nat) (m : Int), vs = [.ref a, .int m] ∧ SAt H a b n ∧ n < 900000000 ∧
  ∀ (H' : Hp) (p : Addr) (x y : Int), ExS a b H H' → SAt H' a b (n + 2) → H p = none → H' p = some (.tup [.int x, .int y]) → -9 ≤ x → x ≤ 9 → -9 ≤ y → y ≤ 9 → Q (.ref p) H'
theorem scAmounts : FnScope ["_law_stream_here", "_law_way"] ["_law_stream_here", "_law_way"] (defScope sAmounts) := ⟨rfl, rfl, rfl, by decide +kernel, rfl, by decide +kernel, by decide +kernel⟩
theorem dec_int {x y : Int} : decide (V.int x = V.int y) = decide (x = y) := by
  by_cases h : x = y
  · subst h
    rw [decide_eq_true rfl, decide_eq_true rfl]
  · rw [decide_eq_false h, decide_eq_false (fun e => h (V.int.inj e))]
theorem dec_ite {A B : Prop} {p : Prop} [Decidable p] (h1 : p → A) (h2 : ¬ p → B) : if decide p = true then A else B := by
  by_cases h : p
  · rw [if_pos (decide_eq_true h)]
    exact h1 h
  · rw [if_neg (by rw [decide_eq_false h]; exact Bool.false_ne_true)]
    exact h2 h
theorem ok_amounts {f : Addr} {fd : FuncData} (F : L2.Fun K "_law_amounts" "_law_amounts" sAmounts f fd) (T : Bn mg) (cD : C8.Cal P w K mg base 1 "_law_draw" spDraw []) (cP : C8.Cal P w K mg base 2 "_law_pick" (spPick K) []) :
    FnOk P w K mg base CX0 3 f fd ["_law_stream_here", "_law_way"] spAmounts := by
  refine F.ok scAmounts (fun vs H Q E h => ?_) (fun cdv A outer s H vs Q E hr h => ?_)
  · obtain ⟨a, b, n, m, rfl, _⟩ := h
    rfl
  · obtain ⟨a, b, n, m, rfl, hS, hn, k⟩ := h
    refine ⟨_, pss_cons (ps_if (pt_cmpR op_eq (pv 1) pe_int (nomark _)) (pss_one (ps_ret (pe_tup (pa_cons (C8.pe_c cD hr (by decide) (by rfl) (pa_cons (pv 0) (pa_cons pe_int pa_nil))) (pa_cons (C8.pe_c cD hr (by decide) (by rfl) (pa_cons (pv 0) (pa_cons pe_int pa_nil))) pa_nil))))) pss_nil)
      (pss_cons (ps_if (pt_cmpR op_eq (pv 1) pe_int (nomark _)) (pss_one (ps_ret (pe_tup (pa_cons (pe_op op_sub (C8.pe_c cD hr (by decide) (by rfl) (pa_cons (pv 0) (pa_cons pe_int pa_nil))) pe_int) (pa_cons (pe_op op_sub (C8.pe_c cD hr (by decide) (by rfl) (pa_cons (pv 0) (pa_cons pe_int pa_nil))) pe_int) pa_nil))))) pss_nil)
      (pss_cons (ps_if (pt_cmpR op_eq (pv 1) pe_int (nomark _)) (pss_one (ps_ret (pe_tup (pa_cons (pe_op op_sub (C8.pe_c cD hr (by decide) (by rfl) (pa_cons (pv 0) (pa_cons pe_int pa_nil))) pe_int) (pa_cons (pe_op op_sub (C8.pe_c cD hr (by decide) (by rfl) (pa_cons (pv 0) (pa_cons pe_int pa_nil))) pe_int) pa_nil))))) pss_nil)
      (pss_one (ps_ret (pe_tup (pa_cons (C8.pe_c cP hr (by decide) (by rfl) (pa_cons (pv 0) (pa_cons (pe_lst (pa_cons pe_int (pa_cons pe_int (pa_cons pe_int (pa_cons pe_int (pa_cons pe_int pa_nil)))))) pa_nil)))
        (pa_cons (C8.pe_c cP hr (by decide) (by rfl) (pa_cons (pv 0) (pa_cons (pe_lst (pa_cons pe_int (pa_cons pe_int (pa_cons pe_int (pa_cons pe_int (pa_cons pe_int pa_nil)))))) pa_nil))) pa_nil))))))), ?_⟩
    refine ⟨_, rfl, rfl, _, rfl, ?_⟩
    refine ite2 (fun _ => ?_) (fun _ => ?_)
    · refine ⟨_, rfl, a, b, n, _, rfl, hS, by omega, by decide, by decide, fun H1 x e1 s1 x0 x1 => ?_⟩
      refine ⟨_, rfl, a, b, n + 1, _, rfl, s1, by omega, by decide, by decide, fun H2 y e2 s2 y0 y1 => ?_⟩
      refine ⟨by show 2 ≤ sizeLine; decide, fun p hp => ?_⟩
      exact k _ p x y (ExS.new (e1.trans e2) hp) (s2.ex (Ex.new hp)) (ExS.back (e1.trans e2) s2 hp) upd_same (by omega) (by omega) (by omega) (by omega)
    · refine ⟨_, rfl, rfl, _, rfl, ?_⟩
      refine ite2 (fun _ => ?_) (fun _ => ?_)
      · refine ⟨_, rfl, a, b, n, _, rfl, hS, by omega, by decide, by decide, fun H1 x e1 s1 x0 x1 => ?_⟩
        refine ⟨_, _, rfl, rfl, _, rfl, a, b, n + 1, _, rfl, s1, by omega, by decide, by decide, fun H2 y e2 s2 y0 y1 => ?_⟩
        refine ⟨_, _, rfl, rfl, by show 2 ≤ sizeLine; decide, fun p hp => ?_⟩
        exact k _ p (x - 4) (y - 4) (ExS.new (e1.trans e2) hp) (s2.ex (Ex.new hp)) (ExS.back (e1.trans e2) s2 hp) upd_same (by omega) (by omega) (by omega) (by omega)
      · refine ⟨_, rfl, rfl, _, rfl, ?_⟩
        refine ite2 (fun _ => ?_) (fun _ => ?_)
        · refine ⟨_, rfl, a, b, n, _, rfl, hS, by omega, by decide, by decide, fun H1 x e1 s1 x0 x1 => ?_⟩
          refine ⟨_, _, rfl, rfl, _, rfl, a, b, n + 1, _, rfl, s1, by omega, by decide, by decide, fun H2 y e2 s2 y0 y1 => ?_⟩
          refine ⟨_, _, rfl, rfl, by show 2 ≤ sizeLine; decide, fun p hp => ?_⟩
          exact k _ p (x - 9) (y - 9) (ExS.new (e1.trans e2) hp) (s2.ex (Ex.new hp)) (ExS.back (e1.trans e2) s2 hp) upd_same (by omega) (by omega) (by omega) (by omega)
        · refine ⟨_, rfl, by show 5 ≤ sizeLine; decide, fun l hl => ?_⟩
          have la := hS.nea hl
          have lb := hS.neb hl
          refine ⟨a, b, n, l, _, rfl, hS.upd la lb, by omega, SqL.of (by rw [hid_ne la lb]; exact upd_same), by decide, by decide, fun H1 i x e1 s1 hi => ?_⟩
          obtain ⟨c, hc, rfl⟩ := get_ints (ns := [0, 0, 0, 1, 3]) hi
          have hc1 : ∀ z ∈ ([0, 0, 0, 1, 3] : List Int), -9 ≤ z ∧ z ≤ 9 := by decide
          have hcb := hc1 c (mem_of_get hc)
          refine ⟨_, rfl, by show 5 ≤ sizeLine; decide, fun l2 hl2 => ?_⟩
          have la2 := s1.nea hl2
          have lb2 := s1.neb hl2
          refine ⟨a, b, n + 1, l2, _, rfl, s1.upd la2 lb2, by omega, SqL.of (by rw [hid_ne la2 lb2]; exact upd_same), by decide, by decide, fun H2 i2 y e2 s2 hi2 => ?_⟩
          obtain ⟨d, hd, rfl⟩ := get_ints (ns := [0, 0, 0, 1, 2]) hi2
          have hd1 : ∀ z ∈ ([0, 0, 0, 1, 2] : List Int), -9 ≤ z ∧ z ≤ 9 := by decide
          have hdb := hd1 d (mem_of_get hd)
          have ee : ExS a b H H2 := (hid_mono (Ex.new hl)).trans (e1.trans ((hid_mono (Ex.new hl2)).trans e2))
          refine ⟨by show 2 ≤ sizeLine; decide, fun p hp => ?_⟩
          exact k _ p c d (ExS.new ee hp) (s2.ex (Ex.new hp)) (ExS.back ee s2 hp) upd_same hcb.1 hcb.2 hdb.1 hdb.2
end
end AA

set_option Elab.async false
set_option linter.all false
set_option maxRecDepth 100000
set_option maxHeartbeats 4000000
namespace AA
open PySem PySem.Spec PyProof.Rows L2 Evl
section
variable {P : Program} {w : World} {K : PySem.W.Frag} {mg : Str → Option Value} {base : Heap}
/-! ### _law_step -/
def spStep (K : PySem.W.Frag) : Sp := fun vs H Q _ => ∃ (a b : Addr) (n : Nat) (o t m : Int), vs = [.ref a, .int o, .int t, .int m] ∧ SAt H a b n ∧ n < 800000000 ∧
  ∀ (H' : Hp) (p : Addr) (s : St5), ExS a b H H' → SAt H' a b (n + 5) → H p = none → Dp K (tps H') (.ref p) (stD s) → s.one = o → s.other = t → 1 ≤ s.ticks → StSm s → Q (.ref p) H'
theorem scStep : FnScope ["_law_stream_here", "_law_one", "_law_other", "_law_way", "_law_ticks", "_law_change"] ["_law_stream_here", "_law_one", "_law_other", "_law_way"] (defScope sStep) := ⟨rfl, rfl, rfl, by decide +kernel, rfl, by decide +kernel, by decide +kernel⟩
theorem ok_step {f : Addr} {fd : FuncData} (F : L2.Fun K "_law_step" "_law_step" sStep f fd) (T : Bn mg) (cD : C8.Cal P w K mg base 1 "_law_draw" spDraw []) (cP : C8.Cal P w K mg base 2 "_law_pick" (spPick K) []) (cA : C8.Cal P w K mg base 3 "_law_amounts" spAmounts []) :
    FnOk P w K mg base CX0 4 f fd ["_law_stream_here", "_law_one", "_law_other", "_law_way"] (spStep K) := by
  refine F.ok scStep (fun vs H Q E h => ?_) (fun cdv A outer s H vs Q E hr h => ?_)
  · obtain ⟨a, b, n, o, t, m, rfl, _⟩ := h
    rfl
  · obtain ⟨a, b, n, o, t, m, rfl, hS, hn, k⟩ := h
    refine ⟨_, pss_cons (ps_set (i := 4) scStep.nd rfl (Or.inl rfl) (pe_op op_add pe_int (C8.pe_c cD hr (by decide) (by rfl) (pa_cons (pv 0) (pa_cons (C8.pe_c cP hr (by decide) (by rfl) (pa_cons (pv 0) (pa_cons (pe_lst (pa_cons pe_int (pa_cons pe_int (pa_cons pe_int pa_nil)))) pa_nil))) pa_nil)))))
      (pss_cons (ps_set (i := 5) scStep.nd rfl (Or.inl rfl) (C8.pe_c cP hr (by decide) (by rfl) (pa_cons (pv 0) (pa_cons (pe_lst (pa_cons pe_int (pa_cons pe_int (pa_cons pe_int (pa_cons (pe_un un_neg pe_int) (pa_cons pe_int (pa_cons (pe_un un_neg pe_int) (pa_cons pe_int (pa_cons (pe_un un_neg pe_int) (pa_cons pe_int pa_nil)))))))))) pa_nil))))
      (pss_one (ps_ret (pe_tup (pa_cons (pv 1) (pa_cons (pv 2) (pa_cons (C8.pe_c cA hr (by decide) (by rfl) (pa_cons (pv 0) (pa_cons (pv 3) pa_nil))) (pa_cons (pv 4) (pa_cons (pv 5) pa_nil))))))))), ?_⟩
    -- ticks
    refine ⟨_, rfl, _, rfl, by show 3 ≤ sizeLine; decide, fun l hl => ?_⟩
    have la := hS.nea hl
    have lb := hS.neb hl
    refine ⟨a, b, n, l, _, rfl, hS.upd la lb, by omega, SqL.of (by rw [hid_ne la lb]; exact upd_same), by decide, by decide, fun H1 i x e1 s1 hi => ?_⟩
    obtain ⟨c, hc, rfl⟩ := get_ints (ns := [1, 2, 6]) hi
    have hc1 : ∀ z ∈ ([1, 2, 6] : List Int), 1 ≤ z ∧ z ≤ 6 := by decide
    have hcb := hc1 c (mem_of_get hc)
    refine ⟨a, b, n + 1, c, rfl, s1, by omega, by omega, by omega, fun H2 d e2 s2 d0 d1 => ?_⟩
    refine ⟨_, _, rfl, rfl, ?_⟩
    -- change
    refine ⟨_, rfl, _, rfl, _, rfl, _, rfl, by show 9 ≤ sizeLine; decide, fun l2 hl2 => ?_⟩
    have la2 := s2.nea hl2
    have lb2 := s2.neb hl2
    refine ⟨a, b, n + 2, l2, _, rfl, s2.upd la2 lb2, by omega, SqL.of (by rw [hid_ne la2 lb2]; exact upd_same), by decide, by decide, fun H3 j y e3 s3 hj => ?_⟩
    obtain ⟨g, hg, rfl⟩ := get_ints (ns := [0, 0, 1, -1, 2, -3, 5, -9, 9]) hj
    have hg1 : ∀ z ∈ ([0, 0, 1, -1, 2, -3, 5, -9, 9] : List Int), -9 ≤ z ∧ z ≤ 9 := by decide
    have hgb := hg1 g (mem_of_get hg)
    have ee : ExS a b H H3 := (hid_mono (Ex.new hl)).trans (e1.trans (e2.trans ((hid_mono (Ex.new hl2)).trans e3)))
    refine ⟨_, rfl, _, rfl, _, rfl, _, rfl, a, b, n + 3, m, rfl, s3, by omega, fun H4 u x y e4 s4 hu hu4 x0 x1 y0 y1 => ?_⟩
    refine ⟨_, rfl, _, rfl, by show 5 ≤ sizeLine; decide, fun p hp => ?_⟩
    have hpu : u ≠ p := ne_of_none hu4 hp
    have hu0 := ExS.back ee s3 hu
    have ua := s3.nea hu
    have ub := s3.neb hu
    have hp0 := ExS.back (ee.trans e4) s4 hp
    have pa := s4.nea hp
    have pb := s4.neb hp
    refine k _ p ⟨o, t, x, y, 1 + d, g⟩ (ExS.new (ee.trans e4) hp) (s4.ex (Ex.new hp)) hp0 (stD_mk (u := u) (SqT.of tps_tup) (SqT.of (tps_of ?_))) rfl rfl (by show 1 ≤ 1 + d; omega) ⟨x0, x1, y0, y1, by show 1 + d ≤ 6; omega, hgb.1, hgb.2⟩
    rw [upd_ne hpu]
    exact hu4
end
end AA

set_option Elab.async false
set_option linter.all false
set_option maxRecDepth 100000
set_option maxHeartbeats 4000000
namespace AA
open PySem PySem.Spec PyProof.Rows L2 Evl
theorem cut_to (xs : List V) (j : Nat) : cutV xs none (some (j : Int)) = xs.take j := by
  unfold cutV
  rw [HT.sIx_none, HT.sIx_nat, List.drop_zero, Nat.sub_zero]
  by_cases h : j ≤ xs.length
  · rw [Nat.min_eq_left h]
  · rw [Nat.min_eq_right (by omega), List.take_of_length_le (by omega), List.take_of_length_le (by omega)]
theorem perm_ints {ys : List V} {ns : List Int} (h : ys.Perm (ns.map V.int)) : ∃ ms : List Int, ys = ms.map V.int ∧ ms.Perm ns := by
  have all : ∀ (ys : List V), (∀ y ∈ ys, ∃ i, y = V.int i) → ∃ ms : List Int, ys = ms.map V.int := by
    intro ys
    induction ys with
    | nil => exact fun _ => ⟨[], rfl⟩
    | cons y r ih =>
      intro q
      obtain ⟨i, rfl⟩ := q y List.mem_cons_self
      obtain ⟨ms, rfl⟩ := ih fun z hz => q z (List.mem_cons_of_mem _ hz)
      exact ⟨i :: ms, rfl⟩
  obtain ⟨ms, rfl⟩ := all ys fun y hy => by
    obtain ⟨i, _, e⟩ := List.mem_map.mp (h.mem_iff.mp hy)
    exact ⟨i, e.symm⟩
  refine ⟨ms, rfl, ?_⟩
  have key := h.map (fun v => match v with | V.int i => i | _ => 0)
  rw [List.map_map, List.map_map] at key
  have e : (fun v => match v with | V.int i => i | _ => (0 : Int)) ∘ V.int = id := rfl
  rw [e, List.map_id, List.map_id] at key
  exact key
theorem rgV_ints (n : Int) : rgV 0 n = ((List.range n.toNat).map (fun i : Nat => (i : Int))).map V.int := by
  unfold rgV
  rw [List.map_map]
  have e : (n - 0).toNat = n.toNat := by congr 1; omega
  rw [e]
  apply List.map_congr_left
  intro i _
  show V.int (0 + (i : Int)) = V.int (i : Int)
  rw [Int.zero_add]
theorem range_nodup (n : Nat) : ((List.range n).map (fun i : Nat => (i : Int))).Nodup := by
  have h : (List.range n).Nodup := List.nodup_range
  rw [List.Nodup, List.pairwise_map]
  exact h.imp fun {x y} q z => q (by omega)
/-- a web as the laws draw it: places, unlike steps between them, small -/
structure WbOk (n : Int) (ss : List St5) : Prop where
  n1 : 1 ≤ n
  ok : ∀ s ∈ ss, StOk n s
  sm : ∀ s ∈ ss, StSm s
  nd : ss.Nodup
theorem WbOk.perm {n : Int} {ss ts : List St5} (h : WbOk n ss) (p : ts.Perm ss) : WbOk n ts := ⟨h.n1, fun s hs => h.ok s (p.mem_iff.mp hs), fun s hs => h.sm s (p.mem_iff.mp hs), p.symm.nodup h.nd⟩
theorem any_eqv (ss : List St5) (s : St5) : ((ss.map stD).any fun z => PyData.eqv z (stD s)) = decide (s ∈ ss) := by
  induction ss with
  | nil => rfl
  | cons t r ih =>
    rw [List.map_cons, List.any_cons, ih, stD_eqv]
    by_cases h : t = s
    · subst h
      rw [decide_eq_true rfl, decide_eq_true List.mem_cons_self]
      rfl
    · rw [decide_eq_false h]
      by_cases q : s ∈ r
      · rw [decide_eq_true q, decide_eq_true (List.mem_cons_of_mem _ q)]
        rfl
      · rw [decide_eq_false q, decide_eq_false (fun z => (List.mem_cons.mp z).elim (fun e => h e.symm) q)]
        rfl
/-- a permutation of items goes with one of what they say -/
theorem dpa_perm {K : PySem.W.Frag} {H : Hp} {xs ys : List V} (p : ys.Perm xs) : ∀ {ss : List St5}, DpAll K H xs (ss.map stD) → ∃ ts : List St5, ts.Perm ss ∧ DpAll K H ys (ts.map stD) := by
  induction p with
  | nil => exact fun {ss} h => ⟨ss, List.Perm.refl _, h⟩
  | @cons x l1 l2 _ ih =>
    intro ss h
    cases ss with
    | nil => cases h
    | cons s r =>
      cases h with
      | cons h1 h2 =>
        obtain ⟨ts, q, k⟩ := ih h2
        exact ⟨s :: ts, q.cons s, .cons h1 k⟩
  | swap x y l =>
    intro ss h
    cases ss with
    | nil => cases h
    | cons s r =>
      cases r with
      | nil =>
        cases h with
        | cons h1 h2 => cases h2
      | cons t r =>
        cases h with
        | cons h1 h2 =>
          cases h2 with
          | cons h2 h3 => exact ⟨t :: s :: r, List.Perm.swap s t r, .cons h2 (.cons h1 h3)⟩
  | trans _ _ ih1 ih2 =>
    intro ss h
    obtain ⟨ts, q, k⟩ := ih2 h
    obtain ⟨us, q2, k2⟩ := ih1 k
    exact ⟨us, q2.trans q, k2⟩
section
variable {P : Program} {w : World} {K : PySem.W.Frag} {mg : Str → Option Value} {base : Heap}
end
end AA

set_option Elab.async false
set_option linter.all false
set_option maxRecDepth 100000
set_option maxHeartbeats 4000000
namespace AA
open PySem PySem.Spec PyProof.Rows L2 Evl
/-! ### lists for tuples, tuples for lists -/
mutual
inductive Ls : PyData → PyData → Prop
  | int (i : Int) : Ls (.int i) (.int i)
  | ll {xs ys : List PyData} : LsA xs ys → Ls (.list xs) (.list ys)
  | lt {xs ys : List PyData} : LsA xs ys → Ls (.list xs) (.tuple ys)
  | tl {xs ys : List PyData} : LsA xs ys → Ls (.tuple xs) (.list ys)
  | tt {xs ys : List PyData} : LsA xs ys → Ls (.tuple xs) (.tuple ys)
inductive LsA : List PyData → List PyData → Prop
  | nil : LsA [] []
  | cons {x y : PyData} {xs ys : List PyData} : Ls x y → LsA xs ys → LsA (x :: xs) (y :: ys)
end
theorem LsA.app : ∀ {xs ys us vs : List PyData}, LsA xs ys → LsA us vs → LsA (xs ++ us) (ys ++ vs)
  | [], _, _, _, h, k => by
    cases h
    exact k
  | x :: xs, _, _, _, h, k => by
    cases h with
    | cons h1 h2 => exact .cons h1 (LsA.app h2 k)
mutual
/-- allI in lists and tuples alone -/
def allI : PyData → Bool
  | .int _ => true
  | .list xs => allIA xs
  | .tuple xs => allIA xs
  | _ => false
def allIA : List PyData → Bool
  | [] => true
  | x :: xs => allI x && allIA xs
end
mutual
def cnt : PyData → Nat
  | .list xs => cntA xs + 1
  | .tuple xs => cntA xs + 1
  | _ => 1
def cntA : List PyData → Nat
  | [] => 0
  | x :: xs => cnt x + cntA xs
end
theorem cnt_pos : ∀ d : PyData, 1 ≤ cnt d
  | .none => Nat.le_refl _
  | .bool _ => Nat.le_refl _
  | .int _ => Nat.le_refl _
  | .str _ => Nat.le_refl _
  | .list xs => Nat.le_add_left _ _
  | .tuple xs => Nat.le_add_left _ _
  | .dict _ => Nat.le_refl _
theorem cntA_len : ∀ ds : List PyData, ds.length ≤ cntA ds
  | [] => Nat.le_refl _
  | d :: r => by
    have h1 := cnt_pos d
    have h2 := cntA_len r
    show r.length + 1 ≤ cnt d + cntA r
    omega
theorem cntA_app : ∀ (ds es : List PyData), cntA (ds ++ es) = cntA ds + cntA es
  | [], es => (Nat.zero_add _).symm
  | d :: r, es => by
    show cnt d + cntA (r ++ es) = cnt d + cntA r + cntA es
    rw [cntA_app r es, Nat.add_assoc]
theorem cntA_get {ds : List PyData} {i : Nat} {d : PyData} (h : ds[i]? = some d) : cntA (ds.take (i + 1)) = cntA (ds.take i) + cnt d := by
  rw [List.take_add_one, h]
  show cntA (ds.take i ++ [d]) = _
  rw [cntA_app]
  rfl
theorem cntA_take_le (ds : List PyData) (i : Nat) : cntA (ds.take i) ≤ cntA ds := by
  have : cntA ds = cntA (ds.take i ++ ds.drop i) := by rw [List.take_append_drop]
  rw [this, cntA_app]
  omega
theorem allIA_get : ∀ {ds : List PyData} {i : Nat} {d : PyData}, allIA ds = true → ds[i]? = some d → allI d = true
  | [], _, _, _, e => by simp at e
  | x :: xs, 0, d, h, e => by
    cases (Option.some.inj e)
    exact (Bool.and_eq_true_iff.mp h).1
  | x :: xs, i + 1, d, h, e => allIA_get (i := i) (Bool.and_eq_true_iff.mp h).2 e
theorem depthA_get : ∀ {ds : List PyData} {i : Nat} {d : PyData}, ds[i]? = some d → d.depth ≤ PyData.depthAll ds
  | [], _, _, e => by simp at e
  | x :: xs, 0, d, e => by
    cases (Option.some.inj e)
    show _ ≤ max _ _
    omega
  | x :: xs, i + 1, d, e => by
    have := depthA_get (ds := xs) (i := i) e
    show _ ≤ max _ _
    omega
theorem LsA.len : ∀ {xs ys : List PyData}, LsA xs ys → xs.length = ys.length
  | [], _, h => by
    cases h
    rfl
  | x :: xs, _, h => by
    cases h with
    | cons h1 h2 =>
      rw [List.length_cons, List.length_cons, LsA.len h2]
/-- a walk that is a list's or a tuple's -/
theorem pi_or {X : Cx} {tg l : Expr} {t1 t2 : TI} (h1 : PI X tg l t1) (h2 : PI X tg l t2) : PI X tg l (fun σ H R => t1 σ H R ∨ t2 σ H R) :=
  ⟨fun pins s σ H R I h => h.elim (h1.run pins s σ H R I) (h2.run pins s σ H R I)⟩
theorem ty_l {K : PySem.W.Frag} {H : Hp} {a : Addr} {xs : List V} (h : SqL K H a xs) : TyX K H (.ref a) (.type "list") := by
  rcases h with (h | ⟨o, h⟩) | ⟨o, its, n, h1, h2, _⟩
  · exact .base (.lst h)
  · exact .base (.frz h)
  · exact .kList h1 h2
theorem ty_t {K : PySem.W.Frag} {H : Hp} {a : Addr} {xs : List V} (h : SqT K H a xs) : TyX K H (.ref a) (.type "tuple") := by
  rcases h with (h | ⟨o, h⟩) | ⟨o, its, n, h1, h2, _⟩
  · exact .base (.tup h)
  · exact .fTuple h
  · exact .kTuple h1 h2
theorem seq_yes_l {K : PySem.W.Frag} : PySem.W.kitAny K (.type "list") [.type "list", .type "tuple"] = some true := kitAny_cons (b := true) (kit_ty (by decide +kernel)) (fun z => nomatch z) (fun _ => rfl)
theorem seq_yes_t {K : PySem.W.Frag} : PySem.W.kitAny K (.type "tuple") [.type "list", .type "tuple"] = some true :=
  kitAny_cons (b := false) (kit_ty (by decide +kernel)) (fun _ => kitAny_cons (b := true) (kit_ty (by decide +kernel)) (fun z => nomatch z) (fun _ => rfl)) (fun z => nomatch z)
theorem seq_no_i {K : PySem.W.Frag} : PySem.W.kitAny K (.type "int") [.type "list", .type "tuple"] = some false :=
  kitAny_cons (b := false) (kit_ty (by decide +kernel)) (fun _ => kitAny_cons (b := false) (kit_ty (by decide +kernel)) (fun _ => kitAny_nil) (fun z => nomatch z)) (fun z => nomatch z)
section
variable {P : Program} {w : World} {K : PySem.W.Frag} {mg : Str → Option Value} {base : Heap}
/-! ### _law_loose -/
def spLoose (K : PySem.W.Frag) (D : Nat) : Sp := fun vs H Q _ => ∃ (a b : Addr) (n : Nat) (v : V) (d : PyData), vs = [.ref a, v] ∧ SAt H a b n ∧ Dp K (hid a b H) v d ∧ allI d = true ∧ d.depth < D ∧ n + cnt d < 900000000 ∧ cnt d < 1000000 ∧
  ∀ (H' : Hp) (v' : V) (d' : PyData), ExS a b H H' → SAt H' a b (n + cnt d) → Dp K (nw H H') v' d' → Ls d d' → Q v' H'
theorem scLoose : FnScope ["_law_stream_here", "_law_thing", "_law_some", "_law_one"] ["_law_stream_here", "_law_thing"] (defScope sLoose) := ⟨rfl, rfl, rfl, by decide +kernel, rfl, by decide +kernel, by decide +kernel⟩
theorem ok_loose {f : Addr} {fd : FuncData} (F : L2.Fun K "_law_loose" "_law_loose" sLoose f fd) (T : Bn mg) (hm : mg "_law_loose" = some (.ref f)) (bL : Binds K fd ["_law_stream_here", "_law_thing"] []) (cD : C8.Cal P w K mg base 1 "_law_draw" spDraw []) :
    ∀ D : Nat, FnOk P w K mg base CX0 (D + 2) f fd ["_law_stream_here", "_law_thing"] (spLoose K D)
  | 0 => ⟨fun vs H Q E h => by
      obtain ⟨a, b, n, v, d, rfl, _⟩ := h
      rfl, fun A outer s H args us vs Q E _ _ _ _ h => by
      obtain ⟨a, b, n, v, d, _, _, _, _, h, _⟩ := h
      exact absurd h (Nat.not_lt_zero _)⟩
  | D + 1 => by
    have cL : C8.Cal P w K mg base (D + 2) "_law_loose" (spLoose K D) [] := cal_of F hm bL (ok_loose F T hm bL cD D)
    refine F.ok scLoose (fun vs H Q E h => ?_) (fun cdv A outer s H vs Q E hr h => ?_)
    · obtain ⟨a, b, n, v, d, rfl, _⟩ := h
      rfl
    · obtain ⟨a, b, n, v, d, rfl, hS, hd, hi, hdp, hn, hc, k⟩ := h
      refine ⟨_, pss_cons (ps_if (pt_val (pe_callB call_isiT (by rfl) T.isinstance boot_isinstance (pa_cons (pv 1) (pa_cons (pe_tup (pa_cons (pe_bltn (v := .ty "list") (by rfl) T.list boot_list rfl) (pa_cons (pe_bltn (v := .ty "tuple") (by rfl) T.tuple boot_tuple rfl) pa_nil))) pa_nil))))
          (pss_cons (ps_setLc (i := 2) (own := [("_law_one", 3)]) (g := gName 3) (tt := tYes) (by rfl) scLoose.nd rfl rfl (sw_true rfl rfl rfl (by decide +kernel)) (pi_or (pi_list (pv 1)) (pi_tup (pv 1))) (blkOk_by (N := ["_law_stream_here", "_law_thing", "_law_some", "_law_one"]) (sc := defScope sLoose) (by decide +kernel))
              (fun _ _ _ _ _ => pg_name (i := 3) scLoose.nd rfl (Or.inl rfl)) (fun _ _ _ _ _ => pts_nil) (fun _ _ _ _ _ => C8.pe_c cL hr (by omega) (by rfl) (pa_cons (pv 0) (pa_cons (pv 3) pa_nil))))
            (pss_one (ps_ret (pe_ifExp (pt_cmpR op_eq (C8.pe_c cD hr (by omega) (by rfl) (pa_cons (pv 0) (pa_cons pe_int pa_nil))) pe_int (nomark _)) (pv 2) (pe_callTy call_tuple_of (by rfl) T.tuple boot_tuple (pa_cons (pv 2) pa_nil)))))) pss_nil)
        (pss_one (ps_ret (pv 1))), ?_⟩
      refine ⟨_, rfl, by show 2 ≤ sizeLine; decide, fun p hp => ?_⟩
      have pa := hS.nea hp
      have pb := hS.neb hp
      have e1 : ExS a b H (upd H p (.tup [.ty "list", .ty "tuple"])) := ExS.new ExS.rfl hp
      have s1 := hS.ex (Ex.new (o := .tup [.ty "list", .ty "tuple"]) hp)
      -- the items, whatever they stand in
      have turn : ∀ (c : Addr) (xs : List V) (ds : List PyData) (L : Addr), DpAll K (hid a b H) xs ds → allIA ds = true → PyData.depthAll ds < D → n + cntA ds + 1 < 900000000 → cntA ds < 1000000 → H L = none →
          ∀ (i : Nat) (x : V) (H1 : Hp), xs[i]? = some x →
            (∃ (ys : List V) (es : List PyData), ExS a b H H1 ∧ SAt H1 a b (n + cntA (ds.take i)) ∧ H1 L = some (.lst ys) ∧ DpAll K (hid L L (nw H H1)) ys es ∧ LsA (ds.take i) es ∧ ys.length = i) →
            spLoose K D [.ref a, x] H1 (fun y H4 => ∃ acc, H4 L = some (.lst acc) ∧ acc.length < sizeLine ∧
              ∃ (ys : List V) (es : List PyData), ExS a b H (upd H4 L (.lst (acc ++ [y]))) ∧ SAt (upd H4 L (.lst (acc ++ [y]))) a b (n + cntA (ds.take (i + 1))) ∧ upd H4 L (.lst (acc ++ [y])) L = some (.lst ys) ∧
                DpAll K (hid L L (nw H (upd H4 L (.lst (acc ++ [y]))))) ys es ∧ LsA (ds.take (i + 1)) es ∧ ys.length = i + 1) E := by
        rintro c xs ds L hD hA hdep hn hc hL i x H1 hi ⟨ys, es, hE, hS1, hL1, hY, hLs, hyl⟩
        obtain ⟨di, hdi, hx⟩ := dpa_get hD hi
        have h1 := cntA_take_le ds (i + 1)
        rw [cntA_get hdi] at h1
        have hlen := cntA_len ds
        have hil : i < ds.length := (List.getElem?_eq_some_iff.mp hdi).1
        have la := hS.nea hL
        have lb := hS.neb hL
        refine ⟨a, b, n + cntA (ds.take i), x, di, rfl, hS1, dp_ex hE _ _ hx, allIA_get hA hdi, Nat.lt_of_le_of_lt (depthA_get hdi) hdep, by omega, by omega, fun H2 v' d' e2 s2 hv' hls => ?_⟩
        have hL2 : H2 L = some (.lst ys) := e2.at hL1 la lb
        have ups : Ex (hid L L (nw H H2)) (hid L L (nw H (upd H2 L (.lst (ys ++ [v']))))) := fun z o hz => by
          obtain ⟨z1, z2, _⟩ := hid_some hz
          obtain ⟨z3, z4⟩ := nw_some z1
          rw [hid_ne z2 z2]
          exact nw_of z3 (by rw [upd_ne z2]; exact z4)
        refine ⟨ys, hL2, by rw [hyl]; exact sz_m (by omega), ys ++ [v'], es ++ [d'], ExS.own (hE.trans e2) hL la lb, ?_, upd_same, ?_, ?_, by rw [List.length_append, hyl]; rfl⟩
        · rw [cntA_get hdi, ← Nat.add_assoc]
          exact s2.upd la lb
        · refine dpa_app (dpa_ex ((hid_mono (nw_step hS e2)).trans ups) _ _ hY) (.cons (dp_ex (Ex.trans (fun z o hz => ?_) ups) _ _ hv') .nil)
          obtain ⟨z1, z2⟩ := nw_some hz
          have zL : z ≠ L := fun q => by
            rw [q, hL1] at z1
            cases z1
          rw [hid_ne zL zL]
          exact nw_of (hE.back hS1 z1) z2
        · rw [List.take_add_one, hdi]
          exact LsA.app hLs (.cons hls .nil)
      -- behind the comprehension: what is handed back
      have fin1 : ∀ (ds : List PyData) (L : Addr) (ys : List V) (es : List PyData) (H1 H2 : Hp), H L = none → ExS a b H H1 → SAt H1 a b (n + cntA ds) → H1 L = some (.lst ys) → DpAll K (hid L L (nw H H1)) ys es → (Ls d (.list es) ∧ Ls d (.tuple es)) → cnt d = cntA ds + 1 →
          ExS a b H1 H2 → SAt H2 a b (n + cntA ds + 1) → Q (.ref L) H2 ∧ SqL K H2 L ys ∧ ∀ u, H2 u = none → Q (.ref u) (upd H2 u (.tup ys)) := by
        intro ds L ys es H1 H2 hL hE hS1 hL1 hY hls hcd e2 s2
        have la := hS.nea hL
        have lb := hS.neb hL
        have hL2 : H2 L = some (.lst ys) := e2.at hL1 la lb
        have hY2 := dpa_ex ((hid_mono (nw_step hS e2)).trans hid_ex) _ _ hY
        refine ⟨k H2 (.ref L) (.list es) (hE.trans e2) (s2.mono (by omega)) (.lst (SqL.of (nw_of hL hL2)) hY2) hls.1, SqL.of hL2, fun u hu => ?_⟩
        have hu0 : H u = none := ExS.back (hE.trans e2) s2 hu
        refine k _ (.ref u) (.tuple es) (ExS.new (hE.trans e2) hu) ((s2.ex (Ex.new hu)).mono (by omega)) (.tup (SqT.of (nw_of hu0 upd_same)) (dpa_ex (fun z o hz => ?_) _ _ hY2)) hls.2
        obtain ⟨z1, z2⟩ := nw_some hz
        exact nw_of z1 (Ex.new hu z o z2)
      rcases d with _ | b0 | i0 | x0 | ds | ds | kvs
      · cases hi
      · cases hi
      · cases hd
        refine ⟨.int i0, p, _, _, [.type "list", .type "tuple"], false, rfl, upd_same, .cons (.ty _) (.cons (.ty _) .nil), .base (.int i0), seq_no_i, false, rfl, ?_⟩
        refine iteF ?_
        refine ⟨_, rfl, k _ (.int i0) (.int i0) e1 (s1.mono (by omega)) (.int i0) (.int i0)⟩
      · cases hi
      · cases hd with
        | lst hx hD =>
          rename_i c xs
          have hA : allIA ds = true := hi
          have hdep : PyData.depthAll ds < D := Nat.lt_of_succ_lt_succ hdp
          have hcn : cnt (.list ds) = cntA ds + 1 := rfl
          rw [hcn] at hn hc
          have hxl := dpa_len hD
          refine ⟨_, p, _, _, [.type "list", .type "tuple"], true, rfl, upd_same, .cons (.ty _) (.cons (.ty _) .nil), ty_l (ex_l (e1.trans hid_ex) hx), seq_yes_l, true, rfl, ?_⟩
          refine iteT ?_
          refine Or.inl ⟨_, rfl, c, rfl, ⟨xs, ex_l (e1.trans hid_ex) hx⟩, fun L hL => ?_⟩
          have hL0 : H L = none := fresh_back (Ex.new hp) hL
          have la := hS.nea hL0
          have lb := hS.neb hL0
          refine lc_list (xs := xs) (fun i H1 => ∃ (ys : List V) (es : List PyData), ExS a b H H1 ∧ SAt H1 a b (n + cntA (ds.take i)) ∧ H1 L = some (.lst ys) ∧ DpAll K (hid L L (nw H H1)) ys es ∧ LsA (ds.take i) es ∧ ys.length = i) ?_ ?_ ?_ ?_
          · exact ⟨[], [], ExS.own e1 hL0 la lb, s1.upd la lb, upd_same, .nil, .nil, rfl⟩
          · rintro i H1 _ ⟨ys, es, q⟩
            exact ex_l (q.1.trans hid_ex) hx
          · rintro i x H1 hxi q
            refine ⟨rfl, ?_⟩
            exact ⟨_, rfl, _, rfl, turn c xs ds L hD hA hdep (by omega) (by omega) hL0 i x H1 hxi q⟩
          · rintro H1 ⟨ys, es, hE, hS1, hL1, hY, hls, hyl⟩
            rw [hxl, List.take_of_length_le (Nat.le_refl _)] at hls hS1
            refine ⟨_, rfl, a, b, n + cntA ds, 2, rfl, hS1, by omega, by decide, by decide, fun H2 x e2 s2 x0 x1 => ⟨rfl, _, rfl, ?_⟩⟩
            obtain ⟨f1, f2, f3⟩ := fin1 ds L ys es H1 H2 hL0 hE hS1 hL1 hY ⟨.ll hls, .lt hls⟩ hcn e2 s2
            refine dec_ite (fun _ => ?_) (fun _ => ?_)
            · exact ⟨_, rfl, f1⟩
            · exact ⟨_, rfl, L, ys, rfl, .inl ⟨f2, f3⟩⟩
      · cases hd with
        | tup hx hD =>
          rename_i c xs
          have hA : allIA ds = true := hi
          have hdep : PyData.depthAll ds < D := Nat.lt_of_succ_lt_succ hdp
          have hcn : cnt (.tuple ds) = cntA ds + 1 := rfl
          rw [hcn] at hn hc
          have hxl := dpa_len hD
          refine ⟨_, p, _, _, [.type "list", .type "tuple"], true, rfl, upd_same, .cons (.ty _) (.cons (.ty _) .nil), ty_t (ex_t (e1.trans hid_ex) hx), seq_yes_t, true, rfl, ?_⟩
          refine iteT ?_
          refine Or.inr ⟨_, rfl, c, rfl, ⟨xs, ex_t (e1.trans hid_ex) hx⟩, fun L hL => ?_⟩
          have hL0 : H L = none := fresh_back (Ex.new hp) hL
          have la := hS.nea hL0
          have lb := hS.neb hL0
          refine lc_tup (xs := xs) (fun i H1 => ∃ (ys : List V) (es : List PyData), ExS a b H H1 ∧ SAt H1 a b (n + cntA (ds.take i)) ∧ H1 L = some (.lst ys) ∧ DpAll K (hid L L (nw H H1)) ys es ∧ LsA (ds.take i) es ∧ ys.length = i) ?_ ?_ ?_ ?_
          · exact ⟨[], [], ExS.own e1 hL0 la lb, s1.upd la lb, upd_same, .nil, .nil, rfl⟩
          · rintro i H1 _ ⟨ys, es, q⟩
            exact ex_t (q.1.trans hid_ex) hx
          · rintro i x H1 hxi q
            refine ⟨rfl, ?_⟩
            exact ⟨_, rfl, _, rfl, turn c xs ds L hD hA hdep (by omega) (by omega) hL0 i x H1 hxi q⟩
          · rintro H1 ⟨ys, es, hE, hS1, hL1, hY, hls, hyl⟩
            rw [hxl, List.take_of_length_le (Nat.le_refl _)] at hls hS1
            refine ⟨_, rfl, a, b, n + cntA ds, 2, rfl, hS1, by omega, by decide, by decide, fun H2 x e2 s2 x0 x1 => ⟨rfl, _, rfl, ?_⟩⟩
            obtain ⟨f1, f2, f3⟩ := fin1 ds L ys es H1 H2 hL0 hE hS1 hL1 hY ⟨.tl hls, .tt hls⟩ hcn e2 s2
            refine dec_ite (fun _ => ?_) (fun _ => ?_)
            · exact ⟨_, rfl, f1⟩
            · exact ⟨_, rfl, L, ys, rfl, .inl ⟨f2, f3⟩⟩
      · cases hi
end
end AA

set_option Elab.async false
set_option linter.all false
set_option maxRecDepth 100000
set_option maxHeartbeats 4000000
/-! A function of the module, held as a value: isinstance of it. -/
namespace AA
open PySem PySem.Spec PyProof.Rows
theorem fl_lk : typeLookup (.type "function") "__class__" = pure (some (.builtin "object.__class__")) := by
  rw [typeLookup_type, builtinLookup_eq_fast]
  kernel_rfl
theorem fl_sub : isSubtype (.type "function") (.type (".".intercalate ("object.__class__".cutAt '.').dropLast)) = pure true := by
  rw [F.owner_object_class, isSubtype_type]
  kernel_rfl
theorem fl_ga : Slot "function" "__getattribute__" "object.__getattribute__" :=
  .of (owner := "object") (n := "__getattribute__") (by rw [typeLookup_type, builtinLookup_eq_fast]; kernel_rfl)
    (by decide +kernel) (by decide +kernel) (by decide +kernel) (by first | exact .inl (by decide +kernel) | exact .inr (by decide +kernel))
    (by rw [isSubtype_type]; kernel_rfl)
section
variable {prog : Program} {w : World} {A : Around} {E : Value → Shared → Prop} {h : Heap} {g : Array GenState} {d : Drawn} {t : Nat} {os : OsState} {a : Addr} {o : Obj}
theorem fl_get {R : Result → Shared → Prop} (hx : h.get? a = some o) (hc : o.cls = .type "function") (hq : R (.ok (.ret (.type "function"))) ⟨h, g, d, t, os⟩) :
    codeAny (model prog w) A (.call (.builtin "getset_descriptor.__get__") ⟨[.builtin "object.__class__", .ref a, .type "function"], []⟩) R ⟨h, g, d, t, os⟩ := by
  have hT : (⟨h, g, d, t, os⟩ : Shared).TypeIs (.ref a) "function" := ⟨_, hx, hc⟩
  have hT5 : (⟨h, g, d, t, os⟩ : Shared).TypeIs (.builtin "object.__class__") "getset_descriptor" := F.typeOf_object_class
  have f8 := fl_sub
  refine codeAny_call_builtin F.slot_gs_get.plain F.entry_gs_get (F.slot_gs_get.check _ _ _ _ _ _ _ _ hT5 (F.args_gs_get _ _ _) ?_)
  repeat (any_goals (first | assumption | wp_step))
  refine ⟨Code.quiet_builtin _ (by decide +kernel), codeAny_builtin F.entry_object_class ?_⟩
  repeat (any_goals (first | assumption | wp_step))
theorem fl_entry {tk : Tok} {Q : PySem.Fin → Shared → Prop} (hx : h.get? a = some o) (hc : o.cls = .type "function") (hq : Q (.done (.ret (.type "function"))) ⟨h, g, d, t, os⟩) :
    wpAny (model prog w) A (Builtin.«object.__getattribute__» ⟨[.ref a, .str "__class__" tk], []⟩) Q E ⟨h, g, d, t, os⟩ := by
  have hT : (⟨h, g, d, t, os⟩ : Shared).TypeIs (.ref a) "function" := ⟨_, hx, hc⟩
  have hT5 : (⟨h, g, d, t, os⟩ : Shared).TypeIs (.builtin "object.__class__") "getset_descriptor" := F.typeOf_object_class
  have f4 := fl_lk
  have f5 := F.typeOf_object_class
  have f6 := F.slot_gs_get.lookup
  have f7 := F.slot_gs_set.lookup
  repeat (any_goals (first | assumption | wp_step))
  refine fl_get hx hc ?_
  repeat (any_goals (first | assumption | wp_step))
theorem fl_call {tk : Tok} {R : Result → Shared → Prop} (hx : h.get? a = some o) (hc : o.cls = .type "function") (hq : R (.ok (.ret (.type "function"))) ⟨h, g, d, t, os⟩) :
    codeAny (model prog w) A (.call (.builtin "object.__getattribute__") ⟨[.ref a, .str "__class__" tk], []⟩) R ⟨h, g, d, t, os⟩ :=
  codeAny_call_builtin fl_ga.plain F.entry_object_getattribute
    (fl_ga.check _ _ _ _ _ _ _ _ (show (⟨h, g, d, t, os⟩ : Shared).TypeIs (.ref a) "function" from ⟨_, hx, hc⟩) (F.args_object_getattribute_2 _ _) (fl_entry hx hc hq))
theorem fl_by {tk : Tok} {Q : Value → Shared → Prop} (hx : h.get? a = some o) (hc : o.cls = .type "function") (hq : Q (.type "function") ⟨h, g, d, t, os⟩) :
    wpAny (model prog w) A (getAttrBy (.ref a) (.str "__class__" tk) false) Q E ⟨h, g, d, t, os⟩ := by
  have hT : (⟨h, g, d, t, os⟩ : Shared).TypeIs (.ref a) "function" := ⟨_, hx, hc⟩
  have f2 := fl_ga.lookup
  have f3 := fl_ga.bind (.ref a)
  repeat (any_goals (first | assumption | wp_step))
  refine fl_call hx hc ?_
  repeat (any_goals (first | assumption | wp_step))
theorem fl_attr {Q : Option Value → Shared → Prop} (hx : h.get? a = some o) (hc : o.cls = .type "function") (hq : Q (some (.type "function")) ⟨h, g, d, t + 1, os⟩) :
    wpAny (model prog w) A (getAttr? (.ref a) "__class__") Q E ⟨h, g, d, t, os⟩ := by
  unfold getAttr? getAttrBy?
  repeat (any_goals (first | assumption | with_reducible apply fl_by hx hc | wp_step))
end
theorem kitx_fn {K : PySem.W.Frag} {a : Addr} : PySem.W.KitX K (.ref a) (.type "function") (PySem.W.KitAt a "function") :=
  PySem.W.kitx_of PySem.W.kitAt_ty (fun {_ _ _ _ _ s} p k => by
    obtain ⟨h, g, d, t, os⟩ := s
    obtain ⟨o, h1, h2⟩ := p
    exact fl_attr h1 h2 k)
theorem fl_eq : Slot "function" (cmpInfo .Eq).2.1 "object.__eq__" :=
  .of (owner := "object") (n := "__eq__") (by rw [typeLookup_type, builtinLookup_eq_fast]; kernel_rfl)
    (by decide +kernel) (by decide +kernel) (by decide +kernel) (by first | exact .inl (by decide +kernel) | exact .inr (by decide +kernel))
    (by rw [isSubtype_type]; kernel_rfl)
section
open L2
variable {X : Cx} {j : Nat}
/-- what isinstance asks of a value: TyX, or a function of the module -/
def TyF (K : PySem.W.Frag) (H : Hp) (x : V) (t : Value) : Prop := TyX K H x t ∨ ∃ (a : Addr) (o : Obj), x = .ref a ∧ K.lookup a = some o ∧ o.cls = .type "function" ∧ t = .type "function"
theorem kit_F {pins : List (Addr × Obj)} {σ : L2.St} {H : Hp} {s : Shared} {x : V} {u t : Value} (I : Inv X pins σ H s) (rx : RelV x u) (ty : TyF X.K H x t) :
    ∃ P : Heap → Prop, PySem.W.KitX X.K u t P ∧ P s.heap ∧ u ≠ .builtin "__main__.__loader__#opaque" := by
  rcases ty with ty | ⟨a, o, rfl, h1, h2, rfl⟩
  · exact kit_of I rx ty
  · cases (show u = Value.ref a from rx)
    exact ⟨_, kitx_fn, ⟨o, I.kIn a o h1, h2⟩, fun z => nomatch z⟩
def rIs1 (K : PySem.W.Frag) : List V → Hp → VK → Prop := fun xs H Q => ∃ (x c : V) (t u : Value) (b : Bool), xs = [x, c] ∧ ClsV c u ∧ TyF K H x t ∧ PySem.W.kitOne K t u = some b ∧ Q (.bl b) H
def rIsN (K : PySem.W.Frag) : List V → Hp → VK → Prop := fun xs H Q => ∃ (x : V) (tp : Addr) (cs : List V) (t : Value) (us : List Value) (b : Bool), xs = [x, .ref tp] ∧ H tp = some (.tup cs) ∧ Paired ClsV cs us ∧ TyF K H x t ∧ PySem.W.kitAny K t us = some b ∧ Q (.bl b) H
theorem call_is1 : CallR X (.builtin "isinstance") (rIs1 X.K) := by
  intro pins s σ H xs us Q I r h
  obtain ⟨x, c, t, u, b, rfl, k, ty, e, q⟩ := h
  obtain ⟨u1, u2, rfl, r1, r2⟩ := vals2 r
  cases k.eq r2
  obtain ⟨P, Z, p, hx⟩ := kit_F I r1 ty
  exact PySem.W.kia_one Z I.kIn p e hx fun tk => ⟨.bl b, H, I.tok tk, rfl, q⟩
theorem call_isN : CallR X (.builtin "isinstance") (rIsN X.K) := by
  intro pins s σ H xs us Q I r h
  obtain ⟨x, tp, cs, t, ws, b, rfl, hT, k, ty, e, q⟩ := h
  obtain ⟨u1, u2, rfl, r1, r2⟩ := vals2 r
  cases (show u2 = Value.ref tp from r2)
  obtain ⟨P, Z, p, hx⟩ := kit_F I r1 ty
  obtain ⟨_, its, rv, ob, g1, g2, n, g3⟩ := (show ObjOk X.prog X.w H s.heap tp (.tup cs) from I.hok tp _ hT)
  cases ClsV.all k rv
  obtain ⟨oc, od, dt, sl⟩ := ob
  simp only at g2 g3
  subst g2 g3
  exact PySem.W.kia_tup Z I.kIn p g1 e hx fun tk => ⟨.bl b, H, I.tok tk, rfl, q⟩
/-- f == f, a function of the module -/
def rEqF (K : PySem.W.Frag) : R2 := fun x y H Q => ∃ (f : Addr) (o : Obj), x = .ref f ∧ y = .ref f ∧ K.lookup f = some o ∧ o.cls = .type "function" ∧ Q (.bl true) H
theorem op_eqF (hr : Room j X.A) : OpR X (compareOp .Eq) (rEqF X.K) := by
  intro pins s σ H x y v u Q I rx ry h
  obtain ⟨f, o, rfl, rfl, h1, h2, q⟩ := h
  cases (show v = Value.ref f from rx)
  cases (show u = Value.ref f from ry)
  have hT : s.TypeIs (.ref f) "function" := ⟨o, I.kIn f o h1, h2⟩
  show wpAny _ _ (richCompare .Eq (.ref f) (.ref f)) _ _ s
  refine wpAny_richCompare_same_room (op := .Eq) hT hT fl_eq (wpAny_call_entry fl_eq hT F.cmpEntry_eq (objEq_entry_same ?_) (F.cmpArgs_eq _ _)) hr.units0
  exact ⟨_, rfl, fun e => (nomatch e), ⟨.bl true, H, I, rfl, q⟩⟩
end
end AA

set_option Elab.async false
set_option linter.all false
set_option maxRecDepth 100000
set_option maxHeartbeats 4000000
namespace AA
open PySem PySem.Spec PyProof.Rows L2 Evl
theorem op_orR {X : Cx} {f : Value → Value → Sem Value} {r1 r2 : R2} (h1 : OpR X f r1) (h2 : OpR X f r2) : OpR X f (fun x y H Q => r1 x y H Q ∨ r2 x y H Q) :=
  fun pins s σ H x y v u Q I rx ry h => h.elim (h1 pins s σ H x y v u Q I rx ry) (h2 pins s σ H x y v u Q I rx ry)
/-! ### alike, kind by kind -/
def leaf : V → Bool
  | .non => true
  | .bl _ => true
  | .int _ => true
  | .str z => PyData.strOk z
  | _ => false
/-- what an own class must say, so that isinstance asks its instances rightly -/
structure InsK (K : PySem.W.Frag) (C : Addr) : Prop where
  cl : Cls K C
  ha : PySem.W.findIn K (.ref C) "__class__" = some (some (.builtin "object.__class__"))
  hn : PySem.W.specialIn K (.builtin "object.__class__") "__get__" = some (some (.builtin "getset_descriptor.__get__"))
  ht : PySem.W.takesIn K (.builtin "object.__class__") = some true
  hm : PySem.W.mroIn K C (.type "object") = some true
  n1 : PySem.W.kitAny K (.ref C) [.type "list", .type "tuple"] = some false
  n2 : PySem.W.kitOne K (.ref C) (.type "dict") = some false
  n3 : PySem.W.kitOne K (.ref C) (.type "bool") = some false
  n4 : PySem.W.kitAny K (.ref C) [.type "list", .type "tuple", .type "dict"] = some false
def Sm (K : PySem.W.Frag) (C : Addr) (R : Addr → Addr → Hp → Prop) (H : Hp) : Nat → V → V → Prop
  | 0, _, _ => False
  | n + 1, x, y => (x = y ∧ leaf x = true) ∨
      (∃ a b xs ys, x = .ref a ∧ y = .ref b ∧ SqL K H a xs ∧ SqL K H b ys ∧ Paired (Sm K C R H n) xs ys ∧ xs.length ≤ 1000000) ∨
      (∃ a b xs ys, x = .ref a ∧ y = .ref b ∧ SqT K H a xs ∧ SqT K H b ys ∧ Paired (Sm K C R H n) xs ys ∧ xs.length ≤ 1000000) ∨
      (∃ a b, x = .ref a ∧ y = .ref b ∧ H a = some (.dK []) ∧ H b = some (.dK []) ∧ 0 < n) ∨
      (∃ a dx fs, x = .ref a ∧ y = .ref a ∧ H a = some (.ins C dx fs) ∧ R a a H) ∨
      (∃ f o, x = .ref f ∧ y = .ref f ∧ K.lookup f = some o ∧ o.cls = .type "function")
theorem sm_ex {K : PySem.W.Frag} {C : Addr} {R : Addr → Addr → Hp → Prop} {H H' : Hp} (hR : ∀ a b H H', Ex H H' → R a b H → R a b H') (e : Ex H H') : ∀ (n : Nat) (x y : V), Sm K C R H n x y → Sm K C R H' n x y
  | 0, _, _, h => h
  | n + 1, x, y, h => by
    rcases h with h | ⟨a, b, xs, ys, h1, h2, h3, h4, h5, h6⟩ | ⟨a, b, xs, ys, h1, h2, h3, h4, h5, h6⟩ | ⟨a, b, h1, h2, h3, h4, h5⟩ | ⟨a, dx, fs, h1, h2, h3, h4⟩ | h
    · exact .inl h
    · exact .inr (.inl ⟨a, b, xs, ys, h1, h2, ex_l e h3, ex_l e h4, Paired.mapP h5 fun u v => sm_ex hR e n u v, h6⟩)
    · exact .inr (.inr (.inl ⟨a, b, xs, ys, h1, h2, ex_t e h3, ex_t e h4, Paired.mapP h5 fun u v => sm_ex hR e n u v, h6⟩))
    · exact .inr (.inr (.inr (.inl ⟨a, b, h1, h2, e _ _ h3, e _ _ h4, h5⟩)))
    · exact .inr (.inr (.inr (.inr (.inl ⟨a, dx, fs, h1, h2, e _ _ h3, hR _ _ _ _ e h4⟩))))
    · exact .inr (.inr (.inr (.inr (.inr h))))
theorem kit_no2 {K : PySem.W.Frag} {T : String} (h1 : kitB T "list" = some false) (h2 : kitB T "tuple" = some false) : PySem.W.kitAny K (.type T) [.type "list", .type "tuple"] = some false :=
  kitAny_cons (b := false) (kit_ty h1) (fun _ => kitAny_cons (b := false) (kit_ty h2) (fun _ => kitAny_nil) (fun z => nomatch z)) (fun z => nomatch z)
theorem kit_no3 {K : PySem.W.Frag} {T : String} (h1 : kitB T "list" = some false) (h2 : kitB T "tuple" = some false) (h3 : kitB T "dict" = some false) : PySem.W.kitAny K (.type T) [.type "list", .type "tuple", .type "dict"] = some false :=
  kitAny_cons (b := false) (kit_ty h1) (fun _ => kitAny_cons (b := false) (kit_ty h2) (fun _ => kitAny_cons (b := false) (kit_ty h3) (fun _ => kitAny_nil) (fun z => nomatch z)) (fun z => nomatch z)) (fun z => nomatch z)
/-- a thing that is no list, no tuple, no dict, no bool, and equal to itself -/
def Plain (K : PySem.W.Frag) (C : Addr) (R : Addr → Addr → Hp → Prop) (H : Hp) (x : V) : Prop := ∃ t : Value, (∀ H', Ex H H' → TyF K H' x t) ∧ PySem.W.kitAny K t [.type "list", .type "tuple"] = some false ∧
  PySem.W.kitOne K t (.type "dict") = some false ∧ PySem.W.kitOne K t (.type "bool") = some false ∧ PySem.W.kitAny K t [.type "list", .type "tuple", .type "dict"] = some false ∧
  ∀ (H' : Hp) (Q' : VK), Ex H H' → (∀ H2, Ex H' H2 → Q' (.bl true) H2) → (rEqD K x x H' Q' ∨ rEqF K x x H' Q') ∨ rEqG (DIns C R) x x H' Q'
theorem str_eqv (x : Str) : PyData.eqv (.str x) (.str x) = true := by
  show (x == x) = true
  exact beq_self_eq_true x
theorem sm_plain {K : PySem.W.Frag} {C : Addr} {R : Addr → Addr → Hp → Prop} {H : Hp} (IC : InsK K C) (hR : ∀ a b H H', Ex H H' → R a b H → R a b H') {n : Nat} {x y : V} (h : Sm K C R H (n + 1) x y) :
    (x = y ∧ Plain K C R H x) ∨ (∃ b, x = .bl b ∧ y = .bl b) ∨
      (∃ a b xs ys, x = .ref a ∧ y = .ref b ∧ SqL K H a xs ∧ SqL K H b ys ∧ Paired (Sm K C R H n) xs ys ∧ xs.length ≤ 1000000) ∨
      (∃ a b xs ys, x = .ref a ∧ y = .ref b ∧ SqT K H a xs ∧ SqT K H b ys ∧ Paired (Sm K C R H n) xs ys ∧ xs.length ≤ 1000000) ∨
      (∃ a b, x = .ref a ∧ y = .ref b ∧ H a = some (.dK []) ∧ H b = some (.dK []) ∧ 0 < n) := by
  rcases h with ⟨rfl, h⟩ | h | h | h | ⟨a, dx, fs, rfl, rfl, h3, h4⟩ | ⟨f, o, rfl, rfl, h1, h2⟩
  · cases x with
    | non => exact .inl ⟨rfl, .type "NoneType", fun _ _ => .inl (.base .non), kit_no2 (by decide +kernel) (by decide +kernel), kit_ty (by decide +kernel), kit_ty (by decide +kernel), kit_no3 (by decide +kernel) (by decide +kernel) (by decide +kernel), fun H' Q' e q => .inl (.inl ⟨.none, .none, .non, .non, rfl, rfl, q _ (Ex.refl _)⟩)⟩
    | bl b => exact .inr (.inl ⟨b, rfl, rfl⟩)
    | int i => exact .inl ⟨rfl, .type "int", fun _ _ => .inl (.base (.int i)), kit_no2 (by decide +kernel) (by decide +kernel), kit_ty (by decide +kernel), kit_ty (by decide +kernel), kit_no3 (by decide +kernel) (by decide +kernel) (by decide +kernel), fun H' Q' e q => .inl (.inl ⟨.int i, .int i, .int i, .int i, rfl, rfl, by
        have : PyData.eqv (.int i) (.int i) = true := beq_self_eq_true i
        rw [this]
        exact q _ (Ex.refl _)⟩)⟩
    | str z =>
      have hz : PyData.strOk z = true := h
      have hsh : SeqAt.shaped (.str z) = true := by
        show (PyData.strOk z && decide (PyData.depth (.str z) ≤ 64)) = true
        rw [hz]
        rfl
      exact .inl ⟨rfl, .type "str", fun _ _ => .inl (.base (.str z)), kit_no2 (by decide +kernel) (by decide +kernel), kit_ty (by decide +kernel), kit_ty (by decide +kernel), kit_no3 (by decide +kernel) (by decide +kernel) (by decide +kernel), fun H' Q' e q => .inl (.inl ⟨.str z, .str z, .str z, .str z, hsh, hsh, by
        rw [str_eqv]
        exact q _ (Ex.refl _)⟩)⟩
    | byt b => cases h
    | flt b => cases h
    | ref a => cases h
    | ty n => cases h
  · exact .inr (.inr (.inl h))
  · exact .inr (.inr (.inr (.inl h)))
  · exact .inr (.inr (.inr (.inr h)))
  · exact .inl ⟨rfl, .ref C, fun H' e => .inl (.base (.ins (e _ _ h3) IC.cl IC.ha IC.hn IC.ht IC.hm)), IC.n1, IC.n2, IC.n3, IC.n4, fun H' Q' e q => .inr ⟨⟨a, a, dx, dx, fs, fs, rfl, rfl, e _ _ h3, e _ _ h3, hR _ _ _ _ e h4⟩, fun H2 e2 => q H2 e2⟩⟩
  · exact .inl ⟨rfl, .type "function", fun _ _ => .inr ⟨f, o, rfl, h1, h2, rfl⟩, kit_no2 (by decide +kernel) (by decide +kernel), kit_ty (by decide +kernel), kit_ty (by decide +kernel), kit_no3 (by decide +kernel) (by decide +kernel) (by decide +kernel), fun H' Q' e q => .inl (.inr ⟨f, o, rfl, rfl, h1, h2, q _ (Ex.refl _)⟩)⟩
theorem paired_at {α β : Type} {F : α → β → Prop} : ∀ {xs : List α} {ys : List β} {i : Nat} {x : α}, Paired F xs ys → xs[i]? = some x → ∃ y, ys[i]? = some y ∧ F x y
  | _, _, _, _, .nil, e => by simp at e
  | _, _, 0, _, .cons r _, e => ⟨_, rfl, (Option.some.inj e) ▸ r⟩
  | _, _, i + 1, _, .cons _ t, e => paired_at (i := i) t e
theorem lc_zipL {K : PySem.W.Frag} {a b : Addr} {xs ys : List V} {g : TG} {tt : TT} {te : TE} {vs : List Nat} {σ : L2.St} {H1 : Hp} {D : Addr} {Qd : Hp → Prop} (hl : xs.length = ys.length) (Pv : Nat → Hp → Prop) (h0 : Pv 0 (upd H1 D (.lst [])))
    (hq : ∀ i H, Pv i H → SqL K H a xs ∧ SqL K H b ys)
    (hs : ∀ (i : Nat) (x y : V) (H : Hp) (T : Addr), xs[i]? = some x → ys[i]? = some y → Pv i H → H T = none → g (.ref T) (wipe σ vs) (upd H T (.tup [x, y])) fun σ2 H2 => wipe σ2 vs = wipe σ vs ∧ tt σ2 H2 fun c H3 =>
      if c = true then te σ2 H3 fun z H4 => ∃ acc, H4 D = some (.lst acc) ∧ acc.length < sizeLine ∧ Pv (i + 1) (upd H4 D (.lst (acc ++ [z]))) else Pv (i + 1) H3) (hd : ∀ H, Pv xs.length H → Qd H) :
    ∃ W : Nat → Nat → Hp → Prop, (∃ m, W 0 m (upd H1 D (.lst []))) ∧ ∀ i m H, W i m H →
      ((Itz K a b).stop i H ∧ Qd H) ∨ ((Itz K a b).go i H ∧ ∃ Nx : Hp → Prop, (∀ H', Nx H' → ∃ m', m' < m ∧ W (i + 1) m' H') ∧ ∀ x H', (Itz K a b).yld i H x H' → g x (wipe σ vs) H' fun σ2 H2 => wipe σ2 vs = wipe σ vs ∧ tt σ2 H2 fun c H3 =>
        if c = true then te σ2 H3 fun z H4 => ∃ acc, H4 D = some (.lst acc) ∧ acc.length < sizeLine ∧ Nx (upd H4 D (.lst (acc ++ [z]))) else Nx H3) := by
  refine ⟨fun i m H => m = xs.length - i ∧ i ≤ xs.length ∧ Pv i H, ⟨xs.length, by simp, Nat.zero_le _, h0⟩, ?_⟩
  rintro i m H ⟨rfl, hi, p⟩
  obtain ⟨q1, q2⟩ := hq i H p
  by_cases hlt : i < xs.length
  · have g1 : xs[i]? = some xs[i] := List.getElem?_eq_getElem hlt
    have g2 : ys[i]? = some (ys[i]'(by omega)) := List.getElem?_eq_getElem (by omega)
    refine .inr ⟨⟨xs, ys, _, _, q1, q2, g1, g2⟩, Pv (i + 1), fun H' p' => ⟨xs.length - (i + 1), by omega, rfl, hlt, p'⟩, fun x H' y => ?_⟩
    obtain ⟨T, z1, z2, rfl, hT, rfl, f1, f2⟩ := y
    exact hs i z1 z2 H T (f1 _ q1) (f2 _ q2) p hT
  · have e : i = xs.length := by omega
    subst e
    exact .inl ⟨⟨xs, ys, q1, q2, .inl (Nat.le_refl _)⟩, hd H p⟩
theorem lc_zipT {K : PySem.W.Frag} {a b : Addr} {xs ys : List V} {g : TG} {tt : TT} {te : TE} {vs : List Nat} {σ : L2.St} {H1 : Hp} {D : Addr} {Qd : Hp → Prop} (hl : xs.length = ys.length) (Pv : Nat → Hp → Prop) (h0 : Pv 0 (upd H1 D (.lst [])))
    (hq : ∀ i H, Pv i H → SqT K H a xs ∧ SqT K H b ys)
    (hs : ∀ (i : Nat) (x y : V) (H : Hp) (T : Addr), xs[i]? = some x → ys[i]? = some y → Pv i H → H T = none → g (.ref T) (wipe σ vs) (upd H T (.tup [x, y])) fun σ2 H2 => wipe σ2 vs = wipe σ vs ∧ tt σ2 H2 fun c H3 =>
      if c = true then te σ2 H3 fun z H4 => ∃ acc, H4 D = some (.lst acc) ∧ acc.length < sizeLine ∧ Pv (i + 1) (upd H4 D (.lst (acc ++ [z]))) else Pv (i + 1) H3) (hd : ∀ H, Pv xs.length H → Qd H) :
    ∃ W : Nat → Nat → Hp → Prop, (∃ m, W 0 m (upd H1 D (.lst []))) ∧ ∀ i m H, W i m H →
      ((RZ.ItzT K a b).stop i H ∧ Qd H) ∨ ((RZ.ItzT K a b).go i H ∧ ∃ Nx : Hp → Prop, (∀ H', Nx H' → ∃ m', m' < m ∧ W (i + 1) m' H') ∧ ∀ x H', (RZ.ItzT K a b).yld i H x H' → g x (wipe σ vs) H' fun σ2 H2 => wipe σ2 vs = wipe σ vs ∧ tt σ2 H2 fun c H3 =>
        if c = true then te σ2 H3 fun z H4 => ∃ acc, H4 D = some (.lst acc) ∧ acc.length < sizeLine ∧ Nx (upd H4 D (.lst (acc ++ [z]))) else Nx H3) := by
  refine ⟨fun i m H => m = xs.length - i ∧ i ≤ xs.length ∧ Pv i H, ⟨xs.length, by simp, Nat.zero_le _, h0⟩, ?_⟩
  rintro i m H ⟨rfl, hi, p⟩
  obtain ⟨q1, q2⟩ := hq i H p
  by_cases hlt : i < xs.length
  · have g1 : xs[i]? = some xs[i] := List.getElem?_eq_getElem hlt
    have g2 : ys[i]? = some (ys[i]'(by omega)) := List.getElem?_eq_getElem (by omega)
    refine .inr ⟨⟨xs, ys, _, _, q1, q2, g1, g2⟩, Pv (i + 1), fun H' p' => ⟨xs.length - (i + 1), by omega, rfl, hlt, p'⟩, fun x H' y => ?_⟩
    obtain ⟨T, z1, z2, rfl, hT, rfl, f1, f2⟩ := y
    exact hs i z1 z2 H T (f1 _ q1) (f2 _ q2) p hT
  · have e : i = xs.length := by omega
    subst e
    exact .inl ⟨⟨xs, ys, q1, q2, .inl (Nat.le_refl _)⟩, hd H p⟩
theorem all_true (n : Nat) : (List.replicate n true).all id = true := by
  rw [List.all_eq_true]
  intro x hx
  rw [(List.mem_replicate.mp hx).2]
  rfl
section
variable {P : Program} {w : World} {K : PySem.W.Frag} {mg : Str → Option Value} {base : Heap}
def spSame (K : PySem.W.Frag) (C : Addr) (R : Addr → Addr → Hp → Prop) (n : Nat) : Sp := fun vs H Q _ => ∃ (x y : V), vs = [x, y] ∧ Sm K C R H n x y ∧ ∀ H', Ex H H' → Q (.bl true) H'
theorem scSame : FnScope ["_law_found", "_law_due", "_law_mine", "_law_theirs"] ["_law_found", "_law_due"] (defScope sSame) := ⟨rfl, rfl, rfl, by decide +kernel, rfl, by decide +kernel, by decide +kernel⟩
theorem ok_same {C : Addr} {R : Addr → Addr → Hp → Prop} {f fE : Addr} {fd fdE : FuncData} (F : L2.Fun K "_law_same" "_law_same" sSame f fd) (T : Bn mg) (hm : mg "_law_same" = some (.ref f)) (bS : Binds K fd ["_law_found", "_law_due"] [])
    (IC : InsK K C) (hR : ∀ a b H H', Ex H H' → R a b H → R a b H')
    (GE : FnOk P w K mg base CX0 1 fE fdE ["self", "other"] (spEq R)) (hs : PySem.W.findIn K (.ref C) "__eq__" = some (some (.ref fE))) (hf : PySem.W.isFn K (.ref fE) = true) (bE : Binds K fdE ["self", "other"] []) :
    ∀ n : Nat, FnOk P w K mg base CX0 (n + 2) f fd ["_law_found", "_law_due"] (spSame K C R n)
  | 0 => ⟨fun vs H Q E h => by
      obtain ⟨x, y, rfl, _⟩ := h
      rfl, fun A outer s H args us vs Q E _ _ _ _ h => by
      obtain ⟨x, y, _, h, _⟩ := h
      exact h.elim⟩
  | n + 1 => by
    have cS : C8.Cal P w K mg base (n + 2) "_law_same" (spSame K C R n) [] := cal_of F hm bS (ok_same F T hm bS IC hR GE hs hf bE n)
    refine F.ok scSame (fun vs H Q E h => ?_) (fun cdv A outer s H vs Q E hr h => ?_)
    · obtain ⟨x, y, rfl, _⟩ := h
      rfl
    · obtain ⟨x, y, rfl, hsm, k⟩ := h
      have rE : RcG (cxOf CX0 P w K mg base ["_law_found", "_law_due", "_law_mine", "_law_theirs"] "_law_same" (defScope sSame) f cdv A outer s H E).nox 1 (DIns C R) := rcG_ins (E := E0) GE hs hf bE pass0
      refine ⟨_, pss_cons (ps_if (pt_val (pe_callB call_isN (by rfl) T.isinstance boot_isinstance (pa_cons (pv 1) (pa_cons (pe_tup (pa_cons (pe_bltn (v := .ty "list") (by rfl) T.list boot_list rfl) (pa_cons (pe_bltn (v := .ty "tuple") (by rfl) T.tuple boot_tuple rfl) pa_nil))) pa_nil))))
          (pss_cons (ps_if (PW.pt (pw_or (pt_cmpR op_ne (pe_callB call_is1 (by rfl) T.isinstance boot_isinstance (pa_cons (pv 0) (pa_cons (pe_bltn (v := .ty "list") (by rfl) T.list boot_list rfl) pa_nil))) (pe_callB call_is1 (by rfl) T.isinstance boot_isinstance (pa_cons (pv 1) (pa_cons (pe_bltn (v := .ty "list") (by rfl) T.list boot_list rfl) pa_nil))) (nomark _))
              (pw_or1 (pt_cmpR op_ne (pe_callB call_is1 (by rfl) T.isinstance boot_isinstance (pa_cons (pv 0) (pa_cons (pe_bltn (v := .ty "tuple") (by rfl) T.tuple boot_tuple rfl) pa_nil))) (pe_callB call_is1 (by rfl) T.isinstance boot_isinstance (pa_cons (pv 1) (pa_cons (pe_bltn (v := .ty "tuple") (by rfl) T.tuple boot_tuple rfl) pa_nil))) (nomark _)))))
              (pss_one (ps_ret pe_bl)) pss_nil)
            (pss_one (ps_ret (pe_and (pe_cmpR op_eq (pe_callB call_len_seq (by rfl) T.len PySem.boot_len (pa_cons (pv 0) pa_nil)) (pe_callB call_len_seq (by rfl) T.len PySem.boot_len (pa_cons (pv 1) pa_nil)) (nomark _))
              (pe_one (pe_callB (cr_all (by rfl)) (by rfl) T.all boot_all (pa_cons (pe_lc (own := [("_law_mine", 2), ("_law_theirs", 3)]) (g := gTup K 2 (gCons (gName 2) (gCons (gName 3) gNil))) (tt := tYes) (by rfl) scSame.nd (RZ.pi_zipA (by rfl) T.zip (pa_cons (pv 0) (pa_cons (pv 1) pa_nil))) (blkOk_by (N := ["_law_found", "_law_due", "_law_mine", "_law_theirs"]) (sc := defScope sSame) (by decide +kernel))
                (fun _ _ _ _ _ => pg_tup rfl (pgs_cons (pg_name (i := 2) scSame.nd rfl (Or.inl rfl)) (pgs_cons (pg_name (i := 3) scSame.nd rfl (Or.inl rfl)) pgs_nil))) (fun _ _ _ _ _ => pts_nil) (fun _ _ _ _ _ => C8.pe_c cS hr (by omega) (by rfl) (pa_cons (pv 2) (pa_cons (pv 3) pa_nil)))) pa_nil))))))) pss_nil)
        (pss_cons (ps_if (pt_val (pe_callB call_is1 (by rfl) T.isinstance boot_isinstance (pa_cons (pv 1) (pa_cons (pe_bltn (v := .ty "dict") (by rfl) T.dict boot_dict rfl) pa_nil))))
          (pss_one (ps_ret (pe_and (pe_callB call_is1 (by rfl) T.isinstance boot_isinstance (pa_cons (pv 0) (pa_cons (pe_bltn (v := .ty "dict") (by rfl) T.dict boot_dict rfl) pa_nil)))
            (pe_one (C8.pe_c cS hr (by omega) (by rfl) (pa_cons (LiI.pe_listItems (by rfl) (pv 0) (by rfl) T.list boot_list) (pa_cons (LiI.pe_listItems (by rfl) (pv 1) (by rfl) T.list boot_list) pa_nil))))))) pss_nil)
        (pss_cons (ps_if (PW.pt (pw_or (pt_val (pe_callB call_is1 (by rfl) T.isinstance boot_isinstance (pa_cons (pv 1) (pa_cons (pe_bltn (v := .ty "bool") (by rfl) T.bool boot_bool rfl) pa_nil)))) (pw_or1 (pt_val (pe_callB call_is1 (by rfl) T.isinstance boot_isinstance (pa_cons (pv 0) (pa_cons (pe_bltn (v := .ty "bool") (by rfl) T.bool boot_bool rfl) pa_nil)))))))
          (pss_one (ps_ret (pe_and (pe_callB call_is1 (by rfl) T.isinstance boot_isinstance (pa_cons (pv 1) (pa_cons (pe_bltn (v := .ty "bool") (by rfl) T.bool boot_bool rfl) pa_nil))) (pe_and (pe_callB call_is1 (by rfl) T.isinstance boot_isinstance (pa_cons (pv 0) (pa_cons (pe_bltn (v := .ty "bool") (by rfl) T.bool boot_bool rfl) pa_nil))) (pe_one (pe_cmpR op_eq (pv 0) (pv 1) (nomark _))))))) pss_nil)
        (pss_one (ps_ret (pe_and (pe_not (pe_callB call_isN (by rfl) T.isinstance boot_isinstance (pa_cons (pv 0) (pa_cons (pe_tup (pa_cons (pe_bltn (v := .ty "list") (by rfl) T.list boot_list rfl) (pa_cons (pe_bltn (v := .ty "tuple") (by rfl) T.tuple boot_tuple rfl) (pa_cons (pe_bltn (v := .ty "dict") (by rfl) T.dict boot_dict rfl) pa_nil)))) pa_nil))))
            (pe_one (pe_cmpR (op_orR (op_orR (op_eqD hr.units) (op_eqF hr)) (op_eqG rE (hr.mono (by omega)))) (pv 0) (pv 1) (nomark _)))))))), ?_⟩
      rcases sm_plain IC hR hsm with ⟨rfl, t, hty, k1, k2, k3, k4, heq⟩ | ⟨b, rfl, rfl⟩ | ⟨a, b, xs, ys, rfl, rfl, hx, hy, hp2, hln⟩ | ⟨a, b, xs, ys, rfl, rfl, hx, hy, hp2, hln⟩ | ⟨a, b, rfl, rfl, ha, hb, hn0⟩
      · refine ⟨_, rfl, by show 2 ≤ sizeLine; decide, fun p hp => ?_⟩
        have e1 : Ex H (upd H p (.tup [.ty "list", .ty "tuple"])) := Ex.new hp
        refine ⟨x, p, _, t, [.type "list", .type "tuple"], false, rfl, upd_same, .cons (.ty _) (.cons (.ty _) .nil), hty _ e1, k1, false, rfl, ?_⟩
        refine iteF ?_
        refine ⟨_, rfl, x, _, t, .type "dict", false, rfl, .ty _, hty _ e1, k2, false, rfl, ?_⟩
        refine iteF ?_
        refine ⟨_, rfl, x, _, t, .type "bool", false, rfl, .ty _, hty _ e1, k3, false, rfl, ?_⟩
        refine iteF ?_
        refine ⟨_, rfl, x, _, t, .type "bool", false, rfl, .ty _, hty _ e1, k3, false, rfl, ?_⟩
        refine iteF ?_
        refine ⟨_, rfl, by show 3 ≤ sizeLine; decide, fun p2 hp2 => ?_⟩
        have e2 := e1.trans (Ex.new (o := .tup [.ty "list", .ty "tuple", .ty "dict"]) hp2)
        refine ⟨x, p2, _, t, [.type "list", .type "tuple", .type "dict"], false, rfl, upd_same, .cons (.ty _) (.cons (.ty _) (.cons (.ty _) .nil)), hty _ e2, k4, false, rfl, true, rfl, ?_⟩
        refine iteT ?_
        exact ⟨_, rfl, _, rfl, heq _ _ e2 fun H2 e3 => k H2 (e2.trans e3)⟩
      · refine ⟨_, rfl, by show 2 ≤ sizeLine; decide, fun p hp => ?_⟩
        have e1 : Ex H (upd H p (.tup [.ty "list", .ty "tuple"])) := Ex.new hp
        have ty : ∀ H', TyF K H' (.bl b) (.type "bool") := fun H' => .inl (.base (.bl b))
        refine ⟨.bl b, p, _, _, [.type "list", .type "tuple"], false, rfl, upd_same, .cons (.ty _) (.cons (.ty _) .nil), ty _, kit_no2 (by decide +kernel) (by decide +kernel), false, rfl, ?_⟩
        refine iteF ?_
        refine ⟨_, rfl, .bl b, _, _, .type "dict", false, rfl, .ty _, ty _, kit_ty (by decide +kernel), false, rfl, ?_⟩
        refine iteF ?_
        refine ⟨_, rfl, .bl b, _, _, .type "bool", true, rfl, .ty _, ty _, kit_ty (by decide +kernel), true, rfl, ?_⟩
        refine iteT ?_
        refine iteT ?_
        refine ⟨_, rfl, .bl b, _, _, .type "bool", true, rfl, .ty _, ty _, kit_ty (by decide +kernel), true, rfl, ?_⟩
        refine iteT ?_
        refine ⟨_, rfl, .bl b, _, _, .type "bool", true, rfl, .ty _, ty _, kit_ty (by decide +kernel), true, rfl, ?_⟩
        refine iteT ?_
        refine ⟨_, rfl, _, rfl, rfl, ?_⟩
        rw [decide_eq_true rfl]
        exact k _ e1
      · have hll := hp2.length
        refine ⟨_, rfl, by show 2 ≤ sizeLine; decide, fun p hp => ?_⟩
        have e1 : Ex H (upd H p (.tup [.ty "list", .ty "tuple"])) := Ex.new hp
        have tx : TyF K (upd H p (.tup [.ty "list", .ty "tuple"])) (.ref a) (.type "list") := .inl (ty_l (ex_l e1 hx))
        have ty : TyF K (upd H p (.tup [.ty "list", .ty "tuple"])) (.ref b) (.type "list") := .inl (ty_l (ex_l e1 hy))
        refine ⟨.ref b, p, _, _, [.type "list", .type "tuple"], true, rfl, upd_same, .cons (.ty _) (.cons (.ty _) .nil), ty, seq_yes_l, true, rfl, ?_⟩
        refine iteT ?_
        refine ⟨_, rfl, .ref a, _, _, .type "list", true, rfl, .ty _, tx, kit_ty (by decide +kernel), _, rfl, .ref b, _, _, .type "list", true, rfl, .ty _, ty, kit_ty (by decide +kernel), rfl, false, by rw [decide_eq_true rfl]; rfl, ?_⟩
        refine iteF ?_
        refine ⟨_, rfl, .ref a, _, _, .type "tuple", false, rfl, .ty _, tx, kit_ty (by decide +kernel), _, rfl, .ref b, _, _, .type "tuple", false, rfl, .ty _, ty, kit_ty (by decide +kernel), rfl, false, by rw [decide_eq_true rfl]; rfl, ?_⟩
        refine iteF ?_
        refine ⟨_, rfl, a, xs, rfl, .inl (ex_l e1 hx), _, rfl, b, ys, rfl, .inl (ex_l e1 hy), rfl, true, by rw [hll, decide_eq_true rfl], ?_⟩
        refine iteT ?_
        refine ⟨_, rfl, _, rfl, a, b, xs, ys, rfl, .inl ⟨ex_l e1 hx, ex_l e1 hy, fun L hL => ?_⟩⟩
        refine lc_zipL hll (fun i H' => Ex (upd H p (.tup [.ty "list", .ty "tuple"])) H' ∧ H' L = some (.lst ((List.replicate i true).map V.bl))) ?_ ?_ ?_ ?_
        · exact ⟨Ex.mut (Ex.refl _) hL, upd_same⟩
        · rintro i H' ⟨q1, q2⟩
          exact ⟨ex_l (e1.trans q1) hx, ex_l (e1.trans q1) hy⟩
        · rintro i x y H' T hxi hyi ⟨q1, q2⟩ hT
          obtain ⟨y', hy', hF⟩ := paired_at hp2 hxi
          have ey : y' = y := Option.some.inj (hy'.symm.trans hyi)
          subst ey
          have hLT : L ≠ T := ne_of_none q2 hT
          have il : i < xs.length := (List.getElem?_eq_some_iff.mp hxi).1
          refine ⟨T, [x, y'], rfl, SqT.of upd_same, rfl, x, [y'], rfl, y', [], rfl, rfl, rfl, ?_⟩
          refine ⟨_, rfl, _, rfl, x, y', rfl, sm_ex hR (e1.trans (q1.trans (Ex.new hT))) n _ _ hF, fun H2 e2 => ?_⟩
          have hL2 : H2 L = some (.lst ((List.replicate i true).map V.bl)) := e2 _ _ (by rw [upd_ne hLT]; exact q2)
          refine ⟨_, hL2, by rw [List.length_map, List.length_replicate]; exact sz_m (by omega), Ex.mut (q1.trans ((Ex.new hT).trans e2)) hL, ?_⟩
          rw [List.replicate_succ', List.map_append]
          exact upd_same
        · rintro H' ⟨q1, q2⟩
          refine ⟨L, List.replicate xs.length true, rfl, SqL.of q2, ?_⟩
          rw [all_true]
          exact k _ (e1.trans q1)
      · have hll := hp2.length
        refine ⟨_, rfl, by show 2 ≤ sizeLine; decide, fun p hp => ?_⟩
        have e1 : Ex H (upd H p (.tup [.ty "list", .ty "tuple"])) := Ex.new hp
        have tx : TyF K (upd H p (.tup [.ty "list", .ty "tuple"])) (.ref a) (.type "tuple") := .inl (ty_t (ex_t e1 hx))
        have ty : TyF K (upd H p (.tup [.ty "list", .ty "tuple"])) (.ref b) (.type "tuple") := .inl (ty_t (ex_t e1 hy))
        refine ⟨.ref b, p, _, _, [.type "list", .type "tuple"], true, rfl, upd_same, .cons (.ty _) (.cons (.ty _) .nil), ty, seq_yes_t, true, rfl, ?_⟩
        refine iteT ?_
        refine ⟨_, rfl, .ref a, _, _, .type "list", false, rfl, .ty _, tx, kit_ty (by decide +kernel), _, rfl, .ref b, _, _, .type "list", false, rfl, .ty _, ty, kit_ty (by decide +kernel), rfl, false, by rw [decide_eq_true rfl]; rfl, ?_⟩
        refine iteF ?_
        refine ⟨_, rfl, .ref a, _, _, .type "tuple", true, rfl, .ty _, tx, kit_ty (by decide +kernel), _, rfl, .ref b, _, _, .type "tuple", true, rfl, .ty _, ty, kit_ty (by decide +kernel), rfl, false, by rw [decide_eq_true rfl]; rfl, ?_⟩
        refine iteF ?_
        refine ⟨_, rfl, a, xs, rfl, .inr (ex_t e1 hx), _, rfl, b, ys, rfl, .inr (ex_t e1 hy), rfl, true, by rw [hll, decide_eq_true rfl], ?_⟩
        refine iteT ?_
        refine ⟨_, rfl, _, rfl, a, b, xs, ys, rfl, .inr ⟨ex_t e1 hx, ex_t e1 hy, fun L hL => ?_⟩⟩
        refine lc_zipT hll (fun i H' => Ex (upd H p (.tup [.ty "list", .ty "tuple"])) H' ∧ H' L = some (.lst ((List.replicate i true).map V.bl))) ?_ ?_ ?_ ?_
        · exact ⟨Ex.mut (Ex.refl _) hL, upd_same⟩
        · rintro i H' ⟨q1, q2⟩
          exact ⟨ex_t (e1.trans q1) hx, ex_t (e1.trans q1) hy⟩
        · rintro i x y H' T hxi hyi ⟨q1, q2⟩ hT
          obtain ⟨y', hy', hF⟩ := paired_at hp2 hxi
          have ey : y' = y := Option.some.inj (hy'.symm.trans hyi)
          subst ey
          have hLT : L ≠ T := ne_of_none q2 hT
          have il : i < xs.length := (List.getElem?_eq_some_iff.mp hxi).1
          refine ⟨T, [x, y'], rfl, SqT.of upd_same, rfl, x, [y'], rfl, y', [], rfl, rfl, rfl, ?_⟩
          refine ⟨_, rfl, _, rfl, x, y', rfl, sm_ex hR (e1.trans (q1.trans (Ex.new hT))) n _ _ hF, fun H2 e2 => ?_⟩
          have hL2 : H2 L = some (.lst ((List.replicate i true).map V.bl)) := e2 _ _ (by rw [upd_ne hLT]; exact q2)
          refine ⟨_, hL2, by rw [List.length_map, List.length_replicate]; exact sz_m (by omega), Ex.mut (q1.trans ((Ex.new hT).trans e2)) hL, ?_⟩
          rw [List.replicate_succ', List.map_append]
          exact upd_same
        · rintro H' ⟨q1, q2⟩
          refine ⟨L, List.replicate xs.length true, rfl, SqL.of q2, ?_⟩
          rw [all_true]
          exact k _ (e1.trans q1)
      · have ty : ∀ (H' : Hp) (c : Addr), H' c = some (.dK []) → TyF K H' (.ref c) (.type "dict") := fun H' c h => .inl (.base (.dK h))
        refine ⟨_, rfl, by show 2 ≤ sizeLine; decide, fun p hp => ?_⟩
        have e1 : Ex H (upd H p (.tup [.ty "list", .ty "tuple"])) := Ex.new hp
        refine ⟨.ref b, p, _, _, [.type "list", .type "tuple"], false, rfl, upd_same, .cons (.ty _) (.cons (.ty _) .nil), ty _ _ (e1 _ _ hb), kit_no2 (by decide +kernel) (by decide +kernel), false, rfl, ?_⟩
        refine iteF ?_
        refine ⟨_, rfl, .ref b, _, _, .type "dict", true, rfl, .ty _, ty _ _ (e1 _ _ hb), kit_ty (by decide +kernel), true, rfl, ?_⟩
        refine iteT ?_
        refine ⟨_, rfl, .ref a, _, _, .type "dict", true, rfl, .ty _, ty _ _ (e1 _ _ ha), kit_ty (by decide +kernel), true, rfl, ?_⟩
        refine iteT ?_
        refine ⟨_, rfl, a, [], rfl, e1 _ _ ha, fun H2 p2 ts2 e2 _ _ _ g2 pr2 => ?_⟩
        have ts2e : ts2 = [] := List.eq_nil_of_length_eq_zero pr2.length
        subst ts2e
        refine ⟨_, rfl, b, [], rfl, e2 _ _ (e1 _ _ hb), fun H3 p3 ts3 e3 _ _ _ g3 pr3 => ?_⟩
        have ts3e : ts3 = [] := List.eq_nil_of_length_eq_zero pr3.length
        subst ts3e
        refine ⟨.ref p2, .ref p3, rfl, ?_, fun H4 e4 => k _ (e1.trans (Ex.trans e2 (Ex.trans e3 e4)))⟩
        obtain ⟨m, rfl⟩ : ∃ m, n = m + 1 := ⟨n - 1, by omega⟩
        exact .inr (.inl ⟨p2, p3, [], [], rfl, rfl, SqL.of (e3 _ _ g2), SqL.of g3, .nil, Nat.zero_le _⟩)
end
end AA

set_option Elab.async false
set_option linter.all false
set_option maxRecDepth 100000
set_option maxHeartbeats 4000000
/-! Steps in order: sorted of a list of them. -/
namespace AA
open PySem PySem.Spec PyProof.Rows L2 Evl
def pqLt (s t : St5) : Bool := if s.p = t.p then decide (s.q < t.q) else decide (s.p < t.p)
def stLt (s t : St5) : Bool :=
  if s.one = t.one then
    if s.other = t.other then
      if s.p = t.p ∧ s.q = t.q then
        if s.ticks = t.ticks then decide (s.change < t.change) else decide (s.ticks < t.ticks)
      else pqLt s t
    else decide (s.other < t.other)
  else decide (s.one < t.one)
theorem stLt_iff {s t : St5} : stLt s t = true ↔ s.one < t.one ∨ (s.one = t.one ∧ (s.other < t.other ∨ (s.other = t.other ∧ (s.p < t.p ∨ (s.p = t.p ∧ (s.q < t.q ∨ (s.q = t.q ∧ (s.ticks < t.ticks ∨ (s.ticks = t.ticks ∧ s.change < t.change))))))))) := by
  unfold stLt pqLt
  by_cases h1 : s.one = t.one
  · rw [if_pos h1]
    by_cases h2 : s.other = t.other
    · rw [if_pos h2]
      by_cases h3 : s.p = t.p ∧ s.q = t.q
      · rw [if_pos h3]
        by_cases h4 : s.ticks = t.ticks
        · rw [if_pos h4, decide_eq_true_eq]
          omega
        · rw [if_neg h4, decide_eq_true_eq]
          omega
      · rw [if_neg h3]
        by_cases h4 : s.p = t.p
        · rw [if_pos h4, decide_eq_true_eq]
          omega
        · rw [if_neg h4, decide_eq_true_eq]
          omega
    · rw [if_neg h2, decide_eq_true_eq]
      omega
  · rw [if_neg h1, decide_eq_true_eq]
    omega
theorem stLt_no {s t : St5} : stLt s t = false ↔ ¬ (s.one < t.one ∨ (s.one = t.one ∧ (s.other < t.other ∨ (s.other = t.other ∧ (s.p < t.p ∨ (s.p = t.p ∧ (s.q < t.q ∨ (s.q = t.q ∧ (s.ticks < t.ticks ∨ (s.ticks = t.ticks ∧ s.change < t.change)))))))))) := by
  rw [← stLt_iff]
  cases stLt s t <;> simp
theorem swo_st (k : Value → St5) : SrtO.Swo fun v u => stLt (k v) (k u) := by
  refine ⟨fun x y h => ?_, fun x y z h1 h2 => ?_⟩
  · have a := stLt_iff.mp h
    refine stLt_no.mpr ?_
    omega
  · have a := stLt_no.mp h1
    have b := stLt_no.mp h2
    refine stLt_no.mpr ?_
    omega
/-- a step stands at v -/
def IsSt (h : Heap) (v : Value) (s : St5) : Prop := ∃ (a u : Addr) (o r : Obj) (n m : Nat) (t1 t2 t3 t4 t5 t6 : Tok), v = .ref a ∧ h.get? a = some o ∧ o.cls = .type "tuple" ∧
  o.data = .seq #[.int s.one t1, .int s.other t2, .ref u, .int s.ticks t3, .int s.change t4] n ∧ h.get? u = some r ∧ r.cls = .type "tuple" ∧ r.data = .seq #[.int s.p t5, .int s.q t6] m
theorem IsSt.keeps {h h' : Heap} {v : Value} {s : St5} (x : IsSt h v s) (k : ∀ b o, h.get? b = some o → o.cls = .type "tuple" → h'.get? b = some o) : IsSt h' v s := by
  obtain ⟨a, u, o, r, n, m, t1, t2, t3, t4, t5, t6, e, h1, h2, h3, h4, h5, h6⟩ := x
  exact ⟨a, u, o, r, n, m, t1, t2, t3, t4, t5, t6, e, k _ _ h1 h2, h2, h3, k _ _ h4 h5, h5, h6⟩
section
variable {prog : Program} {w : World} {A : Around} {E : Value → Shared → Prop} {s : Shared}
theorem st_cmp {vs : List Value} {k : Value → St5} (hu : A.units + 1 < cLine) (hp : ∀ v ∈ vs, IsSt s.heap v (k v)) : SrtO.Cmp prog w A s (tuples' true) (fun p => p.1 ∈ vs) (SrtO.lt2 fun v u => stLt (k v) (k u)) := by
  intro p q hm hm'
  have h1 := hp _ hm
  have h2 := hp _ hm'
  show wpAny (model prog w) A (keyLt' (tuples' true) p.1 q.1) (fun r s' => s' = s ∧ r = stLt (k p.1) (k q.1)) (fun _ _ => False) s
  generalize k p.1 = x at h1 ⊢
  generalize k q.1 = y at h2 ⊢
  obtain ⟨a, u, o, r, n, m, t1, t2, t3, t4, t5, t6, e, g1, g2, g3, g4, g5, g6⟩ := h1
  obtain ⟨a', u', o', r', n', m', u1, u2, u3, u4, u5, u6, e', j1, j2, j3, j4, j5, j6⟩ := h2
  rw [e, e']
  refine PySem.W.kat_lt g1 g3 j1 j3 ?_
  show PySem.W.KatLex prog w A true (decide (5 < 5)) _ [(.int x.one t1, .int y.one u1), (.int x.other t2, .int y.other u2), (.ref u, .ref u'), (.int x.ticks t3, .int y.ticks u3), (.int x.change t4, .int y.change u4)] 0 s
  refine PySem.W.kat_cons (SeqAt.EqAt.int_int _ _ _ _ prog w _ _ ?_)
  refine PySem.W.kat_go (fun e1 => ?ye1) (fun e1 => ?ne1)
  case ne1 =>
    have ex : ¬ x.one = y.one := by simpa using e1
    refine PySem.W.kat_no (oneLt_int ⟨rfl, ?_⟩)
    unfold stLt
    rw [if_neg ex]
  have ex : x.one = y.one := by simpa using e1
  refine PySem.W.kat_yes (PySem.W.kat_cons (SeqAt.EqAt.int_int _ _ _ _ prog w _ _ ?_))
  refine PySem.W.kat_go (fun e2 => ?ye2) (fun e2 => ?ne2)
  case ne2 =>
    have ey : ¬ x.other = y.other := by simpa using e2
    refine PySem.W.kat_no (PySem.W.kat_one _ _ (PyProof.Rows.lt_int (Q := PySem.W.BoolBack _) ⟨rfl, ?_⟩))
    unfold stLt
    rw [if_pos ex, if_neg ey]
  have ey : x.other = y.other := by simpa using e2
  have k1 : IsTupleKey (PySem.intKind prog w) s.heap [x.p, x.q] u := ⟨r, _, m, g4, g5, g6, .cons (by simp [PySem.intKind, Value.isInt]) (.cons (by simp [PySem.intKind, Value.isInt]) .nil)⟩
  have k2 : IsTupleKey (PySem.intKind prog w) s.heap [y.p, y.q] u' := ⟨r', _, m', j4, j5, j6, .cons (by simp [PySem.intKind, Value.isInt]) (.cons (by simp [PySem.intKind, Value.isInt]) .nil)⟩
  refine PySem.W.kat_yes (PySem.W.kat_cons (wpAny_eqBool_tuple (by omega) k1 k2 ?_))
  refine PySem.W.kat_go (fun e3 => ?ye3) (fun e3 => ?ne3)
  case ne3 =>
    have ez : ¬ (x.p = y.p ∧ x.q = y.q) := by simpa using e3
    refine PySem.W.kat_no (PySem.W.kat_one _ _ (HT.lt_tupInts (ns := [x.p, x.q]) (ms := [y.p, y.q]) ⟨r, g4, g5, m, g6⟩ ⟨r', j4, j5, m', j6⟩ (.cons _ _ (.cons _ _ .nil)) (.cons _ _ (.cons _ _ .nil)) (by omega) ⟨rfl, ?_⟩))
    unfold stLt
    rw [if_pos ex, if_pos ey, if_neg ez]
    show HT.lexLt [x.p, x.q] [y.p, y.q] = pqLt x y
    rw [HT.lexLt_cons, HT.lexLt_cons, HT.lexLt_nil_nil]
    unfold pqLt
    by_cases hpp : x.p = y.p
    · rw [if_pos hpp, if_pos hpp, if_neg (fun z => ez ⟨hpp, z⟩)]
    · rw [if_neg hpp, if_neg hpp]
  have ez : x.p = y.p ∧ x.q = y.q := by simpa using e3
  refine PySem.W.kat_yes (PySem.W.kat_cons (SeqAt.EqAt.int_int _ _ _ _ prog w _ _ ?_))
  refine PySem.W.kat_go (fun e4 => ?ye4) (fun e4 => ?ne4)
  case ne4 =>
    have et : ¬ x.ticks = y.ticks := by simpa using e4
    refine PySem.W.kat_no (PySem.W.kat_one _ _ (PyProof.Rows.lt_int (Q := PySem.W.BoolBack _) ⟨rfl, ?_⟩))
    unfold stLt
    rw [if_pos ex, if_pos ey, if_pos ez, if_neg et]
  have et : x.ticks = y.ticks := by simpa using e4
  refine PySem.W.kat_yes (PySem.W.kat_cons (SeqAt.EqAt.int_int _ _ _ _ prog w _ _ ?_))
  refine PySem.W.kat_go (fun e5 => ?ye5) (fun e5 => ?ne5)
  case ne5 =>
    refine PySem.W.kat_no (PySem.W.kat_one _ _ (PyProof.Rows.lt_int (Q := PySem.W.BoolBack _) ⟨rfl, ?_⟩))
    unfold stLt
    rw [if_pos ex, if_pos ey, if_pos ez, if_pos et]
  have ec : x.change = y.change := by simpa using e5
  refine PySem.W.kat_yes (PySem.W.kat_nil ⟨rfl, ?_⟩)
  unfold stLt
  rw [if_pos ex, if_pos ey, if_pos ez, if_pos et, ec]
  exact (decide_eq_false (Int.lt_irrefl _)).symm
theorem st_firsts {h : Heap} : ∀ {vs : List Value}, (∀ v ∈ vs, ∃ s, IsSt h v s) → ∃ fs : List Value, PySem.W.KatTups h vs fs ∧ fs.length = vs.length ∧ ∀ f ∈ fs, ∃ x t, f = Value.int x t
  | [], _ => ⟨[], PySem.W.KatTups.nil, rfl, fun _ hm => absurd hm (by simp)⟩
  | v :: vs, hp => by
    obtain ⟨fs, h1, h2, h3⟩ := st_firsts (vs := vs) fun v' hm => hp v' (List.mem_cons_of_mem _ hm)
    obtain ⟨s, a, u, o, r, n, m, t1, t2, t3, t4, t5, t6, rfl, g1, g2, g3, _⟩ := hp v List.mem_cons_self
    refine ⟨.int s.one t1 :: fs, PySem.W.KatTups.cons g1 g2 g3 rfl h1, by rw [List.length_cons, List.length_cons, h2], fun f hm => ?_⟩
    rcases List.mem_cons.mp hm with rfl | hm
    · exact ⟨_, _, rfl⟩
    · exact h3 f hm
theorem st_sortable {a : Addr} {vs : List Value} {k : Value → St5} (hu : A.units + 1 < cLine) (h0 : 0 < vs.length) (hp : ∀ v ∈ vs, IsSt s.heap v (k v)) (ha : ∀ o, s.heap.get? a = some o → o.cls ≠ .type "tuple") :
    SrtO.SortableO prog w A s a vs fun v u => stLt (k v) (k u) := by
  intro h' keep
  have hp' : ∀ v ∈ vs, IsSt h' v (k v) := fun v hm => (hp v hm).keeps fun b o e c => keep b o (fun z => ha o (by rw [← z]; exact e) c) e
  obtain ⟨fs, h1, h2, h3⟩ := st_firsts fun v hm => ⟨_, hp' v hm⟩
  refine ⟨tuples' true, fun Q E hq => ?_, st_cmp hu hp'⟩
  refine PySem.W.kat_kind (T := .type "int") h1 (by omega) (fun f hm => ?_) (by rfl) ?_
  · obtain ⟨x, t, rfl⟩ := h3 f hm
    exact PySem.W.Looks.now
  · have e : (Value.type "int" != Value.type "tuple") = true := by decide +kernel
    rw [e]
    exact hq
end
section
open Classical
variable {X : Cx} {pins : List (Addr × Obj)} {σ : L2.St} {H : Hp} {s : Shared}
theorem is_st {v : V} {u : Value} {t : St5} (I : Inv X pins σ H s) (d : Dp X.K H v (stD t)) (r : RelV v u) : IsSt s.heap u t := by
  obtain ⟨a, b, rfl, h1, h2⟩ := stD_inv d
  cases (show u = Value.ref a from r)
  obtain ⟨i1, r1, ⟨o, g1, g2, n, g3⟩, _⟩ := I.tuple h1
  obtain ⟨i2, r2, ⟨o2, j1, j2, m, j3⟩, _⟩ := I.tuple h2
  cases r1 with
  | cons q1 r1 =>
    cases r1 with
    | cons q2 r1 =>
      cases r1 with
      | cons q3 r1 =>
        cases r1 with
        | cons q4 r1 =>
          cases r1 with
          | cons q5 r1 =>
            cases r1
            cases r2 with
            | cons p1 r2 =>
              cases r2 with
              | cons p2 r2 =>
                cases r2
                obtain ⟨t1, rfl⟩ := q1
                obtain ⟨t2, rfl⟩ := q2
                obtain rfl := q3
                obtain ⟨t3, rfl⟩ := q4
                obtain ⟨t4, rfl⟩ := q5
                obtain ⟨t5, rfl⟩ := p1
                obtain ⟨t6, rfl⟩ := p2
                exact ⟨a, b, o, o2, n, m, t1, t2, t3, t4, t5, t6, rfl, g1, g2, g3, j1, j2, j3⟩
theorem IsSt.uniq {h : Heap} {v : Value} {s t : St5} (x : IsSt h v s) (y : IsSt h v t) : s = t := by
  obtain ⟨a, u, o, r, n, m, t1, t2, t3, t4, t5, t6, rfl, g1, g2, g3, g4, g5, g6⟩ := x
  obtain ⟨a', u', o', r', n', m', u1, u2, u3, u4, u5, u6, e', j1, j2, j3, j4, j5, j6⟩ := y
  cases e'
  rw [g1] at j1
  cases j1
  rw [g3] at j3
  injection j3 with j3 _
  injection j3 with j3
  simp only [List.cons.injEq, Value.int.injEq, Value.ref.injEq, and_true] at j3
  obtain ⟨⟨e1, _⟩, ⟨e2, _⟩, e3, ⟨e4, _⟩, e5, _⟩ := j3
  subst e3
  rw [g4] at j4
  cases j4
  rw [g6] at j6
  injection j6 with j6 _
  injection j6 with j6
  simp only [List.cons.injEq, Value.int.injEq, and_true] at j6
  obtain ⟨⟨e6, _⟩, e7, _⟩ := j6
  cases s
  cases t
  simp_all
/-- steps in order -/
def SrS (ts : List St5) : Prop := ts.Pairwise fun x y => stLt y x = false
theorem dpa_of {K : PySem.W.Frag} {H : Hp} {k : Value → St5} : ∀ {l : List Value}, (∀ u ∈ l, Dp K H (backV u) (stD (k u))) → DpAll K H (l.map backV) ((l.map k).map stD)
  | [], _ => .nil
  | u :: l, h => .cons (h u List.mem_cons_self) (dpa_of fun v m => h v (List.mem_cons_of_mem _ m))
theorem ks_eq {k : Value → St5} (I : Inv X pins σ H s) : ∀ {xs : List V} {its : List Value} {ss : List St5}, Vals xs its → DpAll X.K H xs (ss.map stD) → (∀ v ∈ its, IsSt s.heap v (k v)) → its.map k = ss
  | [], _, ss, r, h, _ => by
    cases r
    cases ss with
    | nil => rfl
    | cons => cases h
  | x :: xs, _, [], r, h, _ => by cases h
  | x :: xs, _, t :: ss, r, h, hk => by
    cases r with
    | cons r1 r2 =>
      cases h with
      | cons h1 h2 =>
        rw [List.map_cons, ks_eq I r2 h2 fun v m => hk v (List.mem_cons_of_mem _ m), (hk _ List.mem_cons_self).uniq (is_st I h1 r1)]
/-- sorted of a list of steps: the same ones in order -/
def rSortSt (K : PySem.W.Frag) : List V → Hp → VK → Prop := fun vs H Q => ∃ (a : Addr) (xs : List V) (ss : List St5), vs = [V.ref a] ∧ SqL K H a xs ∧ DpAll K H xs (ss.map stD) ∧
  ∀ (ys : List V) (ts : List St5) (p : Addr), ys.Perm xs → ts.Perm ss → DpAll K H ys (ts.map stD) → SrS ts → H p = none → Q (.ref p) (upd H p (.lst ys))
theorem cr_sortSt {j : Nat} (hr : Room j X.A) : CallR X (.builtin "sorted") (rSortSt X.K) := by
  intro pins s σ H vs us Q I r h
  obtain ⟨a, xs, ss, rfl, hs, hD0, q⟩ := h
  have hx : ∀ x ∈ xs, ∃ t, Dp X.K H x (stD t) := fun x hx => by
    obtain ⟨i, hi⟩ := List.mem_iff_getElem?.mp hx
    obtain ⟨d, h1, h2⟩ := dpa_get hD0 hi
    rw [List.getElem?_map] at h1
    cases q : ss[i]? with
    | none =>
      rw [q] at h1
      cases h1
    | some t =>
      rw [q] at h1
      cases h1
      exact ⟨t, h2⟩
  obtain ⟨its, rv, hl, hz⟩ := I.list hs
  obtain ⟨u, rfl, ru⟩ := vals1 r
  cases (show u = Value.ref a from ru)
  have hun := hr.un
  have all : ∀ v ∈ its, ∃ t, IsSt s.heap v t := fun v hv => by
    obtain ⟨i, hi⟩ := List.mem_iff_getElem?.mp hv
    have hlen := rv.length
    have hil : i < its.length := (List.getElem?_eq_some_iff.mp hi).1
    have hx1 : xs[i]? = some (xs[i]'(by omega)) := List.getElem?_eq_getElem (by omega)
    obtain ⟨w', hw, rw'⟩ := rv.get hx1
    rw [hi] at hw
    cases hw
    obtain ⟨t, ht⟩ := hx _ (mem_of_get hx1)
    exact ⟨t, is_st I ht rw'⟩
  let k : Value → St5 := fun v => if h : ∃ t, IsSt s.heap v t then Classical.choose h else ⟨0, 0, 0, 0, 0, 0⟩
  have hk : ∀ v ∈ its, IsSt s.heap v (k v) := fun v hv => by
    have e : k v = Classical.choose (all v hv) := dif_pos (all v hv)
    rw [e]
    exact Classical.choose_spec (all v hv)
  have hks := ks_eq I rv hD0 hk
  obtain ⟨e1, e2⟩ := refs_back rv fun x m => by
    obtain ⟨t, ht⟩ := hx x m
    obtain ⟨b, c, e, _⟩ := stD_inv ht
    exact ⟨b, e⟩
  refine SrtO.sorted_ord (swo_st k) hl.isList (by rw [← rv.length]; exact hz) (fun h2 h₁ b hb kk => ?_) fun out h1 h2 => ?_
  · refine st_sortable (s := { s with heap := h₁ }) (show X.A.in1.in1.units + 1 < cLine by show X.A.units + 1 + 1 + 1 < cLine; omega) (by omega) (fun v hv => (hk v hv).keeps fun c o e _ => (kk c o e).2) fun o e => ?_
    cases (show some o = some (seqObj "list" its.toArray 0) from e.symm.trans hb)
    intro c
    exact absurd (Value.type.inj c) (by decide)
  · have h3 : ∀ u ∈ out, ∃ a, u = Value.ref a := fun u hu => e2 u (h2.perm.mem_iff.mp hu)
    obtain ⟨n, hn⟩ := PyProof.Rows.sortedAll_at s.heap its out.toArray
    have hp : (out.map backV).Perm xs := by
      rw [e1]
      exact h2.perm.map backV
    have hD : DpAll X.K H (out.map backV) ((out.map k).map stD) := dpa_of fun u hu => by
      obtain ⟨b, rfl⟩ := h3 u hu
      obtain ⟨t, ht⟩ := hx (backV (.ref b)) (hp.mem_iff.mp (List.mem_map.mpr ⟨_, hu, rfl⟩))
      have h5 := is_st I ht (show RelV (backV (.ref b)) (.ref b) from rfl)
      rw [(hk _ (h2.perm.mem_iff.mp hu)).uniq h5]
      exact ht
    have hO : SrS (out.map k) := List.pairwise_map.mpr h1
    refine ⟨.ref (s.heap.objs.size + 1), upd H (s.heap.objs.size + 1) (.lst (out.map backV)), I.laid (t' := s.toks) (fun b o e => PyProof.Rows.sortedAll_old e) (Nat.le_succ _) ⟨?_, out, n, vals_back h3, hn⟩, rfl, q _ _ _ hp (by rw [← hks]; exact h2.perm.map k) hD hO (I.hok.fresh (Nat.le_succ _))⟩
    rw [hp.length_eq]
    exact hz
end
end AA

set_option Elab.async false
set_option linter.all false
set_option maxRecDepth 100000
set_option maxHeartbeats 4000000
/-! A dict whose keys are steps (tuples with a tuple in them), whose values are True. -/
namespace AA
open PySem PySem.Spec PyProof.Rows L2 Evl
def stK (s : St5) : NestedKey := .tup [.num s.one, .num s.other, .tup [.num s.p, .num s.q], .num s.ticks, .num s.change]
theorem stK_inj {s t : St5} (h : stK s = stK t) : s = t := by
  unfold stK at h
  injection h with h
  injection h with a1 h
  injection h with a2 h
  injection h with a3 h
  injection h with a4 h
  injection h with a5 _
  injection a1 with a1
  injection a2 with a2
  injection a4 with a4
  injection a5 with a5
  injection a3 with a3
  injection a3 with b1 a3
  injection a3 with b2 _
  injection b1 with b1
  injection b2 with b2
  cases s
  cases t
  simp_all
theorem IsSt.nested {h : Heap} {b : Addr} {s : St5} (x : IsSt h (.ref b) s) : NestedIs h (stK s) (.ref b) := by
  obtain ⟨a, u, o, r, n, m, t1, t2, t3, t4, t5, t6, e, g1, g2, g3, g4, g5, g6⟩ := x
  cases e
  exact .tup g1 g2 g3 (.cons (.int _ _) (.cons (.int _ _) (.cons (.tup g4 g5 g6 (.cons (.int _ _) (.cons (.int _ _) .nil))) (.cons (.int _ _) (.cons (.int _ _) .nil)))))
theorem IsSt.key {prog : Program} {w : World} {h : Heap} {b : Addr} {s : St5} (x : IsSt h (.ref b) s) : (nestedKind prog w).is h (stK s) b := ⟨x.nested, by simp [stK, NestedKey.depth, NestedKey.depthAll]⟩
/-- the entries of the dict -/
def sdEn (x : St5 × Addr) : NestedKey × Addr × Value := (stK x.1, x.2, .bool true)
/-- a dict at a, its keys these steps at these places -/
def SD (P : Program) (w : World) (a : Addr) (ks : List (St5 × Addr)) : HO := .ext fun h => ks.length ≤ sizeLine ∧ (a == sysModules) = false ∧ (ks.map (·.1)).Nodup ∧
  ∃ o es ep, h.get? a = some o ∧ o.ExactDict ∧ o.data = .dict es ep ∧ es.toList = (ks.map sdEn).map (entryOfKey (nestedKind P w))
/-- and its keys stand -/
def KsOk (K : PySem.W.Frag) (H : Hp) (ks : List (St5 × Addr)) : Prop := ∀ x ∈ ks, Dp K H (.ref x.2) (stD x.1)
theorem KsOk.ex {K : PySem.W.Frag} {H H' : Hp} {ks : List (St5 × Addr)} (h : KsOk K H ks) (e : Ex H H') : KsOk K H' ks := fun x m => dp_ex e _ _ (h x m)
theorem KsOk.nil {K : PySem.W.Frag} {H : Hp} : KsOk K H [] := fun _ m => absurd m (by simp)
theorem KsOk.snoc {K : PySem.W.Frag} {H : Hp} {ks : List (St5 × Addr)} {s : St5} {b : Addr} (h : KsOk K H ks) (d : Dp K H (.ref b) (stD s)) : KsOk K H (ks ++ [(s, b)]) := fun x m => by
  rcases List.mem_append.mp m with m | m
  · exact h x m
  · rw [List.mem_singleton] at m
    subst m
    exact d
theorem sd_nodup : ∀ {ks : List (St5 × Addr)}, (ks.map (·.1)).Nodup → ((ks.map sdEn).map (·.1)).Nodup := by
  intro ks h
  have e : (ks.map sdEn).map (·.1) = (ks.map (·.1)).map stK := by
    rw [List.map_map, List.map_map]
    rfl
  rw [e]
  exact h.map stK fun x y n z => n (stK_inj z)
theorem sd_at (t : St5) : ∀ ks : List (St5 × Addr), (atKey (ks.map sdEn) (stK t)).isSome = decide (t ∈ ks.map (·.1))
  | [] => rfl
  | x :: r => by
    have ih := sd_at t r
    by_cases e : x.1 = t
    · have h1 : (stK x.1 = stK t) := by rw [e]
      have h2 : atKey ((x :: r).map sdEn) (stK t) = some (x.2, .bool true) := by simp [atKey, sdEn, h1]
      rw [h2, List.map_cons, decide_eq_true (List.mem_cons.mpr (.inl e.symm))]
      rfl
    · have h1 : ¬ stK x.1 = stK t := fun z => e (stK_inj z)
      have h2 : atKey ((x :: r).map sdEn) (stK t) = atKey (r.map sdEn) (stK t) := by simp [atKey, sdEn, h1]
      rw [h2, ih]
      exact decide_eq_decide.mpr ⟨fun m => List.mem_cons_of_mem _ m, fun m => (List.mem_cons.mp m).elim (fun z => absurd z.symm e) id⟩
theorem sd_none {t : St5} {ks : List (St5 × Addr)} (h : t ∉ ks.map (·.1)) : atKey (ks.map sdEn) (stK t) = none := by
  have := sd_at t ks
  rw [decide_eq_false h] at this
  cases q : atKey (ks.map sdEn) (stK t) with
  | none => rfl
  | some x =>
    rw [q] at this
    cases this
section
variable {X : Cx} {pins : List (Addr × Obj)} {σ : L2.St} {H : Hp} {s : Shared} {a : Addr} {ks : List (St5 × Addr)} {A : Around} {E : Value → Shared → Prop}
theorem sd_is {x : St5 × Addr} (I : Inv X pins σ H s) (d : Dp X.K H (.ref x.2) (stD x.1)) : (nestedKind X.prog X.w).is s.heap (stK x.1) x.2 :=
  IsSt.key (is_st I d rfl)
theorem sd_of (I : Inv X pins σ H s) (e : H a = some (SD X.prog X.w a ks)) (k : KsOk X.K H ks) : ks.length ≤ sizeLine ∧ (a == sysModules) = false ∧ (ks.map (·.1)).Nodup ∧ s.heap.DictOfH (nestedKind X.prog X.w) a (ks.map sdEn) := by
  obtain ⟨⟨z, hd, hn, o, es, ep, h1, h2, h3, h4⟩, _, _⟩ := (show ObjOk X.prog X.w H s.heap a (SD X.prog X.w a ks) from I.hok a _ e)
  refine ⟨z, hd, hn, o, es, ep, h1, h2, h3, h4, fun y hy => ?_, sd_nodup hn⟩
  obtain ⟨x, hx, rfl⟩ := List.mem_map.mp hy
  exact sd_is I (k x hx)
theorem sd_ok {P : Program} {w : World} {H' : Hp} {h' : Heap} (z : ks.length ≤ sizeLine) (hd : (a == sysModules) = false) (hn : (ks.map (·.1)).Nodup) (d : h'.DictOfH (nestedKind P w) a (ks.map sdEn)) : ObjOk P w H' h' a (SD P w a ks) := by
  obtain ⟨o, es, ep, h1, h2, h3, h4, _⟩ := d
  exact ⟨⟨z, hd, hn, o, es, ep, h1, h2, h3, h4⟩, ⟨o, h1⟩, fun h1' h2' p k => by
    obtain ⟨z, hd, hn, o, es, ep, g1, g⟩ := p
    exact ⟨z, hd, hn, o, es, ep, k _ g1, g⟩⟩
/-- found[step] = True, the step new -/
theorem sd_set {t : St5} {b : Addr} {Q : Unit → Shared → Prop} (hu : A.units + 9 < cLine) (I : Inv X pins σ H s) (e : H a = some (SD X.prog X.w a ks)) (k : KsOk X.K H ks) (d : Dp X.K H (.ref b) (stD t)) (hn : t ∉ ks.map (·.1)) (hl : ks.length < sizeLine)
    (h : ∀ s', Inv X pins σ (upd H a (SD X.prog X.w a (ks ++ [(t, b)]))) s' → Q () s') : wpAny (model X.prog X.w) A (setItem (.ref a) (.ref b) (.bool true)) Q E s := by
  obtain ⟨z, hd, nd, dd⟩ := sd_of I e k
  refine wpAny_setItem_heap (hsz := by rw [List.length_map]; exact z) (show A.in1.units + 8 < cLine by rw [Around.in1_units]; omega) (sd_is (x := (t, b)) I d) dd fun h' dd' hs => h _ ?_
  rw [storedH_new (sd_none hn)] at dd'
  have e2 : ks.map sdEn ++ [(stK t, b, Value.bool true)] = (ks ++ [(t, b)]).map sdEn := by rw [List.map_append]; rfl
  rw [show ((stK (t, b).1), b, Value.bool true) = (stK t, b, Value.bool true) from rfl, e2] at dd'
  obtain ⟨q, es, ep, hq, h2⟩ := id dd'
  refine d_write I (by rw [e]; exact True.intro) hs ⟨q, hq⟩ (sd_ok (by rw [List.length_append]; exact hl) hd ?_ dd')
  rw [List.map_append, List.nodup_append]
  refine ⟨nd, by simp, fun x hx y hy => ?_⟩
  simp only [List.map_cons, List.map_nil, List.mem_singleton] at hy
  subst hy
  exact fun q => hn (q ▸ hx)
theorem sd_in {t : St5} {b : Addr} {Q : Value → Shared → Prop} (hu : A.units + 9 < cLine) (I : Inv X pins σ H s) (e : H a = some (SD X.prog X.w a ks)) (k : KsOk X.K H ks) (d : Dp X.K H (.ref b) (stD t))
    (h : ∀ s', Inv X pins σ H s' → Q (.bool (decide (t ∈ ks.map (·.1)))) s') : wpAny (model X.prog X.w) A (compareOp .In (.ref b) (.ref a)) Q E s := by
  obtain ⟨z, hd, nd, dd⟩ := sd_of I e k
  refine wpAny_in_heap (show A.in1.units + 8 < cLine by rw [Around.in1_units]; omega) (sd_is (x := (t, b)) I d) hd dd ?_
  rw [sd_at]
  exact h _ (I.tok _)
theorem sd_notIn {t : St5} {b : Addr} {Q : Value → Shared → Prop} (hu : A.units + 9 < cLine) (I : Inv X pins σ H s) (e : H a = some (SD X.prog X.w a ks)) (k : KsOk X.K H ks) (d : Dp X.K H (.ref b) (stD t))
    (h : ∀ s', Inv X pins σ H s' → Q (.bool (!decide (t ∈ ks.map (·.1)))) s') : wpAny (model X.prog X.w) A (compareOp .NotIn (.ref b) (.ref a)) Q E s := by
  obtain ⟨z, hd, nd, dd⟩ := sd_of I e k
  refine wpAny_notIn_heap (show A.in1.units + 8 < cLine by rw [Around.in1_units]; omega) (sd_is (x := (t, b)) I d) hd dd ?_
  rw [sd_at]
  exact h _ (I.tok _)
end
end AA

set_option Elab.async false
set_option linter.all false
set_option maxRecDepth 100000
set_option maxHeartbeats 4000000
/-! The same: None looked up, the rules for the program's text, list of it, a comprehension that makes one. -/
namespace AA
open PySem PySem.Spec PyProof.Rows L2 Evl
section
variable {prog : Program} {w : World} {A : Around} {E : Value → Shared → Prop} {s : Shared}
theorem find_none {d : Addr} {o : Obj} {es : Array DictEntry} {ep : Nat} {hh : Int} {Q : Option Nat → Shared → Prop} (hu : A.units + 8 < cLine) (ho : s.heap.get? d = some o) (hd : o.data = .dict es ep)
    (hk : ∀ e ∈ es, ∃ t b, e.key = .ref b ∧ IsSt s.heap (.ref b) t) (hq : Q none s) : wpAny (model prog w) A (dictFind d .none hh) Q E s := by
  have key : ∀ (i : Nat) (e : DictEntry), es[i]? = some e → ∃ t b, e.key = .ref b ∧ IsSt s.heap (.ref b) t := fun i e h => hk e (Array.mem_of_getElem? h)
  unfold dictFind
  try with_reducible refine wpAny_holding ?_
  refine wpAny_bind (wpAny_dictEntries ho hd ?_)
  dsimp only
  by_cases hc : ((Value.none :: (placesWithHash es.size (fun i => es[i]?.map (·.hash)) hh).filterMap (fun i => es[i]?.map (·.key))).all carriedByValue) = true
  · rw [if_pos hc]
    have hp : ∀ i ∈ placesWithHash es.size (fun i => es[i]?.map (·.hash)) hh, es[i]? = none := fun i hi => by
      cases q : es[i]? with
      | none => rfl
      | some e =>
        obtain ⟨t, b, e1, _⟩ := key i e q
        have m : e.key ∈ (placesWithHash es.size (fun i => es[i]?.map (·.hash)) hh).filterMap (fun i => es[i]?.map (·.key)) := List.mem_filterMap.mpr ⟨i, hi, by rw [q]; rfl⟩
        have := List.all_eq_true.mp hc _ (List.mem_cons_of_mem _ m)
        rw [e1] at this
        cases this
    unfold dictWalkPlain
    refine wpAny_bind ?_
    refine wpAny_forIn_list _ (fun rest b s' => s' = s ∧ b = (none, ()) ∧ ∀ i ∈ rest, es[i]? = none) _ ?_ ?_ _ _ ⟨rfl, rfl, hp⟩
    · rintro x rest b s' ⟨rfl, rfl, hr⟩
      rw [hr x List.mem_cons_self]
      exact wpAny_pure ⟨rfl, rfl, fun i hi => hr i (List.mem_cons_of_mem _ hi)⟩
    · rintro b s' ⟨rfl, rfl, _⟩
      exact wpAny_pure hq
  · rw [if_neg hc]
    have hst : ∀ v ∈ (placesWithHash es.size (fun i => es[i]?.map (·.hash)) hh).filterMap (fun i => es[i]?.map (·.key)), ∃ t b, v = .ref b ∧ IsSt s.heap (.ref b) t := fun v hv => by
      obtain ⟨i, _, hi⟩ := List.mem_filterMap.mp hv
      cases q : es[i]? with
      | none =>
        rw [q] at hi
        cases hi
      | some e =>
        rw [q] at hi
        obtain rfl : e.key = v := by simpa using hi
        exact key i e q
    have tell : ∀ (st : List Value) (R : Bool → Shared → Prop), (∀ v ∈ st, ∃ t b, v = .ref b ∧ IsSt s.heap (.ref b) t) → R false s → wpAny (model prog w) A (tableMayTell .none st) R E s := by
      intro st R hv hR
      unfold tableMayTell
      split
      · exact wpAny_pure hR
      · refine wpAny_bind (quiet_key .none _ 8 s .none (by simp [NestedKey.depth]) A E _ ?_)
        simp only [Bool.not_true, Bool.false_eq_true, if_false]
        refine wpAny_bind ?_
        refine wpAny_forIn_list _ (fun rest r s' => s' = s ∧ r = (none, ()) ∧ ∀ v ∈ rest, ∃ t b, v = .ref b ∧ IsSt s.heap (.ref b) t) _ ?_ ?_ _ _ ⟨rfl, rfl, hv⟩
        · rintro x rest r s' ⟨rfl, rfl, hr⟩
          obtain ⟨t, b, rfl, hb⟩ := hr x List.mem_cons_self
          refine wpAny_bind (quiet_key (stK t) _ 8 s' hb.nested (by simp [stK, NestedKey.depth, NestedKey.depthAll]) A E _ ?_)
          simp only [Bool.not_true, Bool.false_eq_true, if_false]
          exact wpAny_pure ⟨rfl, rfl, fun v m => hr v (List.mem_cons_of_mem _ m)⟩
        · rintro r s' ⟨rfl, rfl, _⟩
          exact wpAny_pure hR
    rw [if_neg (fun z => ?bad)]
    case bad =>
      have z1 := eq_of_beq z
      obtain ⟨t, b, q, _⟩ := hst .none (by rw [z1]; exact List.mem_cons_self)
      cases q
    refine wpAny_bind (tell _ _ hst ?_)
    rw [if_neg (by simp)]
    refine wpAny_bind ?_
    refine wpAny_forIn_list _ (fun rest b s' => s' = s ∧ b = (none, none)) _ ?_ ?_ _ _ ⟨rfl, rfl⟩
    · rintro x rest b s' ⟨rfl, rfl⟩
      cases q : es[x]? with
      | none => exact wpAny_pure ⟨rfl, rfl⟩
      | some e =>
        obtain ⟨t, b, e1, hb⟩ := key x e q
        dsimp only
        by_cases hs : (e.hash == hh) = true
        · rw [if_pos hs]
          refine wpAny_bind (wpAny_dictEpoch ho hd (wpAny_bind ?_))
          rw [e1]
          refine eqAt_key (stK t) .none A s' _ _ hb.nested .none (by simp only [NestedKey.depth]; omega) _ _ _ _ ?_
          refine wpAny_bind (wpAny_dictEpoch ho hd ?_)
          rw [if_neg (by simp)]
          rw [if_neg (by simp [stK, NestedKey.beq])]
          refine wpAny_bind (wpAny_rule ?_)
          rw [if_neg (by simp)]
          exact wpAny_pure ⟨rfl, rfl⟩
        · rw [if_neg hs]
          exact wpAny_pure ⟨rfl, rfl⟩
    · rintro b s' ⟨rfl, rfl⟩
      exact wpAny_pure hq
theorem get_none {d : Addr} {o : Obj} {es : Array DictEntry} {ep : Nat} {Q : Option Value → Shared → Prop} (hu : A.units + 8 < cLine) (ho : s.heap.get? d = some o) (hd : o.data = .dict es ep)
    (hk : ∀ e ∈ es, ∃ t b, e.key = .ref b ∧ IsSt s.heap (.ref b) t) (hq : Q none { s with toks := s.toks + 1 }) : wpAny (model prog w) A (dictGet d .none) Q E s := by
  unfold dictGet
  try with_reducible refine wpAny_holding ?_
  exact wpAny_bind (pyHash_key .none .none A s _ .none (by simp only [NestedKey.depth]; omega) (wpAny_bind (find_none (s := { s with toks := s.toks + 1 }) hu ho hd hk (wpAny_pure hq))))
theorem notIn_none {d : Addr} {o : Obj} {es : Array DictEntry} {ep : Nat} {Q : Value → Shared → Prop} (hu : A.units + 9 < cLine) (hs : (d == sysModules) = false) (ho : s.heap.get? d = some o) (hx : o.ExactDict) (hd : o.data = .dict es ep)
    (hk : ∀ e ∈ es, ∃ t b, e.key = .ref b ∧ IsSt s.heap (.ref b) t) (hq : Q (.bool true) { s with toks := s.toks + 1 }) : wpAny (model prog w) A (compareOp .NotIn .none (.ref d)) Q E s := by
  have hT : s.TypeIs (.ref d) "dict" := ⟨o, ho, hx.1⟩
  show wpAny _ _ (contains (.ref d) .none >>= fun b => pure (.bool (!b))) Q E s
  refine wpAny_bind (wpAny_contains_slot hT slot_dict_contains (wpAny_call_entry slot_dict_contains hT entry_dict_contains ?_ (args_dict_contains _ _)))
  show wpAny _ _ (dictGet d .none >>= _) _ _ s
  refine wpAny_bind (get_none (by rw [Around.in1_units]; omega) ho hd hk ?_)
  exact wpAny_bind (wpAny_pendingKey_other hs (wpAny_pure ⟨_, rfl, wpAny_truthy_bool (wpAny_pure hq)⟩))
end
section
variable {X : Cx} {o i e value : Expr} {pos pos' tpos : Pos} {j : Nat} {td ty tv : TE}
theorem sd_ents {pins : List (Addr × Obj)} {σ : L2.St} {H : Hp} {s : Shared} {a : Addr} {ks : List (St5 × Addr)} (I : Inv X pins σ H s) (e : H a = some (SD X.prog X.w a ks)) (k : KsOk X.K H ks) :
    (a == sysModules) = false ∧ ks.length ≤ sizeLine ∧ ∃ o es ep, s.heap.get? a = some o ∧ o.ExactDict ∧ o.data = .dict es ep ∧ es.toList = (ks.map sdEn).map (entryOfKey (nestedKind X.prog X.w)) ∧ ∀ e ∈ es, ∃ t b, e.key = .ref b ∧ IsSt s.heap (.ref b) t := by
  obtain ⟨⟨z, hd, hn, o, es, ep, h1, h2, h3, h4⟩, _, _⟩ := (show ObjOk X.prog X.w H s.heap a (SD X.prog X.w a ks) from I.hok a _ e)
  refine ⟨hd, z, o, es, ep, h1, h2, h3, h4, fun en hen => ?_⟩
  have m : en ∈ (ks.map sdEn).map (entryOfKey (nestedKind X.prog X.w)) := h4 ▸ Array.mem_toList_iff.mpr hen
  obtain ⟨y, hy, rfl⟩ := List.mem_map.mp m
  obtain ⟨x, hx, rfl⟩ := List.mem_map.mp hy
  exact ⟨x.1, x.2, rfl, is_st I (k x hx) rfl⟩
/-- {}, to hold steps -/
def tSNew (X : Cx) : TE := fun _ H Q => ∀ p, H p = none → Q (.ref p) (upd H p (SD X.prog X.w p []))
theorem sd_empty {P : Program} {w : World} {H : Hp} (h : Heap) (hb : sysModules < h.objs.size) : ObjOk P w H (h.push { cls := .type "dict", data := .dict #[] }) h.objs.size (SD P w h.objs.size []) :=
  sd_ok (Nat.zero_le _) (beq_eq_false_iff_ne.mpr (Ne.symm (Nat.ne_of_lt hb))) List.nodup_nil (Heap.DictOfH.new h)
theorem pe_snew : PE X (.Dict [] [] pos) (tSNew X) := ⟨fun pins s σ H Q I h =>
  have hf : s.heap.objs.size ≤ s.heap.objs.size := Nat.le_refl _
  wpAny_Dict_empty ⟨.ref s.heap.objs.size, _, I.laid (t' := s.toks) (o := SD X.prog X.w s.heap.objs.size []) (fun _ _ q => Heap.get?_push_of_some _ q) hf (sd_empty s.heap I.big), rfl, h _ (I.hok.fresh hf)⟩⟩
/-- the step y among the dict's keys -/
def SHas (X : Cx) (H : Hp) (x y : V) (r : Bool) : Prop := ∃ a ks b t, x = .ref a ∧ y = .ref b ∧ H a = some (SD X.prog X.w a ks) ∧ KsOk X.K H ks ∧ Dp X.K H (.ref b) (stD t) ∧ r = decide (t ∈ ks.map (·.1))
/-- None is not -/
def SNon (X : Cx) (H : Hp) (x y : V) : Prop := ∃ a ks, x = .ref a ∧ y = .non ∧ H a = some (SD X.prog X.w a ks) ∧ KsOk X.K H ks
def tSIn (X : Cx) (ty td : TE) : TE := fun σ H Q => ty σ H fun y H1 => td σ H1 fun x H2 => ∃ r, SHas X H2 x y r ∧ Q (.bl r) H2
def tSNot (X : Cx) (ty td : TE) : TE := fun σ H Q => ty σ H fun y H1 => td σ H1 fun x H2 => (∃ r, SHas X H2 x y r ∧ Q (.bl (!r)) H2) ∨ (SNon X H2 x y ∧ Q (.bl true) H2)
def sSPut (X : Cx) (td ty : TE) : TS := fun D σ H => td σ H fun x H2 => ty σ H2 fun y H3 => ∃ a ks b t, x = .ref a ∧ y = .ref b ∧ H3 a = some (SD X.prog X.w a ks) ∧ KsOk X.K H3 ks ∧ Dp X.K H3 (.ref b) (stD t) ∧ t ∉ ks.map (·.1) ∧ ks.length < sizeLine ∧
  D.nx σ (upd H3 a (SD X.prog X.w a (ks ++ [(t, b)])))
theorem pc_sin (hu : X.A.units + 9 < cLine) (hi : PE X i ty) (ho : PE X o td) : PC X .In i o (tSIn X ty td) := ⟨fun pins s σ H Q I h =>
  thn (hi.run pins s σ H _ I h) fun iv s1 ⟨y, H1, I1, ry, q1⟩ => thn (ho.run pins s1 σ H1 _ I1 q1) fun u s2 ⟨x, H2, I2, rx, r, g, q2⟩ => by
    obtain ⟨a, ks, b, t, rfl, rfl, e, k, d, rfl⟩ := g
    cases (show u = Value.ref a from rx)
    cases (show iv = Value.ref b from ry)
    exact sd_in hu I2 e k d fun s3 I3 => ⟨.bl _, H2, I3, rfl, q2⟩⟩
theorem pc_snot (hu : X.A.units + 9 < cLine) (hi : PE X i ty) (ho : PE X o td) : PC X .NotIn i o (tSNot X ty td) := ⟨fun pins s σ H Q I h =>
  thn (hi.run pins s σ H _ I h) fun iv s1 ⟨y, H1, I1, ry, q1⟩ => thn (ho.run pins s1 σ H1 _ I1 q1) fun u s2 ⟨x, H2, I2, rx, q2⟩ => by
    rcases q2 with ⟨r, ⟨a, ks, b, t, rfl, rfl, e, k, d, rfl⟩, q2⟩ | ⟨⟨a, ks, rfl, rfl, e, k⟩, q2⟩
    · cases (show u = Value.ref a from rx)
      cases (show iv = Value.ref b from ry)
      exact sd_notIn hu I2 e k d fun s3 I3 => ⟨.bl _, H2, I3, rfl, q2⟩
    · cases (show u = Value.ref a from rx)
      cases (show iv = Value.none from ry)
      obtain ⟨hs, _, o, es, ep, h1, h2, h3, _, h5⟩ := sd_ents I2 e k
      exact notIn_none hu hs h1 h2 h3 h5 ⟨.bl true, H2, I2.tok _, rfl, q2⟩⟩
theorem ps_sput (hu : X.A.units + 9 < cLine) (ho : PE X o td) (hi : PE X i ty) (hs : swapsWith (.Constant (.bool true) j tpos) (some (.Subscript o i pos')) pos.line X.env = pure false) :
    PS X (.Assign [.Subscript o i pos'] (.Constant (.bool true) j tpos) pos) (sSPut X td ty) := ⟨fun pins s σ H D I h =>
  wpAny_Assign_Subscript (Constant_bool (thn (ho.run pins s σ H _ I h) fun u s2 ⟨x, H2, I2, rx, q2⟩ => thn (hi.run pins s2 σ H2 _ I2 q2) fun iv s3 ⟨y, H3, I3, ry, g⟩ => by
    obtain ⟨a, ks, b, t, rfl, rfl, e, k, d, hn, hl, q⟩ := g
    cases (show u = Value.ref a from rx)
    cases (show iv = Value.ref b from ry)
    exact sd_set hu I3 e k d hn hl fun s4 I4 => ⟨σ, _, I4, q⟩)) hs⟩
/-- list(d): the steps in the order in which they came -/
theorem call_list_sd (hc : X.calm = true) : CallR X (.type "list") (fun xs H Q => ∃ d ks, xs = [V.ref d] ∧ H d = some (SD X.prog X.w d ks) ∧ KsOk X.K H ks ∧ ∀ p, H p = none → Q (.ref p) (upd H p (.lst (ks.map fun x => V.ref x.2)))) := by
  intro pins s σ H xs us Q I r h
  obtain ⟨d, ks, rfl, hd, hk, q⟩ := h
  obtain ⟨u, rfl, rx⟩ := r.one
  cases rx
  obtain ⟨hs, hz, o, es, ep, ho, hx, hdt, he, _⟩ := sd_ents I hd hk
  have l1 : es.size = ks.length := by rw [size_of_entries he, List.length_map]
  refine PySem.W.kdl_call (kdl_raw hs hx hdt) (I.ok.hd hc) ho (by omega) fun h' tk acc' c' kp e it => ?_
  have ea : acc'.toList = (ks.map fun x => x.2).map Value.ref := by
    apply List.ext_getElem?
    intro j
    rw [List.getElem?_map, List.getElem?_map]
    by_cases hj : j < ks.length
    · have hj2 : j < acc'.toList.length := by rw [Array.length_toList, it.1]; omega
      have ej := List.getElem?_eq_getElem hj2
      obtain ⟨en, hen, hv⟩ := it.2 j _ (by rw [← Array.getElem?_toList]; exact ej)
      have qe := entry_at he j
      rw [hen, List.getElem?_map, List.getElem?_eq_getElem hj] at qe
      have e2 : en = entryOfKey (nestedKind X.prog X.w) (sdEn ks[j]) := Option.some.inj qe
      rw [ej, List.getElem?_eq_getElem hj, hv, e2]
      rfl
    · rw [List.getElem?_eq_none (by rw [Array.length_toList, it.1]; omega), List.getElem?_eq_none (by omega)]
      rfl
  have rv : Vals ((ks.map fun x => x.2).map V.ref) acc'.toList := by
    rw [ea]
    exact vals_refs _
  have em : (ks.map fun x => x.2).map V.ref = ks.map fun x => V.ref x.2 := by
    rw [List.map_map]
    rfl
  rw [em] at rv
  have hf : s.heap.objs.size ≤ s.heap.objs.size := Nat.le_refl _
  exact ⟨.ref s.heap.objs.size, _, I.laid (t' := tk) (o := .lst (ks.map fun x => V.ref x.2)) kp hf ⟨by rw [List.length_map]; exact hz, acc'.toList, c', rv, by rw [Array.toArray_toList]; exact e⟩, rfl, q _ (I.hok.fresh hf)⟩
end
end AA

set_option Elab.async false
set_option linter.all false
set_option maxRecDepth 100000
set_option maxHeartbeats 4000000
/-! {step: True for .. in ..}: a comprehension that makes a dict of steps (by way of compLoop_anyD, as dc_core goes for dicts with plain keys). -/
namespace AA
open PySem PySem.Spec PyProof.Rows L2 Evl
section
variable {X : Cx} {pins : List (Addr × Obj)} {σ : L2.St} {H : Hp} {s : Shared}
theorem sd_dictSet {E : Value → Shared → Prop} {D b : Addr} {ks : List (St5 × Addr)} {t : St5} {Q : Unit → Shared → Prop} (hu : X.A.units + 8 < cLine) (I : Inv X pins σ H s) (e : H D = some (SD X.prog X.w D ks)) (k : KsOk X.K H ks) (d : Dp X.K H (.ref b) (stD t))
    (hn : t ∉ ks.map (·.1)) (hl : ks.length < sizeLine) (h : ∀ s', Inv X pins σ (upd H D (SD X.prog X.w D (ks ++ [(t, b)]))) s' → Q () s') : wpAny (model X.prog X.w) X.A (dictSet D (.ref b) (.bool true)) Q E s := by
  obtain ⟨z, hd, nd, dd⟩ := sd_of I e k
  refine wpAny_dictSet_heap (hsz := by rw [List.length_map]; exact z) (show X.A.units + 8 < cLine from hu) (sd_is (x := (t, b)) I d) dd fun h' dd' hs => h _ ?_
  rw [storedH_new (sd_none hn)] at dd'
  have e2 : ks.map sdEn ++ [(stK (t, b).1, b, Value.bool true)] = (ks ++ [(t, b)]).map sdEn := by rw [List.map_append]; rfl
  rw [e2] at dd'
  obtain ⟨q, es, ep, hq, h2⟩ := id dd'
  refine d_write I (by rw [e]; exact True.intro) hs ⟨q, hq⟩ (sd_ok (by rw [List.length_append]; exact hl) hd ?_ dd')
  rw [List.map_append, List.nodup_append]
  refine ⟨nd, by simp, fun x hx y hy => ?_⟩
  simp only [List.map_cons, List.map_nil, List.mem_singleton] at hy
  subst hy
  exact fun q => hn (q ▸ hx)
end
/-- the key y goes into the dict at D -/
def SNext (X : Cx) (H : Hp) (D : Addr) (y : V) (Nx : Hp → Prop) : Prop := ∃ ks b t, y = .ref b ∧ H D = some (SD X.prog X.w D ks) ∧ KsOk X.K H ks ∧ Dp X.K H (.ref b) (stD t) ∧ t ∉ ks.map (·.1) ∧ ks.length < sizeLine ∧ Nx (upd H D (SD X.prog X.w D (ks ++ [(t, b)])))
def tSc (X : Cx) (wi : TI) (g : TG) (tk : TE) (vs : List Nat) : TE := fun σ G Q => wi σ G fun J G1 => ∀ D, G1 D = none → ∃ W : Nat → Nat → Hp → Prop, (∃ m, W 0 m (upd G1 D (SD X.prog X.w D []))) ∧ ∀ i m G, W i m G →
  (J.stop i G ∧ Q (.ref D) G) ∨ (J.go i G ∧ ∃ Nx : Hp → Prop, (∀ G', Nx G' → ∃ m', m' < m ∧ W (i + 1) m' G') ∧ ∀ x G', J.yld i G x G' → g x (wipe σ vs) G' fun σ2 G2 => wipe σ2 vs = wipe σ vs ∧ tk σ2 G2 fun y G4 => SNext X G4 D y Nx)
section
variable {X : Cx}
theorem sc_core {pins : List (Addr × Obj)} {t0 : Shared} {σ : L2.St} {G : Hp} {Q : VK} {kx tg iter : Expr} {scope : Scope} {own : List (Str × Nat)} {j : Nat} {p0 p1 p2 : Pos} {wi : TI} {g : TG} {tk : TE} {use : Option (Value → Sem Unit)} {Qf : Value → Shared → Prop}
    (hu : X.A.units + 8 < cLine) (hc : X.calm = true) (hN : X.N.Nodup) (I0 : Inv X pins σ G t0) (hi : PI X tg iter wi) (ok : BlkOk X.N X.env.scope scope own)
    (hg : ∀ (t : Shared) (G : Hp) (C : Addr) (cl : List (Str × Addr)) (fp : List Addr), PG (X.blk t G scope (compEnvC scope cl C X.env) fp) tg g)
    (hk : ∀ (t : Shared) (G : Hp) (C : Addr) (cl : List (Str × Addr)) (fp : List Addr), PE (X.blk t G scope (compEnvC scope cl C X.env) fp) kx tk) (hs : ∀ x, foldedSetIterable iter X.env x = pure x)
    (h : tSc X wi g tk (own.map (·.2)) σ G Q)
    (back : ∀ D C s' m G', Inv X pins σ G' s' → Q (.ref D) G' → s'.heap.Ns C m → FpOk X pins G' C → compPost (model X.prog X.w) X.A X.xe use Qf (.ref D) C (.ok .next) s') :
    wpAny (model X.prog X.w) X.A (comprehension (.DictComp kx (.Constant (.bool true) j p2) [⟨tg, iter, [], 0⟩] scope p0) scope X.env p1 newDict false (eval iter X.env) use) Qf X.xe t0 := by
  have fr : ∀ y ∈ scope.names, y.2 = .free → ∃ c, X.env.cells.lookup y.1 = some c := fun y hy e => (ok.free y hy e).elim (fun k => I0.ok.has _ (.inl k)) (fun k => I0.ok.has _ (.inr k))
  refine wpAny_comprehension_free (use := use) rfl hs (closure_ok fr) ok.kind (fun y hy e => by rw [ok.uniq y hy, e]) (thn (hi.run pins t0 σ G _ I0 h) fun xv t1 hx => thn hx fun itv t2 got => ?_)
  obtain ⟨it, fp, tn, J, G2, rfl, I2, T, st2, f2, q⟩ := got
  refine wpAny_newObj_type (newEnv_comp ?_)
  generalize hD : t2.heap.objs.size = D
  have hDn : G2 D = none := I2.hok.fresh (Nat.le_of_eq hD)
  obtain ⟨W, ⟨m0, w0⟩, turn⟩ := q D hDn
  generalize ht3 : ({ t2 with heap := t2.heap.push { cls := .type "dict", data := .dict #[] } } : Shared) = t3
  have e3 : t3.heap = t2.heap.push { cls := .type "dict", data := .dict #[] } := by rw [← ht3]
  have I3 : Inv X pins σ (upd G2 D (SD X.prog X.w D [])) t3 := by
    rw [← ht3]
    refine I2.laid (t' := t2.toks) (fun b o e => Heap.get?_push_of_some _ e) (Nat.le_of_eq hD) ?_
    rw [← hD]
    exact sd_empty t2.heap I2.big
  have f3 : ∀ b ∈ fp, FpOk X pins (upd G2 D (SD X.prog X.w D [])) b ∧ b < t3.heap.objs.size := fun b hb => by
    obtain ⟨o, e, _⟩ := T.obj _ _ st2 b hb
    have hlt := Heap.lt_size e
    refine ⟨⟨?_, (f2 b hb).2⟩, by rw [e3, Heap.size_push]; exact Nat.lt_succ_of_lt hlt⟩
    rw [upd_ne (by rw [← hD]; exact Nat.ne_of_lt hlt)]
    exact (f2 b hb).1
  have st3 : tn 0 t3.heap := T.keep _ _ _ st2 fun b _ o e => by rw [e3]; exact Heap.get?_push_of_some _ e
  have I4 := block_start I3 ok hN f3
  have pg := hg t3 (upd G2 D (SD X.prog X.w D [])) t3.heap.objs.size (cellsFrom (t3.heap.objs.size + 1) scope.names (cloFrom X.env.cells scope.names [])) fp
  have pk := hk t3 (upd G2 D (SD X.prog X.w D [])) t3.heap.objs.size (cellsFrom (t3.heap.objs.size + 1) scope.names (cloFrom X.env.cells scope.names [])) fp
  show codeAny _ _ (.compStart (.DictComp kx (.Constant (.bool true) j p2) [⟨tg, iter, [], 0⟩] scope p0) 0 (.ref it) (.ref D) (compEnvC scope (cellsFrom (t3.heap.objs.size + 1) scope.names (cloFrom X.env.cells scope.names [])) t3.heap.objs.size X.env)) (compPost (model X.prog X.w) X.A X.xe use Qf (.ref D) t3.heap.objs.size) { t3 with heap := pushCells (t3.heap.push { cls := .type "dict", data := .dict #[] }) scope.names }
  have nfp : ∀ b ∈ fp, (upd G2 D (SD X.prog X.w D [])) b = none := fun b hb => (f3 b hb).1.1
  generalize hce : compEnvC scope (cellsFrom (t3.heap.objs.size + 1) scope.names (cloFrom X.env.cells scope.names [])) t3.heap.objs.size X.env = ce at I4 pg pk ⊢
  have cL : ce.locals = t3.heap.objs.size := by subst hce; rfl
  generalize hG3 : upd G2 D (SD X.prog X.w D []) = G3 at I3 I4 pg pk w0 nfp f3
  generalize ht4 : ({ t3 with heap := pushCells (t3.heap.push { cls := .type "dict", data := .dict #[] }) scope.names } : Shared) = t4 at I4 ⊢
  have st4 : tn 0 t4.heap := T.keep _ _ _ st3 fun b _ o e => by rw [← ht4]; exact pushCells_keeps _ _ _ _ (Heap.get?_push_of_some _ e)
  have stat : ∀ {σ' : L2.St} {G' : Hp} {s' : Shared}, Inv (X.blk t3 G3 scope ce fp) [] σ' G' s' → (∀ b ∈ fp, G' b = none) → ∀ b ∈ fp, FpOk (X.blk t3 G3 scope ce fp) [] G' b := fun {σ' G' s'} I' hn b hb =>
    ⟨hn b hb, (I'.ok.exf b hb).1, I'.ok.exfs b hb, .inl hb, fun x c e => (I'.ok.exf b hb).2 x c e, fun p hp => absurd (show p ∈ ([] : List (Addr × Obj)) ++ [] from hp) (by simp)⟩
  have loop : codeAny (model X.prog X.w) X.A (.compLoop (.DictComp kx (.Constant (.bool true) j p2) [⟨tg, iter, [], 0⟩] scope p0) 0 (.ref it) (.ref D) ce) (compPost (model X.prog X.w) X.A X.xe use Qf (.ref D) t3.heap.objs.size) t4 := by
    refine compLoop_anyD (fun n s' => ∃ i G', Inv (X.blk t3 G3 scope ce fp) [] (wipe σ (own.map (·.2))) G' s' ∧ tn i s'.heap ∧ (∀ b ∈ fp, G' b = none) ∧ W i n G') ?_ m0 ⟨0, G3, I4, st4, nfp, w0⟩
    rintro n t5 ⟨i, G5, I5, st5, n5, w5⟩
    rcases turn i n G5 w5 with ⟨stop, qq⟩ | ⟨go, Nx, hNx, step⟩
    · have td := T.done (X.blk t3 G3 scope ce fp) rfl rfl rfl hc i [] t5 _ G5 (fun _ _ => False) I5 (stat I5 n5) st5 stop
      refine thnF td fun r t6 ⟨hr, I6⟩ => ?_
      subst hr
      have I7 : Inv X pins σ G5 t6 := I3.call' (ch := fp) I6.os I6.base I6.hok I6.bare fun b hb => ⟨(f3 b hb).1.2.2.2.1, (f3 b hb).1.2.1, (f3 b hb).1.2.2.2.2.1, (f3 b hb).1.2.2.2.2.2⟩
      have nC : G5 t3.heap.objs.size = none := by
        have z : G5 ce.locals = none := I6.free
        rw [cL] at z
        exact z
      obtain ⟨m, hn, _⟩ := I6.loc
      have hn : t6.heap.Ns ce.locals m := hn
      rw [cL] at hn
      exact back D t3.heap.objs.size t6 m G5 I7 qq hn (I3.fpOk (Nat.le_refl _) nC)
    · have ti := T.item (X.blk t3 G3 scope ce fp) rfl rfl rfl hc i [] t5 _ G5 (fun _ _ => False) I5 (stat I5 n5) st5 go
      refine thnF ti fun r t6 ⟨u, hr, h6⟩ => ?_
      subst hr
      refine thnF h6 fun _ t7 ⟨x, G7, I7, r7, y7, st7, n7⟩ => ?_
      have I7' := I7.pinned (stat I7 n7) (T.obj _ _ st7)
      refine thnF (pg.run _ t7 _ G7 x u _ I7' r7 (step x G7 y7)) fun _ t8 ⟨σ8, G8, I8, hw8, q8⟩ => ?_
      refine wpAny_pure ?_
      simp only [if_true]
      refine thnF (pk.run _ t8 σ8 G8 _ I8 q8) fun z t9 ⟨yk, G9, I9, r9, ks, b, t, ek, hD9, hk9, hd9, hn9, hl9, nx⟩ => ?_
      subst ek
      cases (show z = Value.ref b from r9)
      refine Constant_bool ?_
      refine sd_dictSet (X := X.blk t3 G3 scope ce fp) hu I9 hD9 hk9 hd9 hn9 hl9 fun s' I' => ?_
      obtain ⟨m', hm, w'⟩ := hNx _ nx
      have pin' : ∀ b ∈ fp, ∀ o, t7.heap.get? b = some o → s'.heap.get? b = some o ∧ _ = none := fun b hb o e =>
        let z := I'.pin (b, o) (List.mem_append_right _ (List.mem_append_right _ (mem_pinsAt hb e)))
        ⟨z.1, z.2.1⟩
      have hl : (wipe σ (own.map (·.2))).length = σ8.length := by rw [← hw8, wipe_length]
      refine ⟨m', hm, i + 1, _, (I'.unpinned (pins := [])).weak hl (fun j v e => ?_), T.keep _ _ _ st7 fun b hb o e => (pin' b hb o e).1, fun b hb => ?_, w'⟩
      · rw [← hw8] at e
        exact (wipe_some e).1
      · obtain ⟨o, e, _⟩ := T.obj _ _ st7 b hb
        exact (pin' b hb o e).2
  exact codeAny_compStart_dict loop (T.self X.A 0 _ _ _ st4 loop)
theorem pe_sc {kx tg iter : Expr} {scope : Scope} {own : List (Str × Nat)} {j : Nat} {p0 p2 : Pos} {wi : TI} {g : TG} {tk : TE} (hu : X.A.units + 8 < cLine) (hc : X.calm = true) (hN : X.N.Nodup) (hi : PI X tg iter wi) (ok : BlkOk X.N X.env.scope scope own)
    (hg : ∀ (t : Shared) (G : Hp) (C : Addr) (cl : List (Str × Addr)) (fp : List Addr), PG (X.blk t G scope (compEnvC scope cl C X.env) fp) tg g)
    (hk : ∀ (t : Shared) (G : Hp) (C : Addr) (cl : List (Str × Addr)) (fp : List Addr), PE (X.blk t G scope (compEnvC scope cl C X.env) fp) kx tk) (hs : ∀ x, foldedSetIterable iter X.env x = pure x := by intro _; rfl) :
    PE X (.DictComp kx (.Constant (.bool true) j p2) [⟨tg, iter, [], 0⟩] scope p0) (tSc X wi g tk (own.map (·.2))) := ⟨fun pins t0 σ G Q I0 h => by
  rw [arm_eval_DictComp]
  refine sc_core hu hc hN I0 hi ok hg hk hs h fun D C s' m G' I' q hn f => ⟨m, hn, fun h'' sb => ?_⟩
  obtain ⟨f0, f1, f2, f3, f4, f5⟩ := f
  exact ⟨.ref D, G', I'.turned (t' := s'.toks) (fun b o hb e => (sb.2 b hb).trans e) f0 f1 f3 f4 f5, rfl, q⟩⟩
/-- over a list that stays -/
theorem sc_list {K : PySem.W.Frag} {a : Addr} {xs : List V} {g : TG} {tk : TE} {vs : List Nat} {σ : L2.St} {G1 : Hp} {D : Addr} {Qd : Hp → Prop} (Pv : Nat → Hp → Prop) (h0 : Pv 0 (upd G1 D (SD X.prog X.w D []))) (hl : ∀ i G, i ≤ xs.length → Pv i G → SqL K G a xs)
    (hs : ∀ i x G, xs[i]? = some x → Pv i G → g x (wipe σ vs) G fun σ2 G2 => wipe σ2 vs = wipe σ vs ∧ tk σ2 G2 fun y G4 => SNext X G4 D y (Pv (i + 1))) (hd : ∀ G, Pv xs.length G → Qd G) :
    ∃ W : Nat → Nat → Hp → Prop, (∃ m, W 0 m (upd G1 D (SD X.prog X.w D []))) ∧ ∀ i m G, W i m G →
      ((Itl K a).stop i G ∧ Qd G) ∨ ((Itl K a).go i G ∧ ∃ Nx : Hp → Prop, (∀ G', Nx G' → ∃ m', m' < m ∧ W (i + 1) m' G') ∧ ∀ x G', (Itl K a).yld i G x G' → g x (wipe σ vs) G' fun σ2 G2 => wipe σ2 vs = wipe σ vs ∧ tk σ2 G2 fun y G4 => SNext X G4 D y Nx) := by
  refine ⟨fun i m G => m = xs.length - i ∧ i ≤ xs.length ∧ Pv i G, ⟨xs.length, by simp, Nat.zero_le _, h0⟩, fun i m G w => ?_⟩
  obtain ⟨rfl, hi, p⟩ := w
  have q := hl i G hi p
  by_cases hlt : i < xs.length
  · refine .inr ⟨⟨xs, xs[i], q, by simp [hlt]⟩, Pv (i + 1), fun G' p' => ⟨xs.length - (i + 1), by omega, rfl, hlt, p'⟩, fun x G' y => ?_⟩
    obtain ⟨rfl, y⟩ := y
    exact hs i x _ (y xs q) p
  · obtain rfl : i = xs.length := by omega
    exact .inl ⟨⟨xs, q, Nat.le_refl _⟩, hd G p⟩
end
end AA

set_option Elab.async false
set_option linter.all false
set_option maxRecDepth 100000
set_option maxHeartbeats 4000000
/-! The program's checks: is_integer, is_list, is_integers. -/
namespace AA
open PySem PySem.Spec PyProof.Rows L2 Evl
/-! ### the heap without tables of code objects: they alone grow -/
def nt (H : Hp) : Hp := fun x => match H x with
  | some (.tbl _) => none
  | o => o
theorem nt_some {H : Hp} {x : Addr} {o : HO} (h : nt H x = some o) : H x = some o ∧ ∀ ps, o ≠ .tbl ps := by
  unfold nt at h
  split at h
  · cases h
  · rename_i hn
    exact ⟨h, fun ps e => hn ps (by rw [h, e])⟩
theorem nt_of {H : Hp} {x : Addr} {o : HO} (h : H x = some o) (n : ∀ ps, o ≠ .tbl ps) : nt H x = some o := by
  unfold nt
  split
  · rename_i ps hp
    rw [h] at hp
    exact absurd (Option.some.inj hp) (n ps)
  · exact h
theorem nt_le {H : Hp} : Ex (nt H) H := fun x o h => (nt_some h).1
theorem nt_mono {H H' : Hp} (e : Ex H H') : Ex (nt H) (nt H') := fun x o h => nt_of (e _ _ (nt_some h).1) (nt_some h).2
theorem nt_idem {H : Hp} : Ex (nt H) (nt (nt H)) := fun x o h => nt_of h (nt_some h).2
theorem sql_nt {K : PySem.W.Frag} {H : Hp} {a : Addr} {xs : List V} (h : SqL K H a xs) : SqL K (nt H) a xs := by
  rcases h with h | h
  · refine .inl ?_
    rcases h with h | ⟨u, h⟩
    · exact .inl (nt_of h fun ps z => nomatch z)
    · exact .inr ⟨u, nt_of h fun ps z => nomatch z⟩
  · exact .inr h
theorem sqt_nt {K : PySem.W.Frag} {H : Hp} {a : Addr} {xs : List V} (h : SqT K H a xs) : SqT K (nt H) a xs := by
  rcases h with h | h
  · refine .inl ?_
    rcases h with h | ⟨u, h⟩
    · exact .inl (nt_of h fun ps z => nomatch z)
    · exact .inr ⟨u, nt_of h fun ps z => nomatch z⟩
  · exact .inr h
mutual
theorem dp_nt {K : PySem.W.Frag} {H : Hp} : ∀ (d : PyData) (v : V), Dp K H v d → Dp K (nt H) v d
  | .none, _, h => by
    cases h
    exact .non
  | .bool b, _, h => by
    cases h
    exact .bl _
  | .int i, _, h => by
    cases h
    exact .int _
  | .str x, _, h => by
    cases h
    exact .str _
  | .list ds, _, h => by
    cases h with
    | lst h1 h2 => exact .lst (sql_nt h1) (dpa_nt ds _ h2)
  | .tuple ds, _, h => by
    cases h with
    | tup h1 h2 => exact .tup (sqt_nt h1) (dpa_nt ds _ h2)
  | .dict _, _, h => by cases h
theorem dpa_nt {K : PySem.W.Frag} {H : Hp} : ∀ (ds : List PyData) (vs : List V), DpAll K H vs ds → DpAll K (nt H) vs ds
  | [], _, h => by
    cases h
    exact .nil
  | d :: ds, _, h => by
    cases h with
    | cons h1 h2 => exact .cons (dp_nt d _ h1) (dpa_nt ds _ h2)
end
/-- the name of the type of data -/
def tnD : PyData → String
  | .none => "NoneType"
  | .bool _ => "bool"
  | .int _ => "int"
  | .str _ => "str"
  | .list _ => "list"
  | .tuple _ => "tuple"
  | .dict _ => "dict"
def isIntD : PyData → Bool
  | .int _ => true
  | _ => false
def isListD : PyData → Bool
  | .list _ => true
  | .tuple _ => true
  | _ => false
def isIntsD (m : Int) : PyData → Bool
  | .list xs => decide ((xs.length : Int) = m) && xs.all isIntD
  | .tuple xs => decide ((xs.length : Int) = m) && xs.all isIntD
  | _ => false
theorem ty_dp {K : PySem.W.Frag} {H : Hp} {v : V} {d : PyData} (h : Dp K H v d) : TyF K H v (.type (tnD d)) := by
  cases h with
  | non => exact .inl (.base .non)
  | bl b => exact .inl (.base (.bl b))
  | int i => exact .inl (.base (.int i))
  | str x => exact .inl (.base (.str x))
  | lst h1 _ => exact .inl (ty_l h1)
  | tup h1 _ => exact .inl (ty_t h1)
def isBoolD : PyData → Bool
  | .bool _ => true
  | _ => false
theorem kd_int {K : PySem.W.Frag} (d : PyData) : PySem.W.kitOne K (.type (tnD d)) (.type "int") = some (isIntD d || isBoolD d) := by
  cases d with
  | none => exact kit_ty (show kitB "NoneType" "int" = some false by decide +kernel)
  | bool => exact kit_ty (show kitB "bool" "int" = some true by decide +kernel)
  | int => exact kit_ty (show kitB "int" "int" = some true by decide +kernel)
  | str => exact kit_ty (show kitB "str" "int" = some false by decide +kernel)
  | list => exact kit_ty (show kitB "list" "int" = some false by decide +kernel)
  | tuple => exact kit_ty (show kitB "tuple" "int" = some false by decide +kernel)
  | dict => exact kit_ty (show kitB "dict" "int" = some false by decide +kernel)
theorem kd_bool {K : PySem.W.Frag} (d : PyData) : PySem.W.kitOne K (.type (tnD d)) (.type "bool") = some (isBoolD d) := by
  cases d with
  | none => exact kit_ty (show kitB "NoneType" "bool" = some false by decide +kernel)
  | bool => exact kit_ty (show kitB "bool" "bool" = some true by decide +kernel)
  | int => exact kit_ty (show kitB "int" "bool" = some false by decide +kernel)
  | str => exact kit_ty (show kitB "str" "bool" = some false by decide +kernel)
  | list => exact kit_ty (show kitB "list" "bool" = some false by decide +kernel)
  | tuple => exact kit_ty (show kitB "tuple" "bool" = some false by decide +kernel)
  | dict => exact kit_ty (show kitB "dict" "bool" = some false by decide +kernel)
theorem kd_seq {K : PySem.W.Frag} (d : PyData) : PySem.W.kitAny K (.type (tnD d)) [.type "list", .type "tuple"] = some (isListD d) := by
  cases d with
  | list => exact seq_yes_l
  | tuple => exact seq_yes_t
  | none => exact kit_no2 (T := "NoneType") (by decide +kernel) (by decide +kernel)
  | bool => exact kit_no2 (T := "bool") (by decide +kernel) (by decide +kernel)
  | int => exact kit_no2 (T := "int") (by decide +kernel) (by decide +kernel)
  | str => exact kit_no2 (T := "str") (by decide +kernel) (by decide +kernel)
  | dict => exact kit_no2 (T := "dict") (by decide +kernel) (by decide +kernel)
section
variable {P : Program} {w : World} {K : PySem.W.Frag} {mg : Str → Option Value} {base : Heap}
def spIsInteger (K : PySem.W.Frag) : Sp := fun vs H Q _ => ∃ (v : V) (d : PyData), vs = [v] ∧ Dp K H v d ∧ Q (.bl (isIntD d)) H
theorem scIsInteger : FnScope ["thing"] ["thing"] (defScope sIsInteger) := ⟨rfl, rfl, rfl, by decide +kernel, rfl, by decide +kernel, by decide +kernel⟩
theorem ok_isInteger {f : Addr} {fd : FuncData} (F : L2.Fun K "is_integer" "is_integer" sIsInteger f fd) (T : Bn mg) : FnOk P w K mg base CX0 1 f fd ["thing"] (spIsInteger K) := by
  refine F.ok scIsInteger (fun vs H Q E h => ?_) (fun cdv A outer s H vs Q E hr h => ?_)
  · obtain ⟨v, d, rfl, _⟩ := h
    rfl
  · obtain ⟨v, d, rfl, hd, k⟩ := h
    refine ⟨_, pss_one (ps_ret (pe_and (pe_callB call_is1 (by rfl) T.isinstance boot_isinstance (pa_cons (pv 0) (pa_cons (pe_bltn (v := .ty "int") (by rfl) T.int boot_int rfl) pa_nil)))
      (pe_one (pe_not (pe_callB call_is1 (by rfl) T.isinstance boot_isinstance (pa_cons (pv 0) (pa_cons (pe_bltn (v := .ty "bool") (by rfl) T.bool boot_bool rfl) pa_nil))))))), ?_⟩
    refine ⟨_, rfl, v, _, _, .type "int", _, rfl, .ty _, ty_dp hd, kd_int d, _, rfl, ?_⟩
    by_cases hi : isIntD d = true
    · rw [hi] at k ⊢
      refine iteT ?_
      refine ⟨_, rfl, v, _, _, .type "bool", _, rfl, .ty _, ty_dp hd, kd_bool d, _, rfl, ?_⟩
      cases d <;> first | exact k | cases hi
    · have hf : isIntD d = false := by simpa using hi
      rw [hf] at k ⊢
      cases d with
      | bool b =>
        refine iteT ?_
        exact ⟨_, rfl, v, _, _, .type "bool", _, rfl, .ty _, ty_dp hd, kd_bool _, _, rfl, k⟩
      | int i => cases hf
      | _ => exact iteF k
/-- what a thing is asked by is_list, in this heap and later ones -/
def Lk (K : PySem.W.Frag) (H : Hp) (v : V) (b : Bool) : Prop := ∃ t : Value, (∀ H', Ex (nt H) H' → TyF K H' v t) ∧ PySem.W.kitAny K t [.type "list", .type "tuple"] = some b
theorem lk_dp {H : Hp} {v : V} {d : PyData} (h : Dp K H v d) : Lk K H v (isListD d) := ⟨_, fun H' e => ty_dp (dp_ex e d v (dp_nt d v h)), kd_seq d⟩
theorem Lk.ex {H H' : Hp} {v : V} {b : Bool} (h : Lk K H v b) (e : Ex H H') : Lk K H' v b := by
  obtain ⟨t, h1, h2⟩ := h
  exact ⟨t, fun H2 e2 => h1 H2 ((nt_mono e).trans e2), h2⟩
theorem Lk.nt {H : Hp} {v : V} {b : Bool} (h : Lk K H v b) : Lk K (AA.nt H) v b := by
  obtain ⟨t, h1, h2⟩ := h
  exact ⟨t, fun H2 e2 => h1 H2 (nt_idem.trans e2), h2⟩
def spIsList (K : PySem.W.Frag) : Sp := fun vs H Q _ => ∃ (v : V) (b : Bool), vs = [v] ∧ Lk K H v b ∧ ∀ H', Ex H H' → Q (.bl b) H'
theorem scIsList : FnScope ["thing"] ["thing"] (defScope sIsList) := ⟨rfl, rfl, rfl, by decide +kernel, rfl, by decide +kernel, by decide +kernel⟩
theorem ok_isList {f : Addr} {fd : FuncData} (F : L2.Fun K "is_list" "is_list" sIsList f fd) (T : Bn mg) : FnOk P w K mg base CX0 1 f fd ["thing"] (spIsList K) := by
  refine F.ok scIsList (fun vs H Q E h => ?_) (fun cdv A outer s H vs Q E hr h => ?_)
  · obtain ⟨v, b, rfl, _⟩ := h
    rfl
  · obtain ⟨v, b, rfl, ⟨t, hty, hk⟩, k⟩ := h
    refine ⟨_, pss_one (ps_ret (pe_callB call_isN (by rfl) T.isinstance boot_isinstance (pa_cons (pv 0) (pa_cons (pe_tup (pa_cons (pe_bltn (v := .ty "list") (by rfl) T.list boot_list rfl) (pa_cons (pe_bltn (v := .ty "tuple") (by rfl) T.tuple boot_tuple rfl) pa_nil))) pa_nil)))), ?_⟩
    refine ⟨_, rfl, by show 2 ≤ sizeLine; decide, fun p hp => ?_⟩
    have e1 : Ex H (upd H p (.tup [.ty "list", .ty "tuple"])) := Ex.new hp
    exact ⟨v, p, _, t, [.type "list", .type "tuple"], b, rfl, upd_same, .cons (.ty _) (.cons (.ty _) .nil), hty _ (nt_le.trans e1), hk, k _ e1⟩
/-- a list or a tuple of data -/
theorem dp_seq {H : Hp} {v : V} {d : PyData} (h : Dp K H v d) (l : isListD d = true) : ∃ (a : Addr) (xs : List V) (ds : List PyData), v = .ref a ∧ DpAll K H xs ds ∧ ((d = .list ds ∧ SqL K H a xs) ∨ (d = .tuple ds ∧ SqT K H a xs)) := by
  cases h with
  | lst h1 h2 => exact ⟨_, _, _, rfl, h2, .inl ⟨rfl, h1⟩⟩
  | tup h1 h2 => exact ⟨_, _, _, rfl, h2, .inr ⟨rfl, h1⟩⟩
  | _ => cases l
def itemsD : PyData → List PyData
  | .list xs => xs
  | .tuple xs => xs
  | _ => []
end
end AA

set_option Elab.async false
set_option linter.all false
set_option maxRecDepth 100000
set_option maxHeartbeats 4000000
/-! read_step. -/
namespace AA
open PySem PySem.Spec PyProof.Rows L2 Evl
/-- the step that a thing is, between n places -/
def rdStep (n : Int) (d : PyData) : Option St5 :=
  match itemsD d with
  | [.int a, .int b, c, .int e, .int f] =>
    match itemsD c with
    | [.int p, .int q] => if 0 ≤ a ∧ a < n ∧ 0 ≤ b ∧ b < n ∧ 1 ≤ e then some ⟨a, b, p, q, e, f⟩ else none
    | _ => none
  | _ => none
theorem int_of {d : PyData} (h : isIntD d = true) : ∃ i, d = .int i := by
  cases d with
  | int i => exact ⟨i, rfl⟩
  | _ => cases h
theorem ints_of {m : Int} {d : PyData} (h : isIntsD m d = true) : ((itemsD d).length : Int) = m ∧ (itemsD d).all isIntD = true ∧ isListD d = true := by
  cases d with
  | list xs =>
    have h' : (decide ((xs.length : Int) = m) && xs.all isIntD) = true := h
    rw [Bool.and_eq_true] at h'
    exact ⟨of_decide_eq_true h'.1, h'.2, rfl⟩
  | tuple xs =>
    have h' : (decide ((xs.length : Int) = m) && xs.all isIntD) = true := h
    rw [Bool.and_eq_true] at h'
    exact ⟨of_decide_eq_true h'.1, h'.2, rfl⟩
  | _ => cases h
theorem rd_len {n : Int} {d : PyData} {s : St5} (h : rdStep n d = some s) : (itemsD d).length = 5 := by
  unfold rdStep at h
  split at h
  · rename_i e
    rw [e]
    rfl
  · cases h
theorem rd_list {n : Int} {d : PyData} {s : St5} (h : rdStep n d = some s) : isListD d = true := by
  have := rd_len h
  cases d with
  | list => rfl
  | tuple => rfl
  | _ => cases this
theorem rd_ints {n : Int} {d d0 d1 d2 d3 d4 : PyData} {s : St5} (hd : itemsD d = [d0, d1, d2, d3, d4]) (h : rdStep n d = some s) : isIntsD 4 (.list [d0, d1, d3, d4]) = true ∧ isIntsD 2 d2 = true := by
  unfold rdStep at h
  rw [hd] at h
  split at h
  · rename_i a b c e f q
    cases q
    split at h
    · rename_i p q e2
      refine ⟨rfl, ?_⟩
      cases d2 with
      | list xs =>
        obtain rfl : xs = [.int p, .int q] := e2
        rfl
      | tuple xs =>
        obtain rfl : xs = [.int p, .int q] := e2
        rfl
      | _ => cases e2
    · cases h
  · cases h
theorem rd_at {n a b e f p q : Int} {d c : PyData} (hd : itemsD d = [.int a, .int b, c, .int e, .int f]) (hc : itemsD c = [.int p, .int q]) :
    rdStep n d = if 0 ≤ a ∧ a < n ∧ 0 ≤ b ∧ b < n ∧ 1 ≤ e then some ⟨a, b, p, q, e, f⟩ else none := by
  unfold rdStep
  rw [hd]
  show (match itemsD c with | [.int p, .int q] => if 0 ≤ a ∧ a < n ∧ 0 ≤ b ∧ b < n ∧ 1 ≤ e then some (⟨a, b, p, q, e, f⟩ : St5) else none | _ => none) = _
  rw [hc]
theorem four_of {d0 d1 d3 d4 : PyData} (h : isIntsD 4 (.list [d0, d1, d3, d4]) = true) : ∃ a b e f, d0 = .int a ∧ d1 = .int b ∧ d3 = .int e ∧ d4 = .int f := by
  have := (ints_of h).2.1
  have h2 : (isIntD d0 && (isIntD d1 && (isIntD d3 && (isIntD d4 && true)))) = true := this
  simp only [Bool.and_eq_true] at h2
  obtain ⟨a, rfl⟩ := int_of h2.1
  obtain ⟨b, rfl⟩ := int_of h2.2.1
  obtain ⟨e, rfl⟩ := int_of h2.2.2.1
  obtain ⟨f, rfl⟩ := int_of h2.2.2.2.1
  exact ⟨a, b, e, f, rfl, rfl, rfl, rfl⟩
theorem two_of {d : PyData} (h : isIntsD 2 d = true) : ∃ p q, itemsD d = [.int p, .int q] := by
  obtain ⟨h1, h2, _⟩ := ints_of h
  generalize itemsD d = l at h1 h2
  match l, h1, h2 with
  | [x, y], _, h2 =>
    have h3 : (isIntD x && (isIntD y && true)) = true := h2
    simp only [Bool.and_eq_true] at h3
    obtain ⟨p, rfl⟩ := int_of h3.1
    obtain ⟨q, rfl⟩ := int_of h3.2.1
    exact ⟨p, q, rfl⟩
  | [], h1, _ => cases h1
  | [x], h1, _ => cases h1
  | x :: y :: z :: r, h1, _ =>
    simp only [List.length_cons] at h1
    omega
/-- what read_step answers -/
def RdR (K : PySem.W.Frag) (H : Hp) (r : V) : Option St5 → Prop
  | none => r = .non
  | some s => Dp K H r (stD s)
theorem pg_or {X : Cx} {tg : Expr} {g1 g2 : TG} (h1 : PG X tg g1) (h2 : PG X tg g2) : PG X tg (fun v σ H Q => g1 v σ H Q ∨ g2 v σ H Q) :=
  ⟨fun pins s σ H v u Q I r hw => hw.elim (h1.run pins s σ H v u Q I r) (h2.run pins s σ H v u Q I r)⟩
theorem gun_or {K : PySem.W.Frag} {n : Nat} {t : TGs} {v : V} {σ : L2.St} {H : Hp} {Q : L2.St → Hp → Prop} {a : Addr} {xs : List V} (e : v = .ref a) (h : SqL K H a xs ∨ SqT K H a xs) (hn : xs.length = n) (ht : t xs σ H Q) : gUnl K n t v σ H Q ∨ gTup K n t v σ H Q :=
  h.imp (fun h => ⟨a, xs, e, h, hn, ht⟩) (fun h => ⟨a, xs, e, h, hn, ht⟩)
theorem five_of {α : Type} {xs : List α} (h : xs.length = 5) : ∃ a b c d e, xs = [a, b, c, d, e] := by
  match xs, h with
  | [a, b, c, d, e], _ => exact ⟨a, b, c, d, e, rfl⟩
theorem dpa_five {K : PySem.W.Frag} {H : Hp} {x0 x1 x2 x3 x4 : V} {ds : List PyData} (h : DpAll K H [x0, x1, x2, x3, x4] ds) :
    ∃ d0 d1 d2 d3 d4, ds = [d0, d1, d2, d3, d4] ∧ Dp K H x0 d0 ∧ Dp K H x1 d1 ∧ Dp K H x2 d2 ∧ Dp K H x3 d3 ∧ Dp K H x4 d4 := by
  cases h with
  | cons h0 h =>
    cases h with
    | cons h1 h =>
      cases h with
      | cons h2 h =>
        cases h with
        | cons h3 h =>
          cases h with
          | cons h4 h =>
            cases h
            exact ⟨_, _, _, _, _, rfl, h0, h1, h2, h3, h4⟩
section
variable {P : Program} {w : World} {K : PySem.W.Frag} {mg : Str → Option Value} {base : Heap}
/-- a list or a tuple stands there -/
def SqA (K : PySem.W.Frag) (H : Hp) (a : Addr) (xs : List V) : Prop := SqL K H a xs ∨ SqT K H a xs
theorem SqA.ex {H H' : Hp} {a : Addr} {xs : List V} (h : SqA K H a xs) (e : Ex H H') : SqA K H' a xs := h.imp (fun h => ex_l e h) (fun h => ex_t e h)
theorem SqA.nt {H : Hp} {a : Addr} {xs : List V} (h : SqA K H a xs) : SqA K (AA.nt H) a xs := h.imp sql_nt sqt_nt
theorem lk_sq {H : Hp} {a : Addr} {xs : List V} (h : SqA K H a xs) : Lk K H (.ref a) true := h.elim (fun h => ⟨_, fun H' e => .inl (ty_l (ex_l e (sql_nt h))), seq_yes_l⟩) (fun h => ⟨_, fun H' e => .inl (ty_t (ex_t e (sqt_nt h))), seq_yes_t⟩)
/-- a thing that is no integer, in this heap and later ones -/
def NotI (K : PySem.W.Frag) (H : Hp) (v : V) : Prop := ∃ (t : Value) (i b : Bool), (∀ H', Ex (nt H) H' → TyF K H' v t) ∧ PySem.W.kitOne K t (.type "int") = some i ∧ PySem.W.kitOne K t (.type "bool") = some b ∧ (i && !b) = false
theorem NotI.ex {H H' : Hp} {v : V} (h : NotI K H v) (e : Ex H H') : NotI K H' v := by
  obtain ⟨t, i, b, h1, h2⟩ := h
  exact ⟨t, i, b, fun H2 e2 => h1 H2 ((nt_mono e).trans e2), h2⟩
theorem NotI.nt {H : Hp} {v : V} (h : NotI K H v) : NotI K (AA.nt H) v := by
  obtain ⟨t, i, b, h1, h2⟩ := h
  exact ⟨t, i, b, fun H2 e2 => h1 H2 (nt_idem.trans e2), h2⟩
theorem ni_dp {H : Hp} {v : V} {d : PyData} (h : Dp K H v d) (hd : isIntD d = false) : NotI K H v := ⟨_, _, _, fun H' e => ty_dp (dp_ex e d v (dp_nt d v h)), kd_int d, kd_bool d, by cases d <;> first | rfl | cases hd⟩
theorem ni_fn {H : Hp} {f : Addr} {o : Obj} (h1 : K.lookup f = some o) (h2 : o.cls = .type "function") : NotI K H (.ref f) := ⟨.type "function", false, false, fun H' e => .inr ⟨f, o, rfl, h1, h2, rfl⟩, kit_ty (by decide +kernel), kit_ty (by decide +kernel), rfl⟩
theorem ni_dict {H : Hp} {p : Addr} (h : H p = some (.dK [])) : NotI K H (.ref p) := ⟨.type "dict", false, false, fun H' e => .inl (.base (.dK (e _ _ (nt_of h fun ps z => nomatch z)))), kit_ty (by decide +kernel), kit_ty (by decide +kernel), rfl⟩
theorem ni_sq {H : Hp} {a : Addr} {xs : List V} (h : SqA K H a xs) : NotI K H (.ref a) := h.elim (fun h => ⟨_, false, false, fun H' e => .inl (ty_l (ex_l e (sql_nt h))), kit_ty (by decide +kernel), kit_ty (by decide +kernel), rfl⟩) (fun h => ⟨_, false, false, fun H' e => .inl (ty_t (ex_t e (sqt_nt h))), kit_ty (by decide +kernel), kit_ty (by decide +kernel), rfl⟩)
theorem lk_fn {H : Hp} {f : Addr} {o : Obj} (h1 : K.lookup f = some o) (h2 : o.cls = .type "function") : Lk K H (.ref f) false := ⟨.type "function", fun H' e => .inr ⟨f, o, rfl, h1, h2, rfl⟩, kit_no2 (by decide +kernel) (by decide +kernel)⟩
theorem lk_dict {H : Hp} {p : Addr} (h : H p = some (.dK [])) : Lk K H (.ref p) false := ⟨.type "dict", fun H' e => .inl (.base (.dK (e _ _ (nt_of h fun ps z => nomatch z)))), kit_no2 (by decide +kernel) (by decide +kernel)⟩
/-- a thing that read_step tells to be none -/
def RdNo (K : PySem.W.Frag) (n : Int) (H : Hp) (v : V) : Prop :=
  Lk K H v false ∨ ∃ (a : Addr) (xs : List V), v = .ref a ∧ SqA K H a xs ∧ (xs.length ≠ 5 ∨ ∃ x0 x1 x2 x3 x4, xs = [x0, x1, x2, x3, x4] ∧
    (Lk K H x2 false ∨ ∃ (b : Addr) (ys : List V), x2 = .ref b ∧ SqA K H b ys ∧ (ys.length ≠ 2 ∨ ∃ y0 y1, ys = [y0, y1] ∧
      ((∃ (is : List Int) (z : V) (r : List V), [x0, x1, y0, y1, x3, x4] = is.map V.int ++ z :: r ∧ NotI K H z) ∨
        ∃ i0 i1 p q i3 i4 : Int, [x0, x1, y0, y1, x3, x4] = [V.int i0, V.int i1, V.int p, V.int q, V.int i3, V.int i4] ∧ ¬ (0 ≤ i0 ∧ i0 < n ∧ 0 ≤ i1 ∧ i1 < n ∧ 1 ≤ i3)))))
theorem RdNo.ex {n : Int} {H H' : Hp} {v : V} (h : RdNo K n H v) (e : Ex H H') : RdNo K n H' v := by
  rcases h with h | ⟨a, xs, h1, h2, h⟩
  · exact .inl (h.ex e)
  · refine .inr ⟨a, xs, h1, h2.ex e, h.imp id ?_⟩
    rintro ⟨x0, x1, x2, x3, x4, h3, h⟩
    refine ⟨x0, x1, x2, x3, x4, h3, h.imp (fun z => z.ex e) ?_⟩
    rintro ⟨b, ys, h4, h5, h⟩
    refine ⟨b, ys, h4, h5.ex e, h.imp id ?_⟩
    rintro ⟨y0, y1, h6, h⟩
    refine ⟨y0, y1, h6, h.imp ?_ id⟩
    rintro ⟨is, z, r, h7, h8⟩
    exact ⟨is, z, r, h7, h8.ex e⟩
theorem RdNo.nt {n : Int} {H : Hp} {v : V} (h : RdNo K n H v) : RdNo K n (AA.nt H) v := by
  rcases h with h | ⟨a, xs, h1, h2, h⟩
  · exact .inl h.nt
  · refine .inr ⟨a, xs, h1, h2.nt, h.imp id ?_⟩
    rintro ⟨x0, x1, x2, x3, x4, h3, h⟩
    refine ⟨x0, x1, x2, x3, x4, h3, h.imp (fun z => z.nt) ?_⟩
    rintro ⟨b, ys, h4, h5, h⟩
    refine ⟨b, ys, h4, h5.nt, h.imp id ?_⟩
    rintro ⟨y0, y1, h6, h⟩
    refine ⟨y0, y1, h6, h.imp ?_ id⟩
    rintro ⟨is, z, r, h7, h8⟩
    exact ⟨is, z, r, h7, h8.nt⟩
def spReadStep (K : PySem.W.Frag) : Sp := fun vs H Q _ => ∃ (n : Int) (v : V), vs = [.int n, v] ∧ ((RdNo K n H v ∧ ∀ H', Ex H H' → Q .non H') ∨ ∃ d, Dp K H v d ∧ ∀ H' r, Ex H H' → RdR K H' r (rdStep n d) → Q r H')
theorem scReadStep : FnScope ["places", "thing", "one", "other", "amounts", "ticks", "change", "number"] ["places", "thing"] (defScope sReadStep) := ⟨rfl, rfl, rfl, by decide +kernel, rfl, by decide +kernel, by decide +kernel⟩
theorem rd_six {n : Int} {d d0 d1 d2 d3 d4 : PyData} {s : St5} (hd : itemsD d = [d0, d1, d2, d3, d4]) (h : rdStep n d = some s) : isListD d2 = true ∧ ∃ e0 e1, itemsD d2 = [e0, e1] ∧ ∀ z ∈ [d0, d1, e0, e1, d3, d4], isIntD z = true := by
  obtain ⟨h4, h2⟩ := rd_ints hd h
  obtain ⟨a, b, e, f, rfl, rfl, rfl, rfl⟩ := four_of h4
  obtain ⟨p, q, hc⟩ := two_of h2
  refine ⟨(ints_of h2).2.2, _, _, hc, fun z hz => ?_⟩
  simp only [List.mem_cons, List.not_mem_nil, or_false] at hz
  rcases hz with rfl | rfl | rfl | rfl | rfl | rfl <;> rfl
theorem two_ofl {α : Type} {xs : List α} (h : xs.length = 2) : ∃ a b, xs = [a, b] := by
  match xs, h with
  | [a, b], _ => exact ⟨a, b, rfl⟩
theorem dpa_two {K : PySem.W.Frag} {H : Hp} {x0 x1 : V} {ds : List PyData} (h : DpAll K H [x0, x1] ds) : ∃ d0 d1, ds = [d0, d1] ∧ Dp K H x0 d0 ∧ Dp K H x1 d1 := by
  cases h with
  | cons h0 h =>
    cases h with
    | cons h1 h =>
      cases h
      exact ⟨_, _, rfl, h0, h1⟩
theorem ix_at {K : PySem.W.Frag} {G : Hp} {b : Addr} {ys : List V} {j : Nat} {y : V} {Q : V → Hp → Prop} (h : SqL K G b ys ∨ SqT K G b ys) (e : ys[j]? = some y) (k : Q y G) : rIx K (.ref b) (.int (j : Nat)) G Q :=
  h.elim (fun h => .inl ⟨b, ys, _, y, rfl, rfl, h, atI_nat e, k⟩) (fun h => .inr (.inl ⟨b, ys, _, y, rfl, rfl, h, atI_nat e, k⟩))
theorem ok_readStep {f : Addr} {fd : FuncData} (F : L2.Fun K "read_step" "read_step" sReadStep f fd) (T : Bn mg) (cL : C8.Cal P w K mg base 1 "is_list" (spIsList K) []) :
    FnOk P w K mg base CX0 3 f fd ["places", "thing"] (spReadStep K) := by
  refine F.ok scReadStep (fun vs H Q E h => ?_) (fun cdv A outer s H vs Q E hr h => ?_)
  · obtain ⟨n, v, rfl, _⟩ := h
    rfl
  · obtain ⟨n, v, rfl, h⟩ := h
    refine ⟨_, pss_cons (ps_if (PW.pt (pw_or (pt_not (pt_val (C8.pe_c cL hr (by decide) (by rfl) (pa_cons (pv 1) pa_nil)))) (pw_or1 (pt_cmpR op_ne (pe_callB call_len_seq (by rfl) T.len PySem.boot_len (pa_cons (pv 1) pa_nil)) pe_int (nomark _)))))
        (pss_one (ps_ret pe_non)) pss_nil)
      (pss_cons (ps_asg (pv 1) (pg_or (pg_unl (n := 5) rfl (pgs_cons (pg_name (i := 2) scReadStep.nd rfl (Or.inl rfl)) (pgs_cons (pg_name (i := 3) scReadStep.nd rfl (Or.inl rfl)) (pgs_cons (pg_name (i := 4) scReadStep.nd rfl (Or.inl rfl)) (pgs_cons (pg_name (i := 5) scReadStep.nd rfl (Or.inl rfl)) (pgs_cons (pg_name (i := 6) scReadStep.nd rfl (Or.inl rfl)) pgs_nil))))))
          (pg_tup (n := 5) rfl (pgs_cons (pg_name (i := 2) scReadStep.nd rfl (Or.inl rfl)) (pgs_cons (pg_name (i := 3) scReadStep.nd rfl (Or.inl rfl)) (pgs_cons (pg_name (i := 4) scReadStep.nd rfl (Or.inl rfl)) (pgs_cons (pg_name (i := 5) scReadStep.nd rfl (Or.inl rfl)) (pgs_cons (pg_name (i := 6) scReadStep.nd rfl (Or.inl rfl)) pgs_nil))))))))
      (pss_cons (ps_if (PW.pt (pw_or (pt_not (pt_val (C8.pe_c cL hr (by decide) (by rfl) (pa_cons (pv 4) pa_nil)))) (pw_or1 (pt_cmpR op_ne (pe_callB call_len_seq (by rfl) T.len PySem.boot_len (pa_cons (pv 4) pa_nil)) pe_int (nomark _)))))
        (pss_one (ps_ret pe_non)) pss_nil)
      (pss_cons (ps_for PassesOwn.never rfl (pi_tup (pe_tup (pa_cons (pv 2) (pa_cons (pv 3) (pa_cons (pe_ix ix_seq (pv 4) pe_int (fun _ _ => rfl)) (pa_cons (pe_ix ix_seq (pv 4) pe_int (fun _ _ => rfl)) (pa_cons (pv 5) (pa_cons (pv 6) pa_nil)))))))) (pg_name (i := 7) scReadStep.nd rfl (Or.inl rfl))
        (pss_one (ps_if (PW.pt (pw_or (pt_not (pt_val (pe_callB call_is1 (by rfl) T.isinstance boot_isinstance (pa_cons (pv 7) (pa_cons (pe_bltn (v := .ty "int") (by rfl) T.int boot_int rfl) pa_nil)))))
            (pw_or1 (pt_val (pe_callB call_is1 (by rfl) T.isinstance boot_isinstance (pa_cons (pv 7) (pa_cons (pe_bltn (v := .ty "bool") (by rfl) T.bool boot_bool rfl) pa_nil)))))))
          (pss_one (ps_ret pe_non)) pss_nil)))
      (pss_cons (ps_if (PW.pt (pw_or (pt_cmpR op_lt (pv 2) pe_int (nomark _)) (pw_or (pt_cmpR op_ge (pv 2) (pv 0) (nomark _)) (pw_or (pt_cmpR op_lt (pv 3) pe_int (nomark _)) (pw_or (pt_cmpR op_ge (pv 3) (pv 0) (nomark _)) (pw_or1 (pt_cmpR op_lt (pv 5) pe_int (nomark _))))))))
        (pss_one (ps_ret pe_non)) pss_nil)
      (pss_one (ps_ret (pe_tup (pa_cons (pv 2) (pa_cons (pv 3) (pa_cons (pe_callTy call_tuple_of (by rfl) T.tuple boot_tuple (pa_cons (pv 4) pa_nil)) (pa_cons (pv 5) (pa_cons (pv 6) pa_nil)))))))))))), ?_⟩
    rcases h with ⟨hno, k⟩ | ⟨d, hd, k⟩
    · rcases hno with hl | ⟨a, xs, rfl, hs, hno⟩
      · exact ⟨_, rfl, v, _, rfl, hl, fun H1 e1 => ⟨_, rfl, iteT (iteT (k _ e1))⟩⟩
      refine ⟨_, rfl, .ref a, _, rfl, lk_sq hs, fun H1 e1 => ⟨_, rfl, iteF ?_⟩⟩
      have hs1 := hs.ex e1
      refine ⟨_, rfl, a, xs, rfl, hs1, rfl, _, rfl, ?_⟩
      rcases hno with h5 | ⟨x0, x1, x2, x3, x4, rfl, hno⟩
      · rw [decide_eq_false (fun z => h5 (by have := V.int.inj z; omega))]
        exact iteT (k _ e1)
      rw [decide_eq_true (show V.int (([x0, x1, x2, x3, x4] : List V).length : Int) = V.int 5 from rfl)]
      refine iteF ?_
      refine ⟨_, rfl, gun_or rfl hs1 rfl ⟨x0, _, rfl, x1, _, rfl, x2, _, rfl, x3, _, rfl, x4, _, rfl, rfl, ?_⟩⟩
      rcases hno with hl2 | ⟨b, ys, rfl, hs2, hno⟩
      · exact ⟨_, rfl, x2, _, rfl, hl2.ex e1, fun G2 e2 => ⟨_, rfl, iteT (iteT (k _ (e1.trans e2)))⟩⟩
      refine ⟨_, rfl, .ref b, _, rfl, lk_sq (hs2.ex e1), fun G2 eG2 => ⟨_, rfl, iteF ?_⟩⟩
      have e2 := e1.trans eG2
      have hs2' : SqL K G2 b ys ∨ SqT K G2 b ys := hs2.ex e2
      refine ⟨_, rfl, b, ys, rfl, hs2', rfl, _, rfl, ?_⟩
      rcases hno with h2 | ⟨y0, y1, rfl, hno⟩
      · rw [decide_eq_false (fun z => h2 (by have := V.int.inj z; omega))]
        exact iteT (k _ e2)
      rw [decide_eq_true (show V.int (([y0, y1] : List V).length : Int) = V.int 2 from rfl)]
      refine iteF ?_
      refine ⟨_, rfl, _, rfl, _, rfl, ix_at (j := 0) hs2' rfl ?_⟩
      refine ⟨_, rfl, ix_at (j := 1) hs2' rfl ?_⟩
      refine ⟨_, rfl, _, rfl, by show 6 ≤ sizeLine; decide, fun L hL => ?_⟩
      have e3 := e2.trans (Ex.new (o := .tup [x0, x1, y0, y1, x3, x4]) hL)
      refine ⟨L, rfl, ⟨_, SqT.of upd_same⟩, ?_⟩
      rcases hno with ⟨is, z, r, hz, hni⟩ | ⟨i0, i1, p, q, i3, i4, hz, hno⟩
      · have hln : is.length + 1 + r.length = 6 := by
          have := congrArg List.length hz
          simp only [List.length_cons, List.length_nil, List.length_append, List.length_map] at this
          omega
        refine for_tup (K := K) (a := L) (xs := [x0, x1, y0, y1, x3, x4]) (fun i σ G => ∃ x7 : Option V, σ = [some (.int n), some (.ref a), some x0, some x1, some (.ref b), some x3, some x4, x7] ∧ G = upd G2 L (.tup [x0, x1, y0, y1, x3, x4]) ∧ i ≤ is.length)
          ⟨none, rfl, rfl, Nat.zero_le _⟩ (fun i σ G _ ⟨_, _, e, _⟩ => by rw [e]; exact SqT.of upd_same) ?_ ?_
        · rintro i y σ G hy ⟨x7, rfl, rfl, hi⟩
          by_cases hlt : i < is.length
          · rw [hz, List.getElem?_append_left (by rw [List.length_map]; exact hlt)] at hy
            obtain ⟨c, _, rfl⟩ := get_ints hy
            refine ⟨_, rfl, _, _, _, .type "int", _, rfl, .ty _, ty_dp (d := .int c) (.int c), kd_int (.int c), _, rfl, ?_⟩
            refine iteF ?_
            exact ⟨_, rfl, _, _, _, .type "bool", _, rfl, .ty _, ty_dp (d := .int c) (.int c), kd_bool (.int c), _, rfl, iteF ⟨_, rfl, rfl, hlt⟩⟩
          · have hie : i = is.length := by omega
            subst hie
            rw [hz, List.getElem?_append_right (by rw [List.length_map]; exact Nat.le_refl _), List.length_map, Nat.sub_self] at hy
            cases (Option.some.inj hy)
            obtain ⟨t, bi, bb, h1, h2, h3, h4⟩ := hni
            refine ⟨_, rfl, _, _, _, .type "int", _, rfl, .ty _, h1 _ (nt_le.trans e3), h2, _, rfl, ?_⟩
            cases bi with
            | false => exact iteT (iteT (k _ e3))
            | true =>
              refine iteF ?_
              refine ⟨_, rfl, _, _, _, .type "bool", _, rfl, .ty _, h1 _ (nt_le.trans e3), h3, _, rfl, ?_⟩
              cases bb with
              | true => exact iteT (k _ e3)
              | false => cases h4
        · rintro σ G ⟨x7, rfl, rfl, hi⟩
          have hi : 6 ≤ is.length := hi
          omega
      · simp only [List.cons.injEq, and_true] at hz
        obtain ⟨rfl, rfl, rfl, rfl, rfl, rfl⟩ := hz
        refine for_tup (K := K) (a := L) (xs := [.int i0, .int i1, .int p, .int q, .int i3, .int i4]) (fun i σ G => ∃ x7 : Option V, σ = [some (.int n), some (.ref a), some (.int i0), some (.int i1), some (.ref b), some (.int i3), some (.int i4), x7] ∧ G = upd G2 L (.tup [.int i0, .int i1, .int p, .int q, .int i3, .int i4]))
          ⟨none, rfl, rfl⟩ (fun i σ G _ ⟨_, _, e⟩ => by rw [e]; exact SqT.of upd_same) ?_ ?_
        · rintro i y σ G hy ⟨x7, rfl, rfl⟩
          obtain ⟨c, _, rfl⟩ := get_ints (ns := [i0, i1, p, q, i3, i4]) hy
          refine ⟨_, rfl, _, _, _, .type "int", _, rfl, .ty _, ty_dp (d := .int c) (.int c), kd_int (.int c), _, rfl, ?_⟩
          refine iteF ?_
          exact ⟨_, rfl, _, _, _, .type "bool", _, rfl, .ty _, ty_dp (d := .int c) (.int c), kd_bool (.int c), _, rfl, iteF ⟨_, rfl, rfl⟩⟩
        · rintro σ G ⟨x7, rfl, rfl⟩
          have no : Q .non (upd G2 L (.tup [.int i0, .int i1, .int p, .int q, .int i3, .int i4])) := k _ e3
          refine ⟨_, rfl, _, _, rfl, rfl, _, rfl, ?_⟩
          refine dec_ite (fun z => ?_) (fun z1 => ?_)
          · exact iteT no
          refine ⟨_, rfl, _, rfl, _, _, rfl, rfl, _, rfl, ?_⟩
          refine dec_ite (fun z => ?_) (fun z2 => ?_)
          · exact iteT no
          refine ⟨_, rfl, _, _, rfl, rfl, _, rfl, ?_⟩
          refine dec_ite (fun z => ?_) (fun z3 => ?_)
          · exact iteT no
          refine ⟨_, rfl, _, rfl, _, _, rfl, rfl, _, rfl, ?_⟩
          refine dec_ite (fun z => ?_) (fun z4 => ?_)
          · exact iteT no
          refine ⟨_, rfl, _, _, rfl, rfl, _, rfl, ?_⟩
          refine dec_ite (fun z => ?_) (fun z5 => ?_)
          · exact no
          exact absurd ⟨by omega, by omega, by omega, by omega, by omega⟩ hno
    have kn : rdStep n d = none → ∀ H', Ex H H' → Q .non H' := fun e H' e' => k H' .non e' (by rw [e]; rfl)
    refine ⟨_, rfl, v, _, rfl, lk_dp hd, fun H1 e1 => ?_⟩
    refine ⟨_, rfl, ?_⟩
    by_cases hl : isListD d = true
    · rw [hl]
      refine iteF ?_
      obtain ⟨a, xs, ds, rfl, hX, hs⟩ := dp_seq hd hl
      have hlen := dpa_len hX
      have hit : itemsD d = ds := by
        rcases hs with ⟨rfl, _⟩ | ⟨rfl, _⟩ <;> rfl
      refine ⟨_, rfl, a, xs, rfl, hs.imp (fun z => ex_l e1 z.2) (fun z => ex_t e1 z.2), rfl, _, rfl, ?_⟩
      by_cases h5 : xs.length = 5
      · have h5' : V.int (xs.length : Int) = V.int 5 := by rw [h5]; rfl
        rw [decide_eq_true h5']
        refine iteF ?_
        obtain ⟨x0, x1, x2, x3, x4, rfl⟩ := five_of h5
        obtain ⟨d0, d1, d2, d3, d4, rfl, hx0, hx1, hx2, hx3, hx4⟩ := dpa_five hX
        refine ⟨_, rfl, gun_or rfl (hs.imp (fun z => ex_l e1 z.2) (fun z => ex_t e1 z.2)) rfl ⟨x0, _, rfl, x1, _, rfl, x2, _, rfl, x3, _, rfl, x4, _, rfl, rfl, ?_⟩⟩
        have nope : (isListD d2 = true → ∀ e0 e1, itemsD d2 = [e0, e1] → (∀ z ∈ [d0, d1, e0, e1, d3, d4], isIntD z = true) → False) → rdStep n d = none := fun z => by
          cases q : rdStep n d with
          | none => rfl
          | some s =>
            obtain ⟨z1, e0, e1, z2, z3⟩ := rd_six hit q
            exact (z z1 e0 e1 z2 z3).elim
        refine ⟨_, rfl, x2, _, rfl, lk_dp (dp_ex e1 _ _ hx2), fun G2 eG2 => ⟨_, rfl, ?_⟩⟩
        have e2 := e1.trans eG2
        by_cases hl2 : isListD d2 = true
        · rw [hl2]
          refine iteF ?_
          obtain ⟨b, ys, es, rfl, hY, hs2⟩ := dp_seq hx2 hl2
          have hit2 : itemsD d2 = es := by
            rcases hs2 with ⟨rfl, _⟩ | ⟨rfl, _⟩ <;> rfl
          have hylen := dpa_len hY
          have hs2' : SqL K G2 b ys ∨ SqT K G2 b ys := hs2.imp (fun z => ex_l e2 z.2) (fun z => ex_t e2 z.2)
          refine ⟨_, rfl, b, ys, rfl, hs2', rfl, _, rfl, ?_⟩
          by_cases h2 : ys.length = 2
          · have h2' : V.int (ys.length : Int) = V.int 2 := by rw [h2]; rfl
            rw [decide_eq_true h2']
            refine iteF ?_
            obtain ⟨y0, y1, rfl⟩ := two_ofl h2
            obtain ⟨c0, c1, rfl, hy0, hy1⟩ := dpa_two hY
            refine ⟨_, rfl, _, rfl, _, rfl, ix_at (j := 0) hs2' rfl ?_⟩
            refine ⟨_, rfl, ix_at (j := 1) hs2' rfl ?_⟩
            refine ⟨_, rfl, _, rfl, by show 6 ≤ sizeLine; decide, fun L hL => ?_⟩
            have e3 := e2.trans (Ex.new (o := .tup [x0, x1, y0, y1, x3, x4]) hL)
            have hA : DpAll K (upd G2 L (.tup [x0, x1, y0, y1, x3, x4])) [x0, x1, y0, y1, x3, x4] [d0, d1, c0, c1, d3, d4] := dpa_ex e3 _ _ (.cons hx0 (.cons hx1 (.cons hy0 (.cons hy1 (.cons hx3 (.cons hx4 .nil))))))
            refine ⟨L, rfl, ⟨_, SqT.of upd_same⟩, ?_⟩
            refine for_tup (K := K) (a := L) (xs := [x0, x1, y0, y1, x3, x4]) (fun i σ G => ∃ x7 : Option V, σ = [some (.int n), some (.ref a), some x0, some x1, some (.ref b), some x3, some x4, x7] ∧ G = upd G2 L (.tup [x0, x1, y0, y1, x3, x4]) ∧ ∀ z ∈ ([d0, d1, c0, c1, d3, d4] : List PyData).take i, isIntD z = true)
              ⟨none, rfl, rfl, fun z hz => by simp at hz⟩ (fun i σ G _ ⟨_, _, e, _⟩ => by rw [e]; exact SqT.of upd_same) ?_ ?_
            · rintro i y σ G hy ⟨x7, rfl, rfl, hi⟩
              obtain ⟨di, hdi, hyd⟩ := dpa_get hA hy
              have hmem := mem_of_get hdi
              refine ⟨_, rfl, y, _, _, .type "int", _, rfl, .ty _, ty_dp hyd, kd_int di, _, rfl, ?_⟩
              have bad : isIntD di = false → Q .non (upd G2 L (.tup [x0, x1, y0, y1, x3, x4])) := fun z => kn (nope fun _ f0 f1 hf hz => by
                rw [hit2] at hf
                cases hf
                have := hz di hmem
                rw [z] at this
                cases this) _ e3
              cases hi1 : isIntD di with
              | true =>
                refine iteF ?_
                refine ⟨_, rfl, y, _, _, .type "bool", _, rfl, .ty _, ty_dp hyd, kd_bool di, ?_⟩
                obtain ⟨i', rfl⟩ := int_of hi1
                refine ⟨_, rfl, iteF ⟨_, rfl, rfl, fun z hz => ?_⟩⟩
                rw [List.take_succ, hdi] at hz
                rcases List.mem_append.mp hz with hz | hz
                · exact hi z hz
                · simp at hz
                  subst hz
                  rfl
              | false =>
                cases di with
                | bool b' =>
                  refine iteF ?_
                  refine ⟨_, rfl, y, _, _, .type "bool", _, rfl, .ty _, ty_dp hyd, kd_bool _, ?_⟩
                  exact ⟨_, rfl, iteT (bad hi1)⟩
                | int => cases hi1
                | _ => exact iteT (iteT (bad hi1))
            · rintro σ G ⟨x7, rfl, rfl, hi⟩
              have hall : ∀ z ∈ [d0, d1, c0, c1, d3, d4], isIntD z = true := fun z hz => hi z (by simpa using hz)
              obtain ⟨i0, rfl⟩ := int_of (hall d0 (by simp))
              obtain ⟨i1, rfl⟩ := int_of (hall d1 (by simp))
              obtain ⟨p, rfl⟩ := int_of (hall c0 (by simp))
              obtain ⟨q, rfl⟩ := int_of (hall c1 (by simp))
              obtain ⟨i3, rfl⟩ := int_of (hall d3 (by simp))
              obtain ⟨i4, rfl⟩ := int_of (hall d4 (by simp))
              have hr5 := rd_at (n := n) hit hit2
              cases hx0
              cases hx1
              cases hx3
              cases hx4
              cases hy0
              cases hy1
              have no : ¬ (0 ≤ i0 ∧ i0 < n ∧ 0 ≤ i1 ∧ i1 < n ∧ 1 ≤ i3) → Q .non (upd G2 L (.tup [.int i0, .int i1, .int p, .int q, .int i3, .int i4])) := fun z => kn (by rw [hr5, if_neg z]) _ e3
              refine ⟨_, rfl, _, _, rfl, rfl, _, rfl, ?_⟩
              refine dec_ite (fun z => ?_) (fun z1 => ?_)
              · exact iteT (no (fun y => by omega))
              refine ⟨_, rfl, _, rfl, _, _, rfl, rfl, _, rfl, ?_⟩
              refine dec_ite (fun z => ?_) (fun z2 => ?_)
              · exact iteT (no (fun y => by omega))
              refine ⟨_, rfl, _, _, rfl, rfl, _, rfl, ?_⟩
              refine dec_ite (fun z => ?_) (fun z3 => ?_)
              · exact iteT (no (fun y => by omega))
              refine ⟨_, rfl, _, rfl, _, _, rfl, rfl, _, rfl, ?_⟩
              refine dec_ite (fun z => ?_) (fun z4 => ?_)
              · exact iteT (no (fun y => by omega))
              refine ⟨_, rfl, _, _, rfl, rfl, _, rfl, ?_⟩
              refine dec_ite (fun z => ?_) (fun z5 => ?_)
              · exact no (fun y => by omega)
              rw [if_pos ⟨by omega, by omega, by omega, by omega, by omega⟩] at hr5
              refine ⟨_, rfl, _, rfl, _, rfl, b, [.int p, .int q], rfl, ?_⟩
              rcases hs2 with ⟨_, hs2⟩ | ⟨_, hs2⟩
              · refine .inl ⟨ex_l e3 hs2, fun l hl => ⟨_, rfl, _, rfl, by show 5 ≤ sizeLine; decide, fun t ht => ?_⟩⟩
                refine k _ _ ((e3.trans (Ex.new hl)).trans (Ex.new ht)) ?_
                rw [hr5]
                exact stD_mk (s := ⟨i0, i1, p, q, i3, i4⟩) (SqT.of upd_same) (SqT.of (by rw [upd_ne (ne_of_none upd_same ht)]; exact upd_same))
              · refine .inr ⟨ex_t e3 hs2, _, rfl, _, rfl, by show 5 ≤ sizeLine; decide, fun t ht => ?_⟩
                refine k _ _ (e3.trans (Ex.new ht)) ?_
                rw [hr5]
                exact stD_mk (s := ⟨i0, i1, p, q, i3, i4⟩) (SqT.of upd_same) (ex_t (e3.trans (Ex.new ht)) hs2)
          · rw [decide_eq_false (fun z => h2 (by have := V.int.inj z; omega))]
            refine iteT (kn (nope fun _ f0 f1 hf _ => h2 ?_) _ e2)
            rw [hylen, ← hit2, hf]
            rfl
        · have hf : isListD d2 = false := by simpa using hl2
          rw [hf]
          exact iteT (iteT (kn (nope fun z _ _ _ _ => hl2 z) _ e2))
      · have hn : rdStep n d = none := by
          cases q : rdStep n d with
          | none => rfl
          | some s => exact absurd (by rw [hlen, ← hit]; exact rd_len q) h5
        rw [decide_eq_false (fun z => h5 (by have := V.int.inj z; omega))]
        exact iteT (kn hn _ e1)
    · have hn : rdStep n d = none := by
        cases q : rdStep n d with
        | none => rfl
        | some s => exact absurd (rd_list q) hl
      have hf : isListD d = false := by simpa using hl
      rw [hf]
      exact iteT (iteT (kn hn _ e1))
end
end AA

set_option Elab.async false
set_option linter.all false
set_option maxRecDepth 100000
set_option maxHeartbeats 4000000
/-! enumerate over a list or a tuple. -/
namespace AA
open PySem PySem.Spec PyProof.Rows L2 Evl
theorem enumT_new {v : Value} {o : Obj} {Z : Heap → Prop} (B : Begins v o Z) :
    Meets (Builtin.«enumerate.__new__» ⟨[.type "enumerate", v], []⟩) (fun _ R s => Z s.heap ∧
      R (.ok (.ret (.ref (s.heap.push o).objs.size))) { s with heap := (s.heap.push o).push { cls := .type "enumerate", data := .fields #[.none, .bool false, .ref s.heap.objs.size, rawInt 0, .none, .none] } }) :=
  .of_wp fun prog w A R s h => by
    obtain ⟨hp, g, d, tk, os⟩ := s
    obtain ⟨z, h⟩ := h
    have sb := sub_enumerate
    have go : ∀ {A' : Around} {E : Value → Shared → Prop} {Q : Value → Shared → Prop}, Q (.ref hp.objs.size) ⟨hp.push o, g, d, tk, os⟩ → wpAny (model prog w) A' (pyIter v) Q E ⟨hp, g, d, tk, os⟩ := fun q => B.iter prog w _ _ ⟨hp, g, d, tk, os⟩ _ z q
    wp_walk using go
    refine wpAny_stack_any (fun st => wpAny_pure ?_)
    split
    · rename_i c _ _ _ _ _
      cases (c == Value.type "enumerate") <;> (wp_walk using go; exact ⟨_, rfl, h⟩)
    · wp_walk using go
      exact ⟨_, rfl, h⟩
section
variable {prog : Program} {w : World} {A : Around} {E : Value → Shared → Prop} {s : Shared}
theorem enumT_call {v : Value} {o : Obj} {Z : Heap → Prop} {Q : Value → Shared → Prop} (B : Begins v o Z) (z : Z s.heap)
    (h : ∀ h', IsEnum h' (s.heap.objs.size + 1) s.heap.objs.size 0 .none → h'.get? s.heap.objs.size = some o → h'.objs.size = s.heap.objs.size + 2 →
      (∀ b o, s.heap.get? b = some o → h'.get? b = some o) → Q (.ref (s.heap.objs.size + 1)) { s with heap := h' }) : wpAny (model prog w) A (call (.type "enumerate") [v]) Q E s := by
  have hz : (s.heap.push o).objs.size = s.heap.objs.size + 1 := Heap.size_push ..
  have he : IsEnum ((s.heap.push o).push { cls := .type "enumerate", data := .fields #[.none, .bool false, .ref s.heap.objs.size, rawInt 0, .none, .none] }) (s.heap.objs.size + 1) s.heap.objs.size 0 .none := by
    have q := Heap.get?_push_size (s.heap.push o) (o := { cls := .type "enumerate", data := .fields #[.none, .bool false, .ref s.heap.objs.size, rawInt 0, .none, .none] }) rfl
    rw [hz] at q
    exact q
  refine callType_new F.called_enumerate (by decide) (F.typeCall_enumerate_1 _) (F.newCall_enumerate_1 _) (fun obj => F.args_object_init_2 obj _) F.entry_enumerate_new (enumT_new B) ⟨z, ?_⟩
  show _ ∧ _
  rw [hz]
  exact ⟨⟨_, he, rfl⟩, h _ he (Heap.get?_push_of_some _ (Heap.get?_push_size _ B.free)) (by rw [Heap.size_push, hz]) (fun b u x => Heap.get?_push_of_some _ (Heap.get?_push_of_some _ x))⟩
end
/-- the tuple at a, each item in a new pair -/
def IteT (K : PySem.W.Frag) (a : Addr) : It :=
  ⟨fun i H => ∃ (xs : List V) (x : V), SqT K H a xs ∧ xs[i]? = some x, fun i H v H' => ∃ T x, v = .ref T ∧ H T = none ∧ H' = upd H T (.tup [.int (i : Nat), x]) ∧ (∀ xs, SqT K H a xs → xs[i]? = some x), fun i H => ∃ xs : List V, SqT K H a xs ∧ xs.length = i⟩
theorem turn_enumT {P : Program} {w : World} {K : PySem.W.Frag} {elts : List Expr} {kk : Nat} {tpos : Pos} {a e it : Addr} (ai : a ≠ it) (hne : e ≠ it) (hea : e ≠ a) :
    Turn P w K (.Tuple elts kk tpos) (IteT K a) [e, it] e (fun i h => (∃ old, IsEnum h e it ((i : Nat) : Int) old) ∧ h.IsTupleIter it a i) where
  mem := List.mem_cons_self
  obj := fun i h st b hb => by
    obtain ⟨⟨old, he⟩, ⟨o, ho, hc, hd⟩⟩ := st
    rcases List.mem_cons.mp hb with rfl | z
    · exact ⟨_, he, fun v q => nomatch q⟩
    · obtain rfl := List.mem_singleton.mp z
      exact ⟨o, ho, fun v q => by rw [hd] at q; cases q⟩
  keep := fun i h h' st k => by
    obtain ⟨⟨old, he⟩, hi⟩ := st
    exact ⟨⟨old, k e List.mem_cons_self _ he⟩, hi.at fun o q => k it (by simp) o q⟩
  item := by
    intro X hP hw hK hc i pins s σ H E I hf st hg
    subst hP hw hK
    obtain ⟨⟨old, he⟩, hit⟩ := st
    obtain ⟨xs, x, hq, hx⟩ := hg
    obtain ⟨its, rv, p, hz⟩ := I.tuple hq
    obtain ⟨u, hu, ru⟩ := rv.get hx
    have hel : e < s.heap.objs.size := Heap.lt_size he
    have hil : it < s.heap.objs.size := by
      obtain ⟨_, q, _⟩ := hit
      exact Heap.lt_size q
    have hin : i < its.toArray.size := by
      have := (List.getElem?_eq_some_iff.mp hu).1
      simpa using this
    have pt : s.heap.IsTuple a its.toArray := p
    refine wpAny_pyNext_enum_itemD (Draws.tuple (A := X.A.in1) (I.ok.hd hc) it a ai its.toArray) he ⟨hit, pt⟩ hin hne (by simp [hne, hea]) fun y h' tk hy ho hst hT hsz hk => ?_
    have ey : u = y := by
      have h1 : its.toArray[i]? = some u := by simpa using hu
      exact Option.some.inj (h1.symm.trans hy)
    subst ey
    refine ⟨_, rfl, wpAny_letOwnedTupleGo_enum (s := { s with heap := h', toks := tk + 1 }) ho fun h'' he' sb => ?_⟩
    have hT2 : h''.get? s.heap.objs.size = some { cls := .type "tuple", data := .seq #[.int i tk, u] } := (sb.2 _ (Nat.ne_of_gt hel)).trans hT
    have new : ObjOk X.prog X.w (upd H s.heap.objs.size (.tup [.int (i : Nat), x])) h'' s.heap.objs.size (.tup [.int (i : Nat), x]) :=
      ⟨by show 2 ≤ sizeLine; decide, [.int i tk, u], .cons ⟨_, rfl⟩ (.cons ru .nil), _, hT2, rfl, _, rfl⟩
    have I1 : Inv X pins σ (upd H s.heap.objs.size (.tup [.int (i : Nat), x])) { s with heap := h'', toks := tk + 1 } :=
      I.turnedNew (ch := [e, it]) (fun b ob hb q => (sb.2 b (fun z => hb (by simp [z]))).trans (hk b ob (fun z => hb (by simp [z])) (fun z => hb (by simp [z])) q)) hf (Nat.le_refl _) new
    have e1 : ((i + 1 : Nat) : Int) = (i : Int) + 1 := by omega
    refine ⟨.ref s.heap.objs.size, _, I1, rfl, ⟨_, x, rfl, I.hok.fresh (Nat.le_refl _), rfl, fun ys hy => by rw [I.tuple_inj hy hq]; exact hx⟩, ⟨⟨u, by rw [e1]; exact he'⟩, hst.1.at fun o q => (sb.2 it (Ne.symm hne)).trans q⟩, fun b hb => ?_⟩
    have hb' : b < s.heap.objs.size := by
      rcases List.mem_cons.mp hb with rfl | z
      · exact hel
      · obtain rfl := List.mem_singleton.mp z
        exact hil
    rw [upd_ne (Nat.ne_of_lt hb')]
    exact (hf b hb).1
  done := by
    intro X hP hw hK hc i pins s σ H E I hf st hg
    subst hP hw hK
    obtain ⟨⟨old, he⟩, hit⟩ := st
    obtain ⟨xs, hq, hx⟩ := hg
    obtain ⟨its, rv, p, hz⟩ := I.tuple hq
    obtain ⟨f0, f1, f2, f3, f4, f5⟩ := hf it (by simp)
    have hl := rv.length
    have pt : s.heap.IsTuple a its.toArray := p
    have hi : i = its.toArray.size := by
      rw [← hx, hl]
      simp
    subst hi
    exact wpAny_pyNext_enum_endD (Draws.tuple (A := X.A.in1) (I.ok.hd hc) it a ai its.toArray) he ⟨hit, pt⟩ fun h' eb => ⟨rfl, I.turned (t' := s.toks) (fun b o hb q => eb b o hb q) f0 f1 f3 f4 f5⟩
  self := fun A i s Q E st h => by
    obtain ⟨⟨_, he⟩, _⟩ := st
    exact wpAny_pyIter_enum he h
/-- enumerate(list) or enumerate(tuple) -/
def iEnumA (K : PySem.W.Frag) (ta : TA) : TI := fun σ H R => ta σ H fun vs H1 => ∃ a xs, vs = [.ref a] ∧ ((SqL K H1 a xs ∧ R (Ite K a) H1) ∨ (SqT K H1 a xs ∧ R (IteT K a) H1))
theorem pi_enumA {X : Cx} {e : Expr} {ta : TA} {p pos tpos : Pos} {elts : List Expr} {kk : Nat} (hg : Gl X "enumerate") (hm : X.mg "enumerate" = none) (ha : PA X [e] ta) (hs : starEach [e] X.env = [(false, eval e X.env)] := by rfl) :
    PI X (.Tuple elts kk tpos) (.Call (.Name "enumerate" p) [e] [] pos) (iEnumA X.K ta) := ⟨fun pins s σ H R I h =>
  Call_ (ld_blt I hg hm boot_enumerate (PyProof.Rows.callWith_type1 (thn (ha.run pos pins s σ H _ I h) fun us s1 ⟨vs, H1, I1, r1, a, xs, ex, q1⟩ => by
    subst ex
    obtain ⟨u, rfl, ru⟩ := vals1 r1
    cases (show u = Value.ref a from ru)
    have fresh : ∀ b ∈ [s1.heap.objs.size + 1, s1.heap.objs.size], FpOk X pins H1 b := fun b hb => by
      have hle : s1.heap.objs.size ≤ b := by
        rcases List.mem_cons.mp hb with rfl | z
        · exact Nat.le_add_right _ _
        · exact Nat.le_of_eq (List.mem_singleton.mp z).symm
      exact I1.fpOk hle (I1.hok.fresh hle)
    rcases q1 with ⟨hq, q⟩ | ⟨hq, q⟩
    · obtain ⟨its, rv, p', hz⟩ := I1.list hq
      refine call_enumerate_list p'.isList fun h' he hit hsz hk => wpAny_pyIter_enum he ?_
      exact ⟨s1.heap.objs.size + 1, _, _, _, H1, rfl, I1.kept (t' := s1.toks) hk, turn_enum a (s1.heap.objs.size + 1) s1.heap.objs.size, ⟨⟨.none, he⟩, hit, Nat.succ_ne_self _⟩, fresh, q⟩
    · obtain ⟨its, rv, p', hz⟩ := I1.tuple hq
      have hal : a < s1.heap.objs.size := p'.lt
      refine enumT_call (begins_tuple a its.toArray) p' fun h' he hit hsz hk => wpAny_pyIter_enum he ?_
      exact ⟨s1.heap.objs.size + 1, _, _, _, H1, rfl, I1.kept (t' := s1.toks) hk, turn_enumT (a := a) (e := s1.heap.objs.size + 1) (it := s1.heap.objs.size) (Nat.ne_of_lt hal) (Nat.succ_ne_self _) (Ne.symm (Nat.ne_of_lt (Nat.lt_succ_of_lt hal))), ⟨⟨.none, he⟩, ⟨_, hit, rfl, rfl⟩⟩, fresh, q⟩) hs rfl))⟩
theorem for_enumT {K : PySem.W.Frag} {a : Addr} {xs : List V} {g : TG} {tb : TS} {D : Ends} {σ : L2.St} {H : Hp} (Pv : Nat → L2.St → Hp → Prop) (h0 : Pv 0 σ H) (hl : ∀ i σ H, i ≤ xs.length → Pv i σ H → SqT K H a xs)
    (hs : ∀ (i : Nat) (x : V) (σ : L2.St) (H : Hp) (T : Addr), xs[i]? = some x → Pv i σ H → H T = none → g (.ref T) σ (upd H T (.tup [.int (i : Nat), x])) fun σ2 H2 => tb { D with nx := Pv (i + 1), ct := Pv (i + 1), bk := D.nx } σ2 H2) (hd : ∀ σ H, Pv xs.length σ H → D.nx σ H) :
    ∃ W : Nat → Nat → L2.St → Hp → Prop, (∃ m, W 0 m σ H) ∧ ∀ i m σ H, W i m σ H →
      ((IteT K a).stop i H ∧ D.nx σ H) ∨ ((IteT K a).go i H ∧ ∃ N : L2.St → Hp → Prop, (∀ σ' H', N σ' H' → ∃ m', m' < m ∧ W (i + 1) m' σ' H') ∧ ∀ x H', (IteT K a).yld i H x H' → g x σ H' fun σ2 H2 => tb { D with nx := N, ct := N, bk := D.nx } σ2 H2) := by
  refine ⟨fun i m σ H => m = xs.length - i ∧ i ≤ xs.length ∧ Pv i σ H, ⟨xs.length, by simp, Nat.zero_le _, h0⟩, ?_⟩
  rintro i m σ H ⟨rfl, hi, p⟩
  have q := hl i σ H hi p
  by_cases hlt : i < xs.length
  · refine .inr ⟨⟨xs, xs[i], q, by simp [hlt]⟩, Pv (i + 1), fun σ' H' p' => ⟨xs.length - (i + 1), by omega, rfl, hlt, p'⟩, fun x H' y => ?_⟩
    obtain ⟨T, z, rfl, hT, rfl, e⟩ := y
    exact hs i z σ _ T (e xs q) p hT
  · have e : i = xs.length := by omega
    subst e
    exact .inl ⟨⟨xs, q, rfl⟩, hd σ H p⟩
theorem for_enumA {K : PySem.W.Frag} {a : Addr} {xs : List V} {g : TG} {tb : TS} {D : Ends} {σ : L2.St} {H0 H : Hp} (hq : SqL K H0 a xs ∨ SqT K H0 a xs) (Pv : Nat → L2.St → Hp → Prop) (h0 : Pv 0 σ H) (he : ∀ i σ G, Pv i σ G → Ex H0 G)
    (hs : ∀ (i : Nat) (x : V) (σ : L2.St) (H : Hp) (T : Addr), xs[i]? = some x → Pv i σ H → H T = none → g (.ref T) σ (upd H T (.tup [.int (i : Nat), x])) fun σ2 H2 => tb { D with nx := Pv (i + 1), ct := Pv (i + 1), bk := D.nx } σ2 H2) (hd : ∀ σ H, Pv xs.length σ H → D.nx σ H) :
    (SqL K H a xs ∧ ∃ W : Nat → Nat → L2.St → Hp → Prop, (∃ m, W 0 m σ H) ∧ ∀ i m σ H, W i m σ H →
      ((Ite K a).stop i H ∧ D.nx σ H) ∨ ((Ite K a).go i H ∧ ∃ N : L2.St → Hp → Prop, (∀ σ' H', N σ' H' → ∃ m', m' < m ∧ W (i + 1) m' σ' H') ∧ ∀ x H', (Ite K a).yld i H x H' → g x σ H' fun σ2 H2 => tb { D with nx := N, ct := N, bk := D.nx } σ2 H2)) ∨
    (SqT K H a xs ∧ ∃ W : Nat → Nat → L2.St → Hp → Prop, (∃ m, W 0 m σ H) ∧ ∀ i m σ H, W i m σ H →
      ((IteT K a).stop i H ∧ D.nx σ H) ∨ ((IteT K a).go i H ∧ ∃ N : L2.St → Hp → Prop, (∀ σ' H', N σ' H' → ∃ m', m' < m ∧ W (i + 1) m' σ' H') ∧ ∀ x H', (IteT K a).yld i H x H' → g x σ H' fun σ2 H2 => tb { D with nx := N, ct := N, bk := D.nx } σ2 H2)) :=
  hq.imp (fun q => ⟨ex_l (he _ _ _ h0) q, for_enumL Pv h0 (fun i σ G hi p => ex_l (he i σ G p) q) hs hd⟩) (fun q => ⟨ex_t (he _ _ _ h0) q, for_enumT Pv h0 (fun i σ G hi p => ex_t (he i σ G p) q) hs hd⟩)
end AA

set_option Elab.async false
set_option linter.all false
set_option maxRecDepth 100000
set_option maxHeartbeats 4000000
/-! Exceptions of one field, made and raised. -/
namespace AA
open PySem PySem.Spec PyProof.Rows L2 Evl
section
variable {P : Program} {w : World} {K : PySem.W.Frag} {mg : Str → Option Value} {base : Heap}
/-- a def that may raise, asked where it doesn't -/
theorem fn_calm {k : Nat} {f : Addr} {fd : FuncData} {ps : List Str} {sp : Sp} (G : FnOk P w K mg base (L2.CX P w) k f fd ps sp) : FnOk P w K mg base CX0 k f fd ps (fun vs H Q _ => sp vs H Q E0) := by
  refine ⟨fun vs H Q E h => G.len vs H Q E0 h, fun A outer s H args us vs Q E hr e0 hb r h => ?_⟩
  refine codeAny_mono (G.run A outer s H args us vs Q E0 hr e0 hb r h) fun r s' hq => ?_
  cases r with
  | ok fl => cases fl <;> exact hq
  | error e =>
    obtain ⟨_, _, _, _, _, _, _, _, _, _, _, _, z⟩ := hq
    exact z.elim
/-- what the top has written of an exception's class x with the field m -/
structure ExT (K : PySem.W.Frag) (mg : Str → Option Value) (x m : Str) (CB fI : Addr) : Prop where
  ox : OexC K CB
  xf : XfC K CB
  no : PySem.W.findIn K (.ref CB) m = some none
  gC : mg x = some (.ref CB)
  iC : PySem.W.findIn K (.ref CB) "__init__" = some (some (.ref fI))
  tC : PySem.W.typeIn K (.ref fI) = some (.type "function")
def spExI (CB : Addr) (m : Str) : Sp := fun vs H Q _ => ∃ (a : Addr) (v : V), vs = [.ref a, v] ∧ H a = some (exo a CB none) ∧ ∀ dx, H dx = none → dx ≠ a → Q .non (upd (upd H dx (exd dx [(m, v)])) a (exo a CB (some dx)))
theorem scBadPl : FnScope ["self", "places"] ["self", "places"] (defScope sBadPlInit) := ⟨rfl, rfl, rfl, by decide +kernel, rfl, by decide +kernel, by decide +kernel⟩
theorem ok_badPl {CB f fI : Addr} {fd : FuncData} (F : L2.Fun K "__init__" "BadPlaces.__init__" sBadPlInit f fd) (T : ExT K mg "BadPlaces" "places" CB fI) : FnOk P w K mg base CX0 1 f fd ["self", "places"] (spExI CB "places") := by
  refine F.ok scBadPl (fun vs H Q E h => ?_) (fun cdv A outer s H vs Q E hr h => ?_)
  · obtain ⟨a, v, rfl, _⟩ := h
    rfl
  · obtain ⟨a, v, rfl, ha, k⟩ := h
    exact ⟨_, pss_one (ps_ost (pv 0) (pv 1) rfl), _, rfl, _, rfl, a, CB, rfl, T.ox, T.no, .inl ⟨ha, k⟩⟩
theorem scBadSt : FnScope ["self", "index"] ["self", "index"] (defScope sBadStInit) := ⟨rfl, rfl, rfl, by decide +kernel, rfl, by decide +kernel, by decide +kernel⟩
theorem ok_badSt {CB f fI : Addr} {fd : FuncData} (F : L2.Fun K "__init__" "BadSteps.__init__" sBadStInit f fd) (T : ExT K mg "BadSteps" "index" CB fI) : FnOk P w K mg base CX0 1 f fd ["self", "index"] (spExI CB "index") := by
  refine F.ok scBadSt (fun vs H Q E h => ?_) (fun cdv A outer s H vs Q E hr h => ?_)
  · obtain ⟨a, v, rfl, _⟩ := h
    rfl
  · obtain ⟨a, v, rfl, ha, k⟩ := h
    exact ⟨_, pss_one (ps_ost (pv 0) (pv 1) rfl), _, rfl, _, rfl, a, CB, rfl, T.ox, T.no, .inl ⟨ha, k⟩⟩
/-- an exception of this class with this field flies -/
def BadE (CB : Addr) (m : Str) (H : Hp) (v : V) (E : XK) : Prop := ∀ (H' : Hp) (dd : Addr), Ex H H' → H dd = none → H' dd = some (.xd [(m, v)]) → E (.ref CB) (some dd) H'
theorem BadE.ex {CB : Addr} {m : Str} {H H1 : Hp} {v : V} {E : XK} (h : BadE CB m H v E) (e : Ex H H1) : BadE CB m H1 v E := fun H' dd e' h0 h1 => h H' dd (e.trans e') (fresh_back e h0) h1
/-- raise C(e), read -/
theorem raise_go {CB : Addr} {m : Str} {H1 : Hp} {v : V} {E : XK} (kb : BadE CB m H1 v E) : ∀ a, H1 a = none → spExI CB m [.ref a, v] (upd H1 a (exo a CB none)) (fun u H2 => u = .non ∧ ∃ (d : Addr) (fs : List (Str × V)), H2 a = some (exo a CB (some d)) ∧ H2 d = some (exd d fs) ∧ H1 d = none ∧ E (.ref CB) (some d) (upd (del H2 a) d (.xd fs))) (fun _ _ _ => False) := by
  intro a ha
  refine ⟨a, v, rfl, upd_same, fun dx hdx ne => ⟨rfl, dx, _, upd_same, by rw [upd_ne ne]; exact upd_same, ?_, ?_⟩⟩
  · rw [upd_ne ne] at hdx
    exact hdx
  · have hd1 : H1 dx = none := by
      rw [upd_ne ne] at hdx
      exact hdx
    refine kb _ dx (fun b o hb => ?_) hd1 upd_same
    have hb1 : b ≠ dx := ne_of_none hb hd1
    have hb2 : b ≠ a := ne_of_none hb ha
    rw [upd_ne hb1, del_ne hb2, upd_ne hb2, upd_ne hb1, upd_ne hb2]
    exact hb
end
end AA

set_option Elab.async false
set_option linter.all false
set_option maxRecDepth 100000
set_option maxHeartbeats 4000000
/-! read_steps, of good steps. -/
namespace AA
open PySem PySem.Spec PyProof.Rows L2 Evl
theorem sqt_upd {K : PySem.W.Frag} {G : Hp} {p a : Addr} {φ : Heap → Prop} {o : HO} {xs : List V} (hp : G p = some (.ext φ)) (h : SqT K G a xs) : SqT K (upd G p o) a xs := by
  rcases h with h | h
  · refine .inl ?_
    rcases h with h | ⟨u, h⟩
    · exact .inl (by rw [upd_ne (fun z => by rw [z, hp] at h; cases h)]; exact h)
    · exact .inr ⟨u, by rw [upd_ne (fun z => by rw [z, hp] at h; cases h)]; exact h⟩
  · exact .inr h
theorem st_upd {K : PySem.W.Frag} {G : Hp} {p : Addr} {φ : Heap → Prop} {o : HO} {v : V} {s : St5} (hp : G p = some (.ext φ)) (h : Dp K G v (stD s)) : Dp K (upd G p o) v (stD s) := by
  obtain ⟨t, u, rfl, h1, h2⟩ := stD_inv h
  exact stD_mk (sqt_upd hp h1) (sqt_upd hp h2)
theorem ks_upd {K : PySem.W.Frag} {G : Hp} {p : Addr} {φ : Heap → Prop} {o : HO} {ks : List (St5 × Addr)} (hp : G p = some (.ext φ)) (h : KsOk K G ks) : KsOk K (upd G p o) ks := fun x m => st_upd hp (h x m)
theorem ks_dpa {K : PySem.W.Frag} {G : Hp} : ∀ {ks : List (St5 × Addr)}, KsOk K G ks → DpAll K G (ks.map fun x => V.ref x.2) ((ks.map (·.1)).map stD)
  | [], _ => .nil
  | x :: r, h => .cons (h x List.mem_cons_self) (ks_dpa fun y m => h y (List.mem_cons_of_mem _ m))
theorem map_get {α β : Type} {f : α → Option β} {xs : List α} {ys : List β} (h : xs.map f = ys.map some) {i : Nat} {x : α} (hx : xs[i]? = some x) : ∃ y, ys[i]? = some y ∧ f x = some y := by
  have h1 : (xs.map f)[i]? = some (f x) := by rw [List.getElem?_map, hx]; rfl
  rw [h, List.getElem?_map] at h1
  cases q : ys[i]? with
  | none =>
    rw [q] at h1
    cases h1
  | some y =>
    rw [q] at h1
    exact ⟨y, rfl, (Option.some.inj h1).symm⟩
theorem nodup_take {α : Type} {ys : List α} (h : ys.Nodup) {i : Nat} {y : α} (hy : ys[i]? = some y) : y ∉ ys.take i := by
  intro m
  obtain ⟨j, hj⟩ := List.mem_iff_getElem?.mp m
  rw [List.getElem?_take] at hj
  split at hj
  · rename_i hlt
    have : j = i := (List.getElem?_inj (List.getElem?_eq_some_iff.mp hj).1 h).mp (hj.trans hy.symm)
    omega
  · cases hj
section
variable {P : Program} {w : World} {K : PySem.W.Frag} {mg : Str → Option Value} {base : Heap}
def spIsIntegerV (K : PySem.W.Frag) : Sp := fun vs H Q _ => ∃ v : V, vs = [v] ∧ ((NotI K H v ∧ Q (.bl false) H) ∨ ∃ n, v = .int n ∧ Q (.bl true) H)
theorem ok_isIntegerV {f : Addr} {fd : FuncData} (F : L2.Fun K "is_integer" "is_integer" sIsInteger f fd) (T : Bn mg) : FnOk P w K mg base CX0 1 f fd ["thing"] (spIsIntegerV K) := by
  refine F.ok scIsInteger (fun vs H Q E h => ?_) (fun cdv A outer s H vs Q E hr h => ?_)
  · obtain ⟨v, rfl, _⟩ := h
    rfl
  · obtain ⟨v, rfl, h⟩ := h
    refine ⟨_, pss_one (ps_ret (pe_and (pe_callB call_is1 (by rfl) T.isinstance boot_isinstance (pa_cons (pv 0) (pa_cons (pe_bltn (v := .ty "int") (by rfl) T.int boot_int rfl) pa_nil)))
      (pe_one (pe_not (pe_callB call_is1 (by rfl) T.isinstance boot_isinstance (pa_cons (pv 0) (pa_cons (pe_bltn (v := .ty "bool") (by rfl) T.bool boot_bool rfl) pa_nil))))))), ?_⟩
    rcases h with ⟨⟨t, bi, bb, h1, h2, h3, h4⟩, k⟩ | ⟨n, rfl, k⟩
    · refine ⟨_, rfl, v, _, _, .type "int", _, rfl, .ty _, h1 _ nt_le, h2, _, rfl, ?_⟩
      cases bi with
      | false => exact iteF k
      | true =>
        refine iteT ?_
        refine ⟨_, rfl, v, _, _, .type "bool", _, rfl, .ty _, h1 _ nt_le, h3, _, rfl, ?_⟩
        cases bb with
        | true => exact k
        | false => cases h4
    · refine ⟨_, rfl, _, _, _, .type "int", _, rfl, .ty _, ty_dp (d := .int n) (.int n), kd_int (.int n), _, rfl, ?_⟩
      refine iteT ?_
      exact ⟨_, rfl, _, _, _, .type "bool", _, rfl, .ty _, ty_dp (d := .int n) (.int n), kd_bool (.int n), _, rfl, k⟩
/-- steps in a row, read -/
inductive RdAll (K : PySem.W.Frag) (n : Int) (H : Hp) : List V → List St5 → Prop
  | nil : RdAll K n H [] []
  | cons {v : V} {d : PyData} {s : St5} {vs : List V} {ss : List St5} (h : Dp K H v d) (hr : rdStep n d = some s) (t : RdAll K n H vs ss) : RdAll K n H (v :: vs) (s :: ss)
theorem RdAll.ex {n : Int} {H H' : Hp} (e : Ex H H') : ∀ {vs : List V} {ss : List St5}, RdAll K n H vs ss → RdAll K n H' vs ss
  | _, _, .nil => .nil
  | _, _, .cons h hr t => .cons (dp_ex e _ _ h) hr (RdAll.ex e t)
theorem RdAll.len {n : Int} {H : Hp} : ∀ {vs : List V} {ss : List St5}, RdAll K n H vs ss → vs.length = ss.length
  | _, _, .nil => rfl
  | _, _, .cons _ _ t => by rw [List.length_cons, List.length_cons, RdAll.len t]
theorem RdAll.get {n : Int} {H : Hp} : ∀ {vs : List V} {ss : List St5} {i : Nat} {v : V}, RdAll K n H vs ss → vs[i]? = some v → ∃ d s, Dp K H v d ∧ rdStep n d = some s ∧ ss[i]? = some s
  | _, _, _, _, .nil, e => by simp at e
  | _, _, 0, _, .cons h hr t, e => by
    cases (Option.some.inj e)
    exact ⟨_, _, h, hr, rfl⟩
  | _, _, i + 1, _, .cons h hr t, e => RdAll.get (i := i) t e
/-- what read_steps is handed: no list; a list whose first bad one is at an index; good steps -/
def StArg (K : PySem.W.Frag) (n : Int) (H : Hp) (v : V) (Bad : Nat → Prop) (Good : List St5 → Prop) : Prop :=
  (Lk K H v false ∧ Bad 0) ∨ ∃ (a : Addr) (xs : List V) (ss : List St5), v = .ref a ∧ SqA K H a xs ∧ ss.Nodup ∧ ss.length ≤ 1000000 ∧
    ((RdAll K n H xs ss ∧ Good ss) ∨ ∃ (pre : List V) (z : V) (r : List V), xs = pre ++ z :: r ∧ RdAll K n H pre ss ∧ (RdNo K n H z ∨ ∃ d s, Dp K H z d ∧ rdStep n d = some s ∧ s ∈ ss) ∧ Bad ss.length)
theorem StArg.ex {n : Int} {H H' : Hp} {v : V} {B : Nat → Prop} {G : List St5 → Prop} (h : StArg K n H v B G) (e : Ex H H') : StArg K n H' v B G := by
  rcases h with ⟨h1, h2⟩ | ⟨a, xs, ss, h1, h2, h3, h4, h⟩
  · exact .inl ⟨h1.ex e, h2⟩
  · refine .inr ⟨a, xs, ss, h1, h2.ex e, h3, h4, h.imp (fun z => ⟨z.1.ex e, z.2⟩) ?_⟩
    rintro ⟨pre, z, r, h5, h6, h7, h8⟩
    exact ⟨pre, z, r, h5, h6.ex e, h7.imp (fun y => y.ex e) (fun ⟨d, s, y1, y2⟩ => ⟨d, s, dp_ex e _ _ y1, y2⟩), h8⟩
theorem StArg.imp {n : Int} {H : Hp} {v : V} {B B' : Nat → Prop} {G G' : List St5 → Prop} (h : StArg K n H v B G) (hb : ∀ i, B i → B' i) (hg : ∀ ss, G ss → G' ss) : StArg K n H v B' G' := by
  rcases h with ⟨h1, h2⟩ | ⟨a, xs, ss, h1, h2, h3, h4, h⟩
  · exact .inl ⟨h1, hb _ h2⟩
  · refine .inr ⟨a, xs, ss, h1, h2, h3, h4, h.imp (fun z => ⟨z.1, hg _ z.2⟩) ?_⟩
    rintro ⟨pre, z, r, h5, h6, h7, h8⟩
    exact ⟨pre, z, r, h5, h6, h7, hb _ h8⟩
def spReadSteps (K : PySem.W.Frag) (CB : Addr) : Sp := fun vs H Q E => ∃ (n : Int) (v : V), vs = [.int n, v] ∧ StArg K n H v (fun i => BadE CB "index" H (.int (i : Nat)) E)
  (fun ss => ∀ H' p ys, Ex H H' → H p = none → H' p = some (.lst ys) → DpAll K H' ys (ss.map stD) → Q (.ref p) H')
theorem scReadSteps : FnScope ["places", "things", "found", "index", "thing", "step"] ["places", "things"] (defScope sReadSteps) := ⟨rfl, rfl, rfl, by decide +kernel, rfl, by decide +kernel, by decide +kernel⟩
theorem ok_readSteps {f CB fI : Addr} {fd fdI : FuncData} (F : L2.Fun K "read_steps" "read_steps" sReadSteps f fd) (T : Bn mg) (TB : ExT K mg "BadSteps" "index" CB fI) (GI : FnOk P w K mg base CX0 1 fI fdI ["self", "index"] (spExI CB "index")) (bI : Binds K fdI ["self", "index"] [])
    (cR : C8.Cal P w K mg base 3 "read_step" (spReadStep K) []) (cL : C8.Cal P w K mg base 1 "is_list" (spIsList K) []) :
    FnOk P w K mg base (L2.CX P w) 4 f fd ["places", "things"] (spReadSteps K CB) := by
  refine F.okX scReadSteps (fun vs H Q E h => ?_) (fun cdv A outer s H vs Q E hr h => ?_)
  · obtain ⟨n, v, rfl, _⟩ := h
    rfl
  · obtain ⟨n, v, rfl, h⟩ := h
    have hun := hr.un
    have hu9 : (A.deeper (envOfC "read_steps" (defScope sReadSteps) s.heap.objs.size f cdv)).units + 9 < cLine := by omega
    refine ⟨_, pss_cons (ps_if (pt_not (pt_val (C8.pe_c cL hr (by decide) (by rfl) (pa_cons (pv 1) pa_nil))))
        (pss_one (ps_raise rfl (takes_of rfl rfl rfl rfl) (pmk_oex TB.ox TB.iC TB.tC GI (hr.mono (by decide)) bI .nil pass0 (by rfl) TB.gC (pa_cons pe_int pa_nil)))) pss_nil)
      (pss_cons (ps_set (i := 2) scReadSteps.nd rfl (Or.inl rfl) pe_snew)
      (pss_cons (ps_for (passes_of rfl) rfl (pi_enumA (by rfl) T.enumerate (pa_cons (pv 1) pa_nil)) (pg_tup (n := 2) rfl (pgs_cons (pg_name (i := 3) scReadSteps.nd rfl (Or.inl rfl)) (pgs_cons (pg_name (i := 4) scReadSteps.nd rfl (Or.inl rfl)) pgs_nil)))
        (pss_cons (ps_set (i := 5) scReadSteps.nd rfl (Or.inl rfl) (C8.pe_c cR hr (by decide) (by rfl) (pa_cons (pv 0) (pa_cons (pv 4) pa_nil))))
        (pss_cons (ps_if (PW.pt (pw_or (pt_cmp (pc_isN (pv 5))) (pw_or1 (pt_cmp (pc_sin hu9 (pv 5) (pv 2))))))
          (pss_one (ps_raise rfl (takes_of rfl rfl rfl rfl) (pmk_oex TB.ox TB.iC TB.tC GI (hr.mono (by decide)) bI .nil pass0 (by rfl) TB.gC (pa_cons (pv 3) pa_nil)))) pss_nil)
        (pss_one (ps_sput hu9 (pv 2) (pv 5) (by rfl))))))
      (pss_one (ps_ret (pe_callTy (call_list_sd (by rfl)) (by rfl) T.list boot_list (pa_cons (pv 2) pa_nil)))))), ?_⟩
    rcases h with ⟨hl, kb⟩ | ⟨a, xs, ss, rfl, hs, hnd, hsz, h⟩
    · refine ⟨_, rfl, v, false, rfl, hl, fun H1 e1 => ⟨_, rfl, iteT ?_⟩⟩
      exact ⟨by show 1 ≤ 1000; decide, raise_go (kb.ex e1)⟩
    obtain ⟨pre, r, rfl, hpre, hr0⟩ : ∃ (pre r : List V), xs = pre ++ r ∧ RdAll K n H pre ss ∧ ((r = [] ∧ ∀ H' p ys, Ex H H' → H p = none → H' p = some (.lst ys) → DpAll K H' ys (ss.map stD) → Q (.ref p) H') ∨
        ∃ (z : V) (r' : List V), r = z :: r' ∧ (RdNo K n H z ∨ ∃ d s, Dp K H z d ∧ rdStep n d = some s ∧ s ∈ ss) ∧ BadE CB "index" H (.int (ss.length : Nat)) E) := by
      rcases h with ⟨h1, h2⟩ | ⟨pre, z, r, h1, h2, h3, h4⟩
      · exact ⟨xs, [], (List.append_nil _).symm, h1, .inl ⟨rfl, h2⟩⟩
      · exact ⟨pre, z :: r, h1, h2, .inr ⟨z, r, rfl, h3, h4⟩⟩
    have hlen := hpre.len
    refine ⟨_, rfl, .ref a, true, rfl, lk_sq hs, fun H1 e1 => ⟨_, rfl, ?_⟩⟩
    refine iteF ?_
    refine fun p hp => ?_
    refine ⟨_, rfl, a, pre ++ r, rfl, for_enumA (K := K) (a := a) (xs := pre ++ r) (H0 := H) hs
      (fun i σ G => ∃ (x3 x4 x5 : Option V) (ks : List (St5 × Addr)), σ = [some (.int n), some (.ref a), some (.ref p), x3, x4, x5] ∧ Ex H1 G ∧ G p = some (SD P w p ks) ∧ KsOk K G ks ∧ ks.map (·.1) = ss.take i ∧ i ≤ ss.length) ?_ ?_ ?_ ?_⟩
    · exact ⟨none, none, none, [], rfl, Ex.new hp, upd_same, KsOk.nil, by rw [List.take_zero]; rfl, Nat.zero_le _⟩
    · rintro i σ G ⟨x3, x4, x5, ks, rfl, q1, _⟩
      exact e1.trans q1
    · rintro i x σ G T hx ⟨x3, x4, x5, ks, rfl, q1, q2, q3, q4, q5⟩ hT
      have eT := Ex.new (o := .tup [.int (i : Nat), x]) hT
      refine ⟨T, _, rfl, SqT.of upd_same, rfl, _, _, rfl, _, _, rfl, rfl, ?_⟩
      have hkl : ks.length ≤ 1000000 := by
        have := congrArg List.length q4
        rw [List.length_map, List.length_take] at this
        omega
      by_cases hlt : i < pre.length
      · rw [List.getElem?_append_left hlt] at hx
        obtain ⟨di, si, hxd, hrd, hsi⟩ := hpre.get hx
        refine ⟨_, rfl, _, rfl, n, x, rfl, .inr ⟨di, dp_ex (e1.trans (q1.trans eT)) _ _ hxd, fun G2 r eG2 hr2 => ?_⟩⟩
        rw [hrd] at hr2
        obtain ⟨b, c, rfl, _⟩ := stD_inv hr2
        have hp2 : G2 p = some (SD P w p ks) := eG2 _ _ (eT _ _ q2)
        have hk2 : KsOk K G2 ks := (q3.ex eT).ex eG2
        have hni : si ∉ ks.map (·.1) := by
          rw [q4]
          exact nodup_take hnd hsi
        refine ⟨_, rfl, _, rfl, ?_⟩
        refine iteF ?_
        refine ⟨_, rfl, _, rfl, _, ⟨p, ks, b, si, rfl, rfl, hp2, hk2, hr2, rfl⟩, _, rfl, ?_⟩
        rw [decide_eq_false hni]
        refine iteF ?_
        refine ⟨_, rfl, _, rfl, p, ks, b, si, rfl, rfl, hp2, hk2, hr2, hni, sz_m hkl, ?_⟩
        refine ⟨_, _, _, ks ++ [(si, b)], rfl, Ex.mut ((q1.trans eT).trans eG2) hp, upd_same, (ks_upd hp2 hk2).snoc (st_upd hp2 hr2), ?_, by omega⟩
        rw [List.map_append, q4, List.take_succ, hsi]
        rfl
      · have hie : i = pre.length := by omega
        rcases hr0 with ⟨rfl, _⟩ | ⟨z, r', rfl, hbad, kb⟩
        · rw [List.append_nil] at hx
          exact absurd (List.getElem?_eq_some_iff.mp hx).1 hlt
        · rw [hie, List.getElem?_append_right (Nat.le_refl _), Nat.sub_self] at hx
          cases (Option.some.inj hx)
          have il : i = ss.length := by omega
          subst il
          rcases hbad with hno | ⟨d, s', hzd, hrs, hms⟩
          · refine ⟨_, rfl, _, rfl, n, _, rfl, .inl ⟨hno.ex (e1.trans (q1.trans eT)), fun G2 eG2 => ?_⟩⟩
            refine ⟨_, rfl, _, rfl, iteT (iteT ?_)⟩
            exact ⟨_, rfl, by show 1 ≤ 1000; decide, raise_go (kb.ex (e1.trans (q1.trans (eT.trans eG2))))⟩
          · refine ⟨_, rfl, _, rfl, n, _, rfl, .inr ⟨d, dp_ex (e1.trans (q1.trans eT)) _ _ hzd, fun G2 r eG2 hr2 => ?_⟩⟩
            rw [hrs] at hr2
            obtain ⟨b, c, rfl, _⟩ := stD_inv hr2
            have hp2 : G2 p = some (SD P w p ks) := eG2 _ _ (eT _ _ q2)
            have hk2 : KsOk K G2 ks := (q3.ex eT).ex eG2
            have hmi : s' ∈ ks.map (·.1) := by
              rw [q4, List.take_length]
              exact hms
            refine ⟨_, rfl, _, rfl, ?_⟩
            refine iteF ?_
            refine ⟨_, rfl, _, rfl, _, ⟨p, ks, b, s', rfl, rfl, hp2, hk2, hr2, rfl⟩, _, rfl, ?_⟩
            rw [decide_eq_true hmi]
            refine iteT ?_
            exact ⟨_, rfl, by show 1 ≤ 1000; decide, raise_go (kb.ex (e1.trans (q1.trans (eT.trans eG2))))⟩
    · rintro σ G ⟨x3, x4, x5, ks, rfl, q1, q2, q3, q4, q5⟩
      have hrn : r = [] := by
        rw [List.length_append] at q5
        exact List.eq_nil_of_length_eq_zero (by omega)
      subst hrn
      rcases hr0 with ⟨_, k⟩ | ⟨z, r', h0, _⟩
      · rw [List.append_nil, hlen, List.take_length] at q4
        refine ⟨_, rfl, p, ks, rfl, q2, q3, fun l hl2 => ?_⟩
        have e2 := e1.trans q1
        refine k _ l _ (e2.trans (Ex.new hl2)) (fresh_back e2 hl2) upd_same ?_
        have q5 := ks_dpa (q3.ex (Ex.new (o := .lst (ks.map fun x => V.ref x.2)) hl2))
        rw [q4] at q5
        exact q5
      · cases h0
end
end AA

set_option Elab.async false
set_option linter.all false
set_option maxRecDepth 100000
set_option maxHeartbeats 4000000
/-! The class of webs. -/
namespace AA
open PySem PySem.Spec PyProof.Rows L2 Evl
theorem nps_ : ¬ (("_places" : Str) = "_steps") := by decide +kernel
theorem npk_ : ¬ (("_places" : Str) = "known") := by decide +kernel
theorem nsk_ : ¬ (("_steps" : Str) = "known") := by decide +kernel
def wf (n : Int) (l kd : Addr) : List (Str × V) := putF "known" (.ref kd) (putF "_steps" (.ref l) (putF "_places" (.int n) []))
theorem wf_places (n : Int) (l kd : Addr) : (wf n l kd).lookup ("_places" : Str) = some (.int n) := by
  unfold wf
  rw [lookup_putF, if_neg npk_, lookup_putF, if_neg nps_, lookup_putF, if_pos rfl]
theorem wf_steps (n : Int) (l kd : Addr) : (wf n l kd).lookup ("_steps" : Str) = some (.ref l) := by
  unfold wf
  rw [lookup_putF, if_neg nsk_, lookup_putF, if_pos rfl]
theorem wf_known (n : Int) (l kd : Addr) : (wf n l kd).lookup ("known" : Str) = some (.ref kd) := by
  unfold wf
  rw [lookup_putF, if_pos rfl]
theorem wf_no (n : Int) (l kd : Addr) {m : Str} (h1 : ¬ m = "_steps") (h2 : ¬ m = "_places") (h3 : ¬ m = "known") : (wf n l kd).lookup m = none := by
  unfold wf
  rw [lookup_putF, if_neg h3, lookup_putF, if_neg h1, lookup_putF, if_neg h2]
  all_goals rfl
/-- a web stands at x: n places, the steps ss in some list -/
def WebAt (K : PySem.W.Frag) (C : Addr) (H : Hp) (x : Addr) (n : Int) (ss : List St5) : Prop := ∃ (dx l kd : Addr) (ys : List V), H x = some (.ins C dx (wf n l kd)) ∧ H l = some (.lst ys) ∧ DpAll K H ys (ss.map stD)
theorem WebAt.ex {K : PySem.W.Frag} {C : Addr} {H H' : Hp} {x : Addr} {n : Int} {ss : List St5} (h : WebAt K C H x n ss) (e : Ex H H') : WebAt K C H' x n ss := by
  obtain ⟨dx, l, kd, ys, h1, h2, h3⟩ := h
  exact ⟨dx, l, kd, ys, e _ _ h1, e _ _ h2, dpa_ex e _ _ h3⟩
/-- what the top has written of the class -/
structure WebTxt (K : PySem.W.Frag) (mg : Str → Option Value) (C : Addr) : Prop where
  cl : Cls K C
  nP : NoAttr K C "_places"
  nS : NoAttr K C "_steps"
  nK : NoAttr K C "known"
  mgC : mg "Web" = some (.ref C)
theorem sqt_upd2 {K : PySem.W.Frag} {G : Hp} {p a : Addr} {o : HO} {xs : List V} (hp : ∀ xs u, G p ≠ some (.tup xs) ∧ G p ≠ some (.frz u (.tup xs))) (h : SqT K G a xs) : SqT K (upd G p o) a xs := by
  rcases h with h | h
  · refine .inl ?_
    rcases h with h | ⟨u, h⟩
    · exact .inl (by rw [upd_ne (fun z => (hp xs { cls := .none, data := .fields #[] }).1 (by rw [← z]; exact h))]; exact h)
    · exact .inr ⟨u, by rw [upd_ne (fun z => (hp xs u).2 (by rw [← z]; exact h))]; exact h⟩
  · exact .inr h
theorem sts_upd {K : PySem.W.Frag} {G : Hp} {p : Addr} {o : HO} (hp : ∀ xs u, G p ≠ some (.tup xs) ∧ G p ≠ some (.frz u (.tup xs))) : ∀ {vs : List V} {ss : List St5}, DpAll K G vs (ss.map stD) → DpAll K (upd G p o) vs (ss.map stD)
  | [], [], _ => .nil
  | v :: vs, s :: ss, h => by
    cases h with
    | cons h1 h2 =>
      obtain ⟨t, u, rfl, h3, h4⟩ := stD_inv h1
      exact .cons (stD_mk (sqt_upd2 hp h3) (sqt_upd2 hp h4)) (sts_upd hp h2)
  | [], _ :: _, h => by cases h
  | _ :: _, [], h => by cases h
theorem hid_up {H : Hp} {x : Addr} {o : HO} : Ex (hid x x H) (upd H x o) := fun z u h => by
  obtain ⟨h1, h2, _⟩ := hid_some h
  rw [upd_ne h2]
  exact h1
theorem hid_up2 {H H' : Hp} {x : Addr} {o : HO} (e : Ex (hid x x H) H') : Ex (hid x x H) (upd H' x o) := fun z u h => by
  rw [upd_ne (hid_some h).2.1]
  exact e _ _ h
section
variable {P : Program} {w : World} {K : PySem.W.Frag} {mg : Str → Option Value} {base : Heap}
/-- what Web is made of -/
def WbArg (K : PySem.W.Frag) (H : Hp) (v u : V) (BadP : Prop) (BadS : Nat → Prop) (Good : Int → List St5 → Prop) : Prop :=
  ((NotI K H v ∨ ∃ n, v = .int n ∧ n < 1) ∧ BadP) ∨ ∃ n, v = .int n ∧ 1 ≤ n ∧ StArg K n H u BadS (Good n)
theorem WbArg.ex {H H' : Hp} {v u : V} {B : Prop} {S : Nat → Prop} {G : Int → List St5 → Prop} (h : WbArg K H v u B S G) (e : Ex H H') : WbArg K H' v u B S G :=
  h.imp (fun z => ⟨z.1.imp (fun y => y.ex e) id, z.2⟩) (fun ⟨n, z1, z2, z3⟩ => ⟨n, z1, z2, z3.ex e⟩)
theorem WbArg.imp {H : Hp} {v u : V} {B B' : Prop} {S S' : Nat → Prop} {G G' : Int → List St5 → Prop} (h : WbArg K H v u B S G) (hb : B → B') (hs : ∀ i, S i → S' i) (hg : ∀ n ss, G n ss → G' n ss) : WbArg K H v u B' S' G' :=
  Or.imp (fun z => ⟨z.1, hb z.2⟩) (fun ⟨n, z1, z2, z3⟩ => ⟨n, z1, z2, z3.imp hs (hg n)⟩) h
def spWebInit (K : PySem.W.Frag) (C CP CS : Addr) : Sp := fun vs H Q E => ∃ (x dx : Addr) (v u : V), vs = [.ref x, v, u] ∧ H x = some (.ins C dx []) ∧
  WbArg K (hid x x H) v u (BadE CP "places" (hid x x H) v E) (fun i => BadE CS "index" (hid x x H) (.int (i : Nat)) E)
    (fun n ss => ∀ (H' : Hp) (ts : List St5) (dy l kd : Addr) (ys : List V), Ex (hid x x H) H' → H' x = some (.ins C dy (wf n l kd)) → H l = none → H' l = some (.lst ys) → DpAll K H' ys (ts.map stD) → ts.Perm ss → SrS ts → Q .non H')
theorem scWebInit : FnScope ["self", "places", "steps"] ["self", "places", "steps"] (defScope sWebInit) := ⟨rfl, rfl, rfl, by decide +kernel, rfl, by decide +kernel, by decide +kernel⟩
theorem ok_webInit {f C CP CS fP fS fR : Addr} {fd fdP fdR : FuncData} (F : L2.Fun K "__init__" "Web.__init__" sWebInit f fd) (B : Bn mg) (T : WebTxt K mg C) (TP : ExT K mg "BadPlaces" "places" CP fP) (GP : FnOk P w K mg base CX0 1 fP fdP ["self", "places"] (spExI CP "places")) (bP : Binds K fdP ["self", "places"] [])
    (cI : C8.Cal P w K mg base 1 "is_integer" (spIsIntegerV K) []) (GR : FnOk P w K mg base (L2.CX P w) 4 fR fdR ["places", "things"] (spReadSteps K CS)) (mR : mg "read_steps" = some (.ref fR)) (kR : PySem.W.keepIn K (.ref fR) = true) (bR : Binds K fdR ["places", "things"] []) :
    FnOk P w K mg base (L2.CX P w) 5 f fd ["self", "places", "steps"] (spWebInit K C CP CS) := by
  refine F.okX scWebInit (fun vs H Q E h => ?_) (fun cdv A outer s H vs Q E hr h => ?_)
  · obtain ⟨x, dx, v, u, rfl, _⟩ := h
    rfl
  · obtain ⟨x, dx, v, u, rfl, hx, h⟩ := h
    refine ⟨_, pss_cons (ps_if (PW.pt (pw_or (pt_not (pt_val (C8.pe_c cI hr (by decide) (by rfl) (pa_cons (pv 1) pa_nil)))) (pw_or1 (pt_cmpR op_lt (pv 1) pe_int (nomark _)))))
        (pss_one (ps_raise rfl (takes_of rfl rfl rfl rfl) (pmk_oex TP.ox TP.iC TP.tC GP (hr.mono (by decide)) bP .nil pass0 (by rfl) TP.gC (pa_cons (pv 1) pa_nil)))) pss_nil)
      (pss_cons (ps_fld (pv 0) (pv 1) rfl)
      (pss_cons (ps_fld (pv 0) (pe_callB (cr_sortSt hr) (by rfl) B.sorted boot_sorted (pa_cons (pe_callS (E := WE fun cls d _ H => E cls d H) GR (hr.mono (by decide)) (by rfl) mR kR bR (fun σ => passAt (takes_of rfl rfl rfl rfl) σ) (pa_cons (pv 1) (pa_cons (pv 2) pa_nil))) pa_nil)) rfl)
      (pss_one (ps_fld (pv 0) pe_dnewK rfl)))), ?_⟩
    rcases h with ⟨hb, kb⟩ | ⟨n, rfl, hn, hst⟩
    · have kb' := kb.ex (hid_ex (H := H))
      rcases hb with hni | ⟨n, rfl, hn⟩
      · refine ⟨_, rfl, v, rfl, .inl ⟨hni.ex hid_ex, ⟨_, rfl, iteT (iteT ?_)⟩⟩⟩
        exact ⟨_, rfl, by show 1 ≤ 1000; decide, raise_go kb'⟩
      · refine ⟨_, rfl, .int n, rfl, .inr ⟨n, rfl, ⟨_, rfl, iteF ?_⟩⟩⟩
        refine ⟨_, rfl, _, _, rfl, rfl, _, rfl, ?_⟩
        refine dec_ite (fun z => ?_) (fun z => ?_)
        · exact ⟨_, rfl, by show 1 ≤ 1000; decide, raise_go kb'⟩
        · omega
    refine ⟨_, rfl, .int n, rfl, .inr ⟨n, rfl, ⟨_, rfl, iteF ?_⟩⟩⟩
    refine ⟨_, rfl, _, _, rfl, rfl, _, rfl, ?_⟩
    refine dec_ite (fun z => ?_) (fun _ => ?_)
    · omega
    refine ⟨_, rfl, _, rfl, x, C, dx, _, rfl, hx, T.cl, T.nP, by show 0 < 1000; decide, ?_⟩
    refine ⟨_, rfl, _, rfl, n, u, rfl, (hst.ex hid_up).imp (fun i z => z.ex hid_up) (fun ss k H1 p ys e1 hp0 hp hys => ?_)⟩
    refine ⟨p, ys, ss, rfl, SqL.of hp, hys, fun zs ts l hz hts hD hso hl2 => ?_⟩
    have hx1 : H1 x = some (.ins C dx (putF "_places" (.int n) [])) := e1 _ _ upd_same
    have hxl : x ≠ l := ne_of_none hx1 hl2
    refine ⟨_, rfl, x, C, dx, _, rfl, by rw [upd_ne hxl]; exact hx1, T.cl, T.nS, by show 1 < 1000; decide, ?_⟩
    have hD1 := dpa_ex (Ex.new (o := .lst zs) hl2) _ _ hD
    have e1' : Ex (hid x x H) (upd H1 l (.lst zs)) := (hid_up.trans e1).trans (Ex.new hl2)
    have hx2 : upd H1 l (.lst zs) x = some (.ins C dx (putF "_places" (.int n) [])) := by
      rw [upd_ne hxl]
      exact hx1
    have hl3 : upd H1 l (.lst zs) l = some (.lst zs) := upd_same
    have l0 : H l = none := by
      have := fresh_back e1 hl2
      rw [upd_ne hxl.symm] at this
      exact this
    generalize upd H1 l (.lst zs) = G1 at *
    have hnt : ∀ (f : List (Str × V)) (G : Hp), G x = some (.ins C dx f) → ∀ (xs : List V) (u : Obj), G x ≠ some (.tup xs) ∧ G x ≠ some (.frz u (.tup xs)) := fun f G hG xs u => by
      rw [hG]
      exact ⟨(fun z => nomatch z), (fun z => nomatch z)⟩
    intro kd hkd
    have hkx : x ≠ kd := fun z => by
      rw [← z, upd_same] at hkd
      cases hkd
    have hkl : l ≠ kd := fun z => by
      rw [← z, upd_ne hxl.symm, hl3] at hkd
      cases hkd
    refine ⟨_, rfl, x, C, dx, _, rfl, by rw [upd_ne hkx]; exact upd_same, T.cl, T.nK, by show 2 < 1000; decide, ?_⟩
    refine k _ ts dx l kd zs (hid_up2 ((hid_up2 e1').trans (Ex.new hkd))) upd_same l0 ?_ ?_ hts hso
    · rw [upd_ne hxl.symm, upd_ne hkl, upd_ne hxl.symm]
      exact hl3
    · have hx3 : ∀ o : HO, upd (upd G1 x (.ins C dx (putF "_steps" (.ref l) (putF "_places" (.int n) [])))) kd o x = some (.ins C dx (putF "_steps" (.ref l) (putF "_places" (.int n) []))) := fun o => by
        rw [upd_ne hkx]
        exact upd_same
      exact sts_upd (hnt _ _ (hx3 _)) (dpa_ex (Ex.new hkd) _ _ (sts_upd (hnt _ _ hx2) hD1))
def spPlaces (K : PySem.W.Frag) (C : Addr) : Sp := fun vs H Q _ => ∃ (x : Addr) (n : Int) (ss : List St5), vs = [.ref x] ∧ WebAt K C H x n ss ∧ Q (.int n) H
theorem scPlaces : FnScope ["self"] ["self"] (defScope sWebPlaces) := ⟨rfl, rfl, rfl, by decide +kernel, rfl, by decide +kernel, by decide +kernel⟩
theorem ok_places {f C : Addr} {fd : FuncData} (F : L2.Fun K "places" "Web.places" sWebPlaces f fd) (T : WebTxt K mg C) : FnOk P w K mg base CX0 1 f fd ["self"] (spPlaces K C) := by
  refine F.ok scPlaces (fun vs H Q E h => ?_) (fun cdv A outer s H vs Q E hr h => ?_)
  · obtain ⟨x, n, ss, rfl, _⟩ := h
    rfl
  · obtain ⟨x, n, ss, rfl, ⟨dx, l, kd, ys, h1, h2, h3⟩, k⟩ := h
    exact ⟨_, pss_one (ps_ret (pe_fld (pv 0) rfl)), _, rfl, x, C, dx, _, _, rfl, h1, T.cl, T.nP, wf_places _ _ _, k⟩
def spSteps (K : PySem.W.Frag) (C : Addr) : Sp := fun vs H Q _ => ∃ (x : Addr) (n : Int) (ss : List St5), vs = [.ref x] ∧ WebAt K C H x n ss ∧ ∀ p ys, H p = none → DpAll K H ys (ss.map stD) → Q (.ref p) (upd H p (.lst ys))
theorem scSteps : FnScope ["self"] ["self"] (defScope sWebSteps) := ⟨rfl, rfl, rfl, by decide +kernel, rfl, by decide +kernel, by decide +kernel⟩
theorem ok_steps {f C : Addr} {fd : FuncData} (F : L2.Fun K "steps" "Web.steps" sWebSteps f fd) (B : Bn mg) (T : WebTxt K mg C) : FnOk P w K mg base CX0 1 f fd ["self"] (spSteps K C) := by
  refine F.ok scSteps (fun vs H Q E h => ?_) (fun cdv A outer s H vs Q E hr h => ?_)
  · obtain ⟨x, n, ss, rfl, _⟩ := h
    rfl
  · obtain ⟨x, n, ss, rfl, ⟨dx, l, kd, ys, h1, h2, h3⟩, k⟩ := h
    refine ⟨_, pss_one (ps_ret (pe_callTy call_list_of (by rfl) B.list boot_list (pa_cons (pe_fld (pv 0) rfl) pa_nil))), ?_⟩
    exact ⟨_, rfl, x, C, dx, _, _, rfl, h1, T.cl, T.nS, wf_steps _ _ _, l, ys, rfl, .inl (SqL.of h2), fun p hp => k p ys hp h3⟩
/-- webs beside one another -/
theorem sts_eqv : ∀ ss ts : List St5, PyData.eqvAll (ss.map stD) (ts.map stD) = decide (ss = ts)
  | [], [] => rfl
  | [], _ :: _ => rfl
  | _ :: _, [] => rfl
  | s :: r, t :: q => by
    show (PyData.eqv (stD s) (stD t) && PyData.eqvAll (r.map stD) (q.map stD)) = decide (s :: r = t :: q)
    rw [stD_eqv, sts_eqv r q, Bool.eq_iff_iff]
    simp
def spEqV (K : PySem.W.Frag) (C : Addr) : Sp := fun vs H Q _ => ∃ (x : Addr) (v : V) (n : Int) (ss : List St5), vs = [.ref x, v] ∧ WebAt K C H x n ss ∧
  ((∃ t : Value, TyF K H v t ∧ PySem.W.kitOne K t (.ref C) = some false ∧ Q (.bl false) H) ∨ ∃ (y : Addr) (m : Int) (ts : List St5), v = .ref y ∧ WebAt K C H y m ts ∧ ∀ H', Ext H H' → Q (.bl (decide (n = m) && decide (ss = ts))) H')
theorem scWebEq : FnScope ["self", "other"] ["self", "other"] (defScope sWebEq) := ⟨rfl, rfl, rfl, by decide +kernel, rfl, by decide +kernel, by decide +kernel⟩
theorem ok_webEqV {f C : Addr} {fd : FuncData} (F : L2.Fun K "__eq__" "Web.__eq__" sWebEq f fd) (B : Bn mg) (T : WebTxt K mg C) (IC : InsK K C) (hC : PySem.W.kitOne K (.ref C) (.ref C) = some true) : FnOk P w K mg base CX0 1 f fd ["self", "other"] (spEqV K C) := by
  refine F.ok scWebEq (fun vs H Q E h => ?_) (fun cdv A outer s H vs Q E hr h => ?_)
  · obtain ⟨x, v, n, ss, rfl, _⟩ := h
    rfl
  · obtain ⟨x, v, n, ss, rfl, ⟨dx, l, kd, ys, h1, h2, h3⟩, h⟩ := h
    refine ⟨_, pss_one (ps_ret (pe_and (pe_callB call_is1 (by rfl) B.isinstance boot_isinstance (pa_cons (pv 1) (pa_cons (pe_glob (v := .ref C) (by rfl) T.mgC rfl) pa_nil)))
      (pe_and (pe_cmpR op_eq (pe_fld (pv 0) rfl) (pe_fld (pv 1) rfl) (nomark _)) (pe_one (pe_cmpR (op_eqD hr.units) (pe_fld (pv 0) rfl) (pe_fld (pv 1) rfl) (nomark _)))))), ?_⟩
    rcases h with ⟨t, ht, hk, k⟩ | ⟨y, m, ts, rfl, ⟨dy, l2, kd2, ys2, g1, g2, g3⟩, k⟩
    · exact ⟨_, rfl, v, _, t, .ref C, false, rfl, .own C, ht, hk, false, rfl, iteF k⟩
    · refine ⟨_, rfl, .ref y, _, .ref C, .ref C, true, rfl, .own C, .inl (.base (.ins g1 IC.cl IC.ha IC.hn IC.ht IC.hm)), hC, true, rfl, ?_⟩
      refine iteT ?_
      refine ⟨_, rfl, x, C, dx, _, _, rfl, h1, T.cl, T.nP, wf_places _ _ _, _, rfl, y, C, dy, _, _, rfl, g1, T.cl, T.nP, wf_places _ _ _, rfl, _, rfl, ?_⟩
      have k0 := k H Ext.rfl'
      by_cases hnm : n = m
      · rw [decide_eq_true hnm] at k0
        rw [decide_eq_true (by rw [hnm])]
        refine iteT ?_
        refine ⟨_, rfl, x, C, dx, _, _, rfl, h1, T.cl, T.nS, wf_steps _ _ _, _, rfl, y, C, dy, _, _, rfl, g1, T.cl, T.nS, wf_steps _ _ _, ?_⟩
        have hD : Dp K H (.ref l) (.list (ss.map stD)) := .lst (SqL.of h2) h3
        have hD2 : Dp K H (.ref l2) (.list (ts.map stD)) := .lst (SqL.of g2) g3
        refine ⟨_, _, hD, hD2, stDs_shaped ss, stDs_shaped ts, ?_⟩
        rw [show PyData.eqv (.list (ss.map stD)) (.list (ts.map stD)) = decide (ss = ts) from sts_eqv ss ts]
        exact k0
      · rw [decide_eq_false hnm] at k0
        rw [decide_eq_false (fun z => hnm (V.int.inj z))]
        exact iteF k0
end
end AA

set_option Elab.async false
set_option linter.all false
set_option maxRecDepth 100000
set_option maxHeartbeats 4000000
/-! An own class's == and != with a thing of any kind. -/
namespace AA
open PySem PySem.Spec PyProof.Rows L2 Evl
/-- the type of a thing -/
inductive Ty6 (H : Hp) : V → Value → Prop
  | non : Ty6 H .non (.type "NoneType")
  | int (i : Int) : Ty6 H (.int i) (.type "int")
  | str (x : Str) : Ty6 H (.str x) (.type "str")
  | lst {a : Addr} {xs : List V} (e : H a = some (.lst xs)) : Ty6 H (.ref a) (.type "list")
  | tup {a : Addr} {xs : List V} (e : H a = some (.tup xs)) : Ty6 H (.ref a) (.type "tuple")
  | dK {a : Addr} (e : H a = some (.dK [])) : Ty6 H (.ref a) (.type "dict")
  | ins {a C dx : Addr} {fs : List (Str × V)} (e : H a = some (.ins C dx fs)) : Ty6 H (.ref a) (.ref C)
theorem Ty6.ex {H H' : Hp} {v : V} {t : Value} (e : Ex H H') (h : Ty6 H v t) : Ty6 H' v t := by
  cases h with
  | non => exact .non
  | int i => exact .int i
  | str x => exact .str x
  | lst h => exact .lst (e _ _ h)
  | tup h => exact .tup (e _ _ h)
  | dK h => exact .dK (e _ _ h)
  | ins h => exact .ins (e _ _ h)
section
variable {X : Cx} {pins : List (Addr × Obj)} {σ : L2.St} {H : Hp} {s : Shared}
theorem ty6_looks {M : Model} {x : V} {u T : Value} (I : Inv X pins σ H s) (r : RelV x u) (t : Ty6 H x T) : PySem.W.Looks M s.heap (typeOf u) T := by
  cases t with
  | non =>
    cases (show u = Value.none from r)
    exact PySem.W.Looks.of_pure rfl
  | int i =>
    obtain ⟨t, rfl⟩ := (show ∃ t, u = Value.int i t from r)
    exact PySem.W.Looks.of_pure rfl
  | str x =>
    obtain ⟨t, rfl⟩ := (show ∃ t, u = Value.str x t from r)
    exact PySem.W.Looks.of_pure rfl
  | lst e =>
    cases (show u = Value.ref _ from r)
    obtain ⟨_, its, n, _, h1⟩ := (show ObjOk X.prog X.w H s.heap _ (.lst _) from I.hok _ _ e)
    exact fun A Q E s' k q => wpAny_typeOf_ref (k _ _ h1) q
  | tup e =>
    cases (show u = Value.ref _ from r)
    obtain ⟨_, its, _, ob, h1, h2, _⟩ := (show ObjOk X.prog X.w H s.heap _ (.tup _) from I.hok _ _ e)
    exact fun A Q E s' k q => wpAny_typeOf_ref (k _ _ h1) (by rw [h2]; exact q)
  | dK e =>
    cases (show u = Value.ref _ from r)
    obtain ⟨_, _, vs, _, o, es, ep, h1, h2, _⟩ := (show ObjOk X.prog X.w H s.heap _ (.dK []) from I.hok _ _ e)
    exact fun A Q E s' k q => wpAny_typeOf_ref (k _ _ h1) (by rw [h2.1]; exact q)
  | ins e =>
    cases (show u = Value.ref _ from r)
    obtain ⟨mA, J, _⟩ := ins_get I.hok e
    obtain ⟨od, J, _⟩ := J.look
    exact J.type
end
section
variable {prog : Program} {w : World} {A : Around} {E : Value → Shared → Prop} {s : Shared} {K : PySem.W.Frag} {x C f : Addr} {ox : Obj} {od : Option Obj}
theorem ifBoundB {M : Model} {name : Str} {id : String} {args : List Value} {Q : Option Value → Shared → Prop} (X : K.In s.heap) (I : PySem.W.InstAt s.heap x ox C od) (hs : PySem.W.findIn K (.ref C) name = some (some (.builtin id)))
    (hb : ∀ v, bindSpecial (.builtin id) v = pure (.builtin id, [v])) (h : wpAny M A (call (.builtin id) (.ref x :: args)) (fun v => Q (some v)) E s) : wpAny M A (callSpecialIfBound? (.ref x) name args) Q E s := by
  simp only [callSpecialIfBound?, bindSpecialIfBound?]
  refine wpAny_holding (wpAny_bind (wpAny_bind (wpAny_bind (I.type.here ((PySem.W.looks_findIn X hs).here ?_)))))
  refine wpAny_bind (wpAny_askSetting (wpAny_ite ?_))
  have fin : wpAny M A (call (.builtin id) ([.ref x] ++ args) >>= fun v => pure (some v)) Q E s := wpAny_bind (wpAny_mono h (fun v s' h' => wpAny_pure h') fun _ _ h' => h')
  split
  · exact wpAny_bind ((PySem.W.Looks.of_pure (hb _)).here (wpAny_pure (by exact fin)))
  · exact wpAny_tryCatch (wpAny_bind ((PySem.W.Looks.of_pure (hb _)).here (wpAny_pure (by exact fin))))
theorem ne_entry {b : Value} {Q : Fin → Shared → Prop} (X : K.In s.heap) (I : PySem.W.InstAt s.heap x ox C od) (hs : PySem.W.findIn K (.ref C) "__eq__" = some (some (.ref f))) (hf : PySem.W.isFn K (.ref f) = true) (hu : A.units < cLine)
    (hcall : wpAny (model prog w) A (call (.ref f) [.ref x, b]) (fun v s' => ∃ r, v = .bool r ∧ Q (.done (.ret (.bool (!r)))) s') E s) :
    wpAny (model prog w) A (Builtin.«object.__ne__» ⟨[.ref x, b], []⟩) Q E s := by
  unfold Builtin.«object.__ne__»
  repeat (first
    | with_reducible refine wpAny_cRoomFor hu ?_
    | (refine wpAny_bind (m := callSpecialIfBound? (.ref x) (Str.ofString "__eq__") [b])
        (PySem.W.ifBound_K X I hs hf (wpAny_mono hcall (fun v s' hr => by
          obtain ⟨r, rfl, hq⟩ := hr
          repeat (first | exact hq | exact wpAny_pure hq | exact wpAny_truthy_bool hq | (refine wpAny_bind (m := truthy (.bool _)) (wpAny_truthy_bool ?_)) | wp_step)) fun _ _ e => e)))
    | wp_step)
theorem ne_bind (v : Value) : bindSpecial (.builtin "object.__ne__") v = pure (.builtin "object.__ne__", [v]) := F.cmp_object.ne.bind v
/-- x != b where x's class has an own == -/
theorem cmpNe_K {h₀ : Heap} {L : Addr} {m : Str → Option Value} {b tb : Value} {Q : Value → Shared → Prop} (hu : A.units + 1 < cLine) (F : Fr h₀ L s.heap m) (X₀ : K.In h₀) (I : PySem.W.InstAt s.heap x ox C od) (hb : PySem.W.Looks (model prog w) s.heap (typeOf b) tb) (hn : PySem.W.notFirst K C tb = true)
    (hne : PySem.W.findIn K (.ref C) "__ne__" = some (some (.builtin "object.__ne__"))) (hs : PySem.W.findIn K (.ref C) "__eq__" = some (some (.ref f))) (hf : PySem.W.isFn K (.ref f) = true) (hm : PySem.W.mroIn K C (.type "object") = some true)
    (h : wpAny (model prog w) A.in1 (call (.ref f) [.ref x, b]) (fun v s' => ∃ r, v = .bool r ∧ Q (.bool (!r)) s') E s) : wpAny (model prog w) A (richCompare .NotEq (.ref x) b) Q E s := by
  have X := X₀.keeps F.keep
  have sub : PySem.W.Looks (model prog w) s.heap (isInstance (.ref x) (.type "object")) true := I.type.andThen (PySem.W.looks_mroIn X hm)
  have one : wpAny (model prog w) A (tryCompare (.ref x) (cmpInfo .NotEq).2.1 b) (fun r s' => ∃ v, r = some v ∧ Q v s') E s := by
    unfold tryCompare
    refine wpAny_bind (ifBoundB X I hne ne_bind (wpAny_call (codeAny_call_builtin PySem.F.cmp_object.ne.plain PySem.F.cmpEntry_ne
      (PySem.W.check_slot PySem.F.cmpKind_ne PySem.F.cmpSplit_ne sub (PySem.F.cmpArgs_ne _ _) (ne_entry (A := A.in1) X I hs hf hu (wpAny_mono h (fun v s' hv => ?_) fun _ _ e => e))))))
    obtain ⟨r, rfl, hq⟩ := hv
    first | exact ⟨r, rfl, wpAny_pure ⟨_, rfl, hq⟩⟩ | exact ⟨r, rfl, wpAny_pure (wpAny_pure ⟨_, rfl, hq⟩)⟩ | exact ⟨r, rfl, ⟨_, rfl, hq⟩⟩
  unfold richCompare
  simp only [oneThing_ref]
  refine wpAny_holding (wpAny_bind (wpAny_cRoomFor (Nat.lt_of_succ_lt hu) ?_))
  refine wpAny_bind (I.type.here (wpAny_bind (hb.here ?_)))
  split
  · rename_i q
    have e : PySem.W.subIn K tb (.ref C) = some false := by
      rcases Bool.or_eq_true_iff.mp hn with e | e
      · rw [beq_iff_eq.mp e] at q; simp at q
      · exact beq_iff_eq.mp e
    refine wpAny_bind ((PySem.W.looks_subIn X e).here ?_)
    simp only [Bool.false_eq_true, if_false]
    refine wpAny_bind (wpAny_mono one (fun r s' z => ?_) fun _ _ e => e)
    obtain ⟨v, rfl, hq⟩ := z
    exact wpAny_pure hq
  · refine wpAny_bind (wpAny_pure ?_)
    simp only [Bool.false_eq_true, if_false]
    refine wpAny_bind (wpAny_mono one (fun r s' z => ?_) fun _ _ e => e)
    obtain ⟨v, rfl, hq⟩ := z
    exact wpAny_pure hq
end
section
variable {X : Cx} {n : Nat} {C f : Addr} {fd : FuncData} {ps : List Str} {sp : Sp}
/-- x == y, x != y where x is an instance of C, whose own == keeps sp -/
def rCmpV (K : PySem.W.Frag) (C : Addr) (sp : Sp) (ng : Bool) : R2 := fun x y H Q => ∃ (a dx : Addr) (fs : List (Str × V)) (T : Value), x = .ref a ∧ H a = some (.ins C dx fs) ∧ Ty6 H y T ∧ PySem.W.notFirst K C T = true ∧ sp [x, y] H (fun v H' => ∃ r, v = .bl r ∧ Q (.bl (r ^^ ng)) H') E0
theorem run_eqV (F : FnOk X.prog X.w X.K X.mg X.base CX0 n f fd ps sp) (hb : Binds X.K fd ps []) {A : Around} {pins : List (Addr × Obj)} {s : Shared} {σ : L2.St} {H : Hp} {a : Addr} {y : V} {u : Value} {Q : Bool → Hp → Prop} (sb : Sub X n A) (I : Inv X pins σ H s) (ry : RelV y u)
    (hsp : sp [.ref a, y] H (fun v H' => ∃ r, v = .bl r ∧ Q r H') E0) : wpAny (model X.prog X.w) A (call (.ref f) [.ref a, u]) (fun v s' => ∃ r, v = .bool r ∧ ∃ H', Inv X pins σ H' s' ∧ Q r H') X.xe s := by
  have e0 : Env0 X.prog X.w X.K X.mg X.base A X.stack s H := by
    have e := I.env0
    exact ⟨by rw [sb.fr]; exact e.frames, e.mod, e.bs, e.bsz, e.funs, e.frf, e.hok, e.bare⟩
  have hl := F.len _ _ _ _ hsp
  have r2 : Vals [V.ref a, y] [Value.ref a, u] := .cons rfl (.cons ry .nil)
  refine wpAny_call (codeAny_mono (F.run A X.stack s H ⟨[.ref a, u], []⟩ [.ref a, u] [.ref a, y] _ E0 sb.room e0 (by
    have := hb s [.ref a, u] I.kIn (by simpa using hl)
    simpa using this) r2 hsp) fun r s' hq => ?_)
  cases r with
  | error e => exact (show False from hq).elim
  | ok fl =>
    cases fl with
    | ret w =>
      obtain ⟨z, H', I', rz, r, ez, ex⟩ := I.after hq
      subst ez
      cases rz
      exact ⟨r, rfl, H', I', ex⟩
    | next => exact False.elim hq
    | brk => exact False.elim hq
    | cont => exact False.elim hq
theorem op_eqV (F : FnOk X.prog X.w X.K X.mg X.base CX0 n f fd ps sp) (hb : Binds X.K fd ps []) (hs : PySem.W.findIn X.K (.ref C) "__eq__" = some (some (.ref f))) (hf : PySem.W.isFn X.K (.ref f) = true) (hr : Room n X.A) : OpR X (compareOp .Eq) (rCmpV X.K C sp false) := by
  intro pins s σ H x y v u Q I rx ry hq
  obtain ⟨a, dx, fs, T, rfl, ha, hT, hn, hsp⟩ := hq
  cases (show v = Value.ref a from rx)
  obtain ⟨mA, J, _⟩ := ins_get I.hok ha
  obtain ⟨od, J, _⟩ := J.look
  obtain ⟨m, hF⟩ := I.fr
  have sb : Sub X n X.A := ⟨hr, rfl⟩
  show wpAny (model X.prog X.w) X.A (richCompare .Eq (.ref a) u) (EP X pins σ Q) X.xe s
  refine PySem.W.cmp_K (op := .Eq) (tb := T) sb.room.units0 hF I.ok.mod.kin J (ty6_looks I ry hT) hn hs hf ?_
  refine wpAny_mono (run_eqV F hb sb I ry (Q := fun r H' => Q (.bl (r ^^ false)) H') hsp) (fun v s' hv => ?_) fun _ _ e => e
  obtain ⟨r, rfl, H', I', q⟩ := hv
  rw [Bool.xor_false] at q
  exact ⟨.bl r, H', I', rfl, q⟩
theorem op_neV (F : FnOk X.prog X.w X.K X.mg X.base CX0 n f fd ps sp) (hb : Binds X.K fd ps []) (hs : PySem.W.findIn X.K (.ref C) "__eq__" = some (some (.ref f))) (hf : PySem.W.isFn X.K (.ref f) = true)
    (hne : PySem.W.findIn X.K (.ref C) "__ne__" = some (some (.builtin "object.__ne__"))) (hm : PySem.W.mroIn X.K C (.type "object") = some true) (hr : Room (n + 1) X.A) : OpR X (compareOp .NotEq) (rCmpV X.K C sp true) := by
  intro pins s σ H x y v u Q I rx ry hq
  obtain ⟨a, dx, fs, T, rfl, ha, hT, hn, hsp⟩ := hq
  cases (show v = Value.ref a from rx)
  obtain ⟨mA, J, _⟩ := ins_get I.hok ha
  obtain ⟨od, J, _⟩ := J.look
  obtain ⟨m, hF⟩ := I.fr
  have sb : Sub X (n + 1) X.A := ⟨hr, rfl⟩
  have hun := hr.un
  show wpAny (model X.prog X.w) X.A (richCompare .NotEq (.ref a) u) (EP X pins σ Q) X.xe s
  refine cmpNe_K (tb := T) (by omega) hF I.ok.mod.kin J (ty6_looks I ry hT) hn hne hs hf hm ?_
  refine wpAny_mono (run_eqV F hb sb.in1 I ry (Q := fun r H' => Q (.bl (r ^^ true)) H') hsp) (fun v s' hv => ?_) fun _ _ e => e
  obtain ⟨r, rfl, H', I', q⟩ := hv
  rw [Bool.xor_true] at q
  exact ⟨r, rfl, .bl (!r), H', I', rfl, q⟩
end
end AA

set_option Elab.async false
set_option linter.all false
set_option maxRecDepth 100000
set_option maxHeartbeats 4000000
/-! try with several clauses, each 'as' the same name. -/
namespace AA
open PySem PySem.Spec PyProof.Rows L2
/-- behind a clause its name is gone -/
def clr (i : Nat) (D : Ends) : Ends := ⟨fun τ G => D.nx (τ.set i none) G, D.rt, fun τ G => D.bk (τ.set i none) G, fun τ G => D.ct (τ.set i none) G⟩
abbrev Cl := Value × (Addr → Value → Option Addr → TS)
/-- what the clauses wish, one after the other; slot i is the name's -/
def wAll (K : PySem.W.Frag) (i : Nat) (Wo : WX) (D : Ends) : List Cl → WX
  | [] => Wo
  | p :: r => fun cv dv τ G => ∃ hit, PySem.W.exmOne K cv p.1 = some hit ∧ (hit = true → ∀ ea, G ea = none → p.2 ea cv dv (clr i D) (τ.set i (some (.ref ea))) G) ∧ (hit = false → wAll K i Wo D r cv dv τ G)
inductive ClsOk (X : Cx) (nm : Str) : List ExceptHandler → List Cl → Prop
  | nil : ClsOk X nm [] []
  | cons {cn : Str} {cv : Value} {ts : Addr → Value → Option Addr → TS} {st : Stmt} {sts : List Stmt} {p1 p2 : Pos} {hs : List ExceptHandler} {l : List Cl} (nc : Names X cn cv)
      (su : ∀ (ea : Addr) (eo : Obj) (tv : Value) (dv : Option Addr) (pn : List (Addr × Obj)), Zc tv dv eo → (∃ vs, eo.data = .fields vs) → PSs (X.suite ea ((ea, eo) :: pn)) (st :: sts) (ts ea tv dv)) (more : ClsOk X nm hs l) :
      ClsOk X nm (.ExceptHandler (some (.Name cn p1)) (some nm) (st :: sts) p2 :: hs) ((cv, ts) :: l)
section
variable {X : Cx} {nm : Str} {i : Nat} {body : List Stmt} {h1 : ExceptHandler} {hr : List ExceptHandler} {l : List Cl} {pos : Pos} {tb : WX → TS} {Wo : WX}
theorem ps_tryAs (stk : X.stack = X.env :: X.outer) (frm : X.env.frame = some X.env.locals) (nod : X.N.Nodup) (at_ : X.N[i]? = some nm) (loc : X.env.kindOf nm = some .local) (tk : Takes X Wo)
    (bd : ∀ (W : WX) (pn : List (Addr × Obj)) (xe : Value → Shared → Prop), Takes (X.tr pn xe) W → PassesOwn (model X.prog X.w) X.A X.env xe → PSs (X.tr pn xe) body (tb W))
    (cs : ClsOk X nm (h1 :: hr) l) : PS X (.Try body (h1 :: hr) [] [] pos) (fun D τ G => tb (wAll X.K i Wo D l) D τ G) := by
  refine ⟨fun pins s τ G D I hh => ?_⟩
  have okX := I.ok
  have frs_ : X.A.frames = some (X.env :: X.outer) := okX.frames.trans (congrArg some stk)
  refine wpAny_Try_except (wpAny_mono ((bd (wAll X.K i Wo D l) (X.pn ++ pins) (fun e q1 => wpAny (model X.prog X.w) X.A (noteFrame e X.env) (fun _ q2 => wpAny (model X.prog X.w) X.A (setFlight e none) (fun _ q3 =>
    wpAny (model X.prog X.w) X.A (handleBy e X.env (h1 :: hr)) (SP X pins D) X.xe q3) X.xe q2) X.xe q1) (fun u z xx => ?catchIt) PassesOwn.looking).run [] s τ G D (I.toTry _) hh) (fun f z hz => ?through) (fun e z hz => hz))
  case through =>
    cases f with
    | next => exact let ⟨τ1, G1, J1, q⟩ := hz; wpAny_execs_nil ⟨τ1, G1, J1.ofTry okX, q⟩
    | brk => exact let ⟨τ1, G1, J1, q⟩ := hz; ⟨τ1, G1, J1.ofTry okX, q⟩
    | cont => exact let ⟨τ1, G1, J1, q⟩ := hz; ⟨τ1, G1, J1.ofTry okX, q⟩
    | ret v => exact let ⟨w1, τ1, G1, J1, r1, q⟩ := hz; ⟨w1, τ1, G1, J1.ofTry okX, r1, q⟩
  case catchIt =>
    obtain ⟨ea, gB, sJ, pinJ, τ1, G1, tv, dv, rfl, J0, nbl, upw, sky, fre, oss, agr, want⟩ := xx
    have J : Inv X pins τ1 G1 sJ := J0.ofTry okX
    have sky1 : Sky gB (X.env :: X.outer) ea (Zc tv dv) X.env.locals z.heap := stk ▸ sky
    show wpAny (model X.prog X.w) X.A (noteFrame (.ref ea) X.env) _ _ _
    refine Sky.land Zc.steady frs_ frm sky1 fun k3 fly3 up3 => ?_
    have J3 : Inv X pins τ1 G1 { z with heap := k3 } := J.landed nbl fly3.1 (upw.trans up3) oss agr
    obtain ⟨o3, v3, e3, z3, d3⟩ := fly3.there
    have nfr : ea ∉ frs (X.env :: X.outer) := fun hm => by
      obtain ⟨_, o', e', hnf⟩ := fly3.2.2.1.mem hm
      exact hnf _ ((Option.some.inj (e'.symm.trans e3)) ▸ d3)
    have nL : ea ≠ X.env.locals := fun q => nfr (List.mem_filterMap.mpr ⟨X.env, List.mem_cons_self, frm.trans (congrArg some q.symm)⟩)
    have nF : ea ∉ X.fs := fun hm => by
      obtain ⟨e, he, q⟩ := List.mem_filterMap.mp hm
      exact nfr (List.mem_filterMap.mpr ⟨e, List.mem_cons_of_mem _ he, q⟩)
    have S3 := J3.suite e3 d3 fre nL nF
    suffices go : ∀ {hs' : List ExceptHandler} {l' : List Cl}, ClsOk X nm hs' l' → wAll X.K i Wo D l' tv dv τ1 G1 → wpAny (model X.prog X.w) X.A (handleBy (.ref ea) X.env hs') (SP X pins D) X.xe { z with heap := k3 } from go cs want
    intro hs' l' ck
    induction ck with
    | nil =>
      intro wo
      refine wpAny_handleBy_nil ?_
      obtain ⟨_, _, _, o4, v4, T4, _, _, e4, _, d4, p4, _⟩ := id fly3
      unfold PySem.passOn
      refine wpAny_bind (wpAny_field e4 d4 p4 ?_)
      rw [if_neg (show ¬ ((Value.ref T4 == Value.none) = true) from by simp)]
      have fin : wpAny (model X.prog X.w) X.A (setFlight (.ref ea) X.env.frame) (fun _ q => wpAny (model X.prog X.w) X.A (throw (.ref ea) : Sem Flow) (SP X pins D) X.xe q) X.xe { z with heap := k3 } := by
        rw [frm]
        exact HandSPX.setFlight_upZ fly3 fun k5 held5 up5 => wpAny_throw (tk _ _ ⟨ea, gB, sJ, pins, τ1, G1, tv, dv, rfl, J, nbl, (upw.trans up3).trans up5, .inr (.inr (stk ▸ held5)), fre, oss, agr, wo⟩)
      first
        | exact wpAny_bind (wpAny_pure (wpAny_bind fin))
        | exact wpAny_bind fin
    | @cons cn cv ts st sts p1 p2 hs2 l2 nc su more ih =>
      rintro ⟨hit, hx, yes, no⟩
      refine wpAny_handleBy_cons (codeAny_handlers_test ?_) (by intro q; cases q)
      have LT : PySem.W.Looks (model X.prog X.w) k3 (typeOf (.ref ea)) tv := fun A Q E s k q => wpAny_typeOf_ref (k _ _ e3) (z3.1 ▸ q)
      have test : ∀ {Q : Value → Shared → Prop} {E : Value → Shared → Prop}, Q cv { z with heap := k3 } → wpAny (model X.prog X.w) (X.A.mark (some (.ref ea))) (eval (.Name cn p1) X.env) Q E { z with heap := k3 } := fun {Q E} q =>
        nc.2.2.elim (fun hm => ld_glob (X := X.suite ea ((ea, o3) :: (X.pn ++ pins))) S3 nc.1 hm q nc.2.1) (fun hm => ld_blt (X := X.suite ea ((ea, o3) :: (X.pn ++ pins))) S3 nc.1 hm.1 hm.2.1 q hm.2.2 nc.2.1)
      refine test ((PySem.W.exm_one (M := model X.prog X.w) J3.kIn LT hx).here ?_)
      cases hit with
      | false => exact ih (no rfl)
      | true =>
        refine codeAny_handlers_suite_as (HandSPX.lands_againZ fly3 fun k4 fly4 up4 => ?_)
        have J4 : Inv X pins τ1 G1 { z with heap := k4 } := J.landed nbl fly4.1 ((upw.trans up3).trans up4) oss agr
        obtain ⟨o4, v4, e4, z4, d4⟩ := fly4.there
        refine store_ok (X := X.suite ea ((ea, o4) :: (X.pn ++ pins))) (v := .ref ea) (J4.suite e4 d4 fre nL nF) nod at_ (.inl loc) rfl (fun q5 S5 => ?_) (.inr loc)
        refine wpAny_mono ((su ea o4 tv dv (X.pn ++ pins) z4 ⟨_, d4⟩).run [] q5 _ G1 _ S5 (yes rfl ea fre)) (fun f q6 h6 => ?_) (fun _ _ q => False.elim q)
        have end_ : ∀ {τ6 : L2.St} {G6 : Hp} {Q : Shared → Prop}, Inv (X.suite ea ((ea, o4) :: (X.pn ++ pins))) [] τ6 G6 q6 → (∀ q7, Inv X pins (τ6.set i none) G6 q7 → Q q7) →
            wpAny (model X.prog X.w) X.A (do bindName X.env nm .none; unbindBehindTheSuite X.env nm p2) (fun _ q7 => Q q7) X.xe q6 := fun S6 hq => gone_ok (S6.unsuite okX) nod at_ loc hq
        cases f with
        | next => exact let ⟨_, _, S6, h7⟩ := h6; end_ S6 fun q7 J7 => ⟨_, _, J7, h7⟩
        | brk => exact let ⟨_, _, S6, h7⟩ := h6; end_ S6 fun q7 J7 => ⟨_, _, J7, h7⟩
        | cont => exact let ⟨_, _, S6, h7⟩ := h6; end_ S6 fun q7 J7 => ⟨_, _, J7, h7⟩
        | ret u => exact let ⟨_, _, _, S6, r6, h7⟩ := h6; end_ S6 fun q7 J7 => ⟨_, _, _, J7, r6, h7⟩
end
end AA

set_option Elab.async false
set_option linter.all false
set_option maxRecDepth 100000
set_option maxHeartbeats 4000000
/-! xs[::-1]; name = {k: v for ..}; a walk over zip. -/
namespace AA
open PySem PySem.Spec PyProof.Rows L2 Evl
theorem vals_rev : ∀ {xs : List V} {us : List Value}, Vals xs us → Vals xs.reverse us.reverse
  | _, _, .nil => .nil
  | x :: xs, u :: us, .cons r t => by
    rw [List.reverse_cons, List.reverse_cons]
    exact (vals_rev t).append (.cons r .nil)
/-- xs[::-1] of a list -/
theorem pe_rev {X : Cx} {e st : Expr} {te ts : TE} {p2 pos : Pos} (he : PE X e te) (hst : PE X st ts) : PE X (.Subscript e (.Slice none none (some st) p2) pos)
    (fun σ H Q => te σ H fun x H1 => tPart ts σ H1 fun k H2 => k = some (-1) ∧ ∃ a xs, x = .ref a ∧ SqL X.K H2 a xs ∧ ∀ p, H2 p = none → Q (.ref p) (upd H2 p (.lst xs.reverse))) := by
  refine ⟨fun pins s σ H Q I h => ?_⟩
  refine Subscript_ (thn (he.run pins s σ H _ I h) fun v s1 ⟨x, H1, I1, r1, q1⟩ => ?_)
  refine wpAny_Slice (thn ((po_none (X := X)).run pins s1 σ H1 (fun l G => l = none ∧ tPart ts σ G fun k H2 => k = some (-1) ∧ ∃ a xs, x = .ref a ∧ SqL X.K H2 a xs ∧ ∀ p, H2 p = none → Q (.ref p) (upd H2 p (.lst xs.reverse))) I1 ⟨rfl, q1⟩) fun vl s2 ⟨l, H2, I2, pl, el, q2⟩ => thn ((po_none (X := X)).run pins s2 σ H2 (fun l G => l = none ∧ tPart ts σ G fun k H2 => k = some (-1) ∧ ∃ a xs, x = .ref a ∧ SqL X.K H2 a xs ∧ ∀ p, H2 p = none → Q (.ref p) (upd H2 p (.lst xs.reverse))) I2 ⟨rfl, q2⟩) fun vu s3 ⟨u, H3, I3, pu, eu, q3⟩ => thn ((po_some hst).run pins s3 σ H3 _ I3 q3) fun vk s4 ⟨k, H4, I4, pk, ek, q4⟩ => ?_)
  subst el eu ek
  obtain ⟨a, xs, rfl, hx, q⟩ := q4
  cases r1
  have I5 : Inv X pins σ H4 { s4 with heap := s4.heap.push { cls := .type "slice", data := .fields #[vl, vu, vk] } } := I4.kept (t' := s4.toks) fun b ob q => Heap.get?_push_of_some _ q
  obtain ⟨its, r, ht, hz⟩ := I5.list hx
  have hlen := r.length
  refine tail_any (ops := [.ref a, .ref s4.heap.objs.size]) ht.isList.typeIs slot_list_getitem.lookup ?_ (by with_unfolding_all rfl)
  refine wpAny_getItem_list_slice ht.isList (Heap.IsSliceOf.new ..) pl pu pk (by simp) ?_ (by rw [List.size_toArray] <;> omega)
  rw [PySem.W.krv_pick]
  refine ⟨.ref _, _, I5.laid (o := .lst xs.reverse) (fun b ob q => Heap.get?_push_of_some _ q) (Nat.le_refl _) ?_, rfl, q _ (I5.hok.fresh (Nat.le_refl _))⟩
  exact ⟨by rw [List.length_reverse]; exact hz, _, 0, vals_rev r, Heap.get?_push_size _ rfl⟩
theorem sw_trueD {k v : Expr} {gs : List Comprehension} {scope : Scope} {pos py : Pos} {y : Str} {l : Nat} {env : Env} (hk : env.scope.kind = .function) (hy : env.scope.names.lookup y = some .local) (hl : (py.line == pos.line) = true)
    (ha : (scope.names.any fun (n, k) => n == y && (k == .local || k == .cell)) = false) : swapsWith (.DictComp k v gs scope pos) (some (.Name y py)) l env = pure true := by
  have ky : env.kindOf y = some .local := hy
  have hb : env.blockKind = .function := by
    unfold Env.blockKind
    rw [hk]
    rfl
  unfold swapsWith
  simp only [hb, ky, ha, Expr.pos, hl]
  rfl
theorem ps_setDc {X : Cx} {i : Nat} {y : Str} {py : Pos} {kx vx tg iter : Expr} {ifs : List Expr} {scope : Scope} {own : List (Str × Nat)} {pos spos : Pos} {wi : TI} {g : TG} {tt : TT} {tk tv : TE} (hc : X.calm = true) (hN : X.N.Nodup) (hy : X.N[i]? = some y) (hyl : X.env.scope.names.lookup y = some .local)
    (hsw : swapsWith (.DictComp kx vx [⟨tg, iter, ifs, 0⟩] scope pos) (some (.Name y py)) spos.line X.env = pure true) (hi : PI X tg iter wi) (ok : BlkOk X.N X.env.scope scope own)
    (hg : ∀ (s : Shared) (H : Hp) (C : Addr) (cl : List (Str × Addr)) (fp : List Addr), PG (X.blk s H scope (compEnvC scope cl C X.env) fp) tg g) (ht : ∀ (s : Shared) (H : Hp) (C : Addr) (cl : List (Str × Addr)) (fp : List Addr), PTs (X.blk s H scope (compEnvC scope cl C X.env) fp) ifs tt)
    (hk : ∀ (s : Shared) (H : Hp) (C : Addr) (cl : List (Str × Addr)) (fp : List Addr), PE (X.blk s H scope (compEnvC scope cl C X.env) fp) kx tk)
    (he : ∀ (s : Shared) (H : Hp) (C : Addr) (cl : List (Str × Addr)) (fp : List Addr), PE (X.blk s H scope (compEnvC scope cl C X.env) fp) vx tv) (hs : ∀ x, foldedSetIterable iter X.env x = pure x := by intro _; rfl) :
    PS X (.Assign [.Name y py] (.DictComp kx vx [⟨tg, iter, ifs, 0⟩] scope pos) spos) (tAsg (tDc wi g tt tk tv (own.map (·.2))) (gName i)) := ⟨fun pins t σ G D I h => by
  rw [exec_Assign_Name_used _ _ _ _ hsw]
  refine wpAny_bind (wpAny_standAt (wpAny_bind ?_))
  show wpAny _ X.A (do let _ ← comprehension (.DictComp kx vx [⟨tg, iter, ifs, 0⟩] scope pos) scope X.env (firstIterPos [⟨tg, iter, ifs, 0⟩] pos) newDict false (eval iter X.env) (some (assign (.Name y py) X.env))) _ _ t
  have h : tDc wi g tt tk tv (own.map (·.2)) σ G (fun x G1 => gName i x σ G1 D.nx) := h
  refine wpAny_bind (thn (dc_core (Qf := fun _ s' => SP X pins D .next s') hc hN I hi ok hg ht hk he hs h fun L C s' m G' I' q hn f => ?_) fun _ s' hq => wpAny_pure (wpAny_pure hq))
  show wpAny _ _ (assign (.Name y py) X.env (.ref L)) _ _ _
  refine wpAny_assign_Name (store_ok2 (v := V.ref L) I' hN hy (.inl hyl) rfl (fun s2 I2 ⟨a, sb, ha⟩ => ?_) (.inr hyl))
  obtain ⟨f0, f1, f2, f3, f4, f5⟩ := f
  have haC : C ≠ a := ha.elim (fun z => by rw [z]; exact f1) (fun z e => f4 y a z e.symm)
  exact ⟨m, hn.sameBut sb haC, fun h3 sb3 => ⟨_, G', I2.turned (t' := s2.toks) (fun b o hb e => (sb3.2 b hb).trans e) f0 f1 f3 f4 f5, q⟩⟩⟩
theorem dc_list {K : PySem.W.Frag} {a : Addr} {xs : List V} {g : TG} {tt : TT} {tk tv : TE} {vs : List Nat} {σ : L2.St} {H1 : Hp} {D : Addr} {Qd : Hp → Prop} (Pv : Nat → Hp → Prop) (h0 : Pv 0 (upd H1 D (.dK []))) (hl : ∀ i H, i ≤ xs.length → Pv i H → SqL K H a xs)
    (hs : ∀ i x H, xs[i]? = some x → Pv i H → g x (wipe σ vs) H fun σ2 H2 => wipe σ2 vs = wipe σ vs ∧ tt σ2 H2 fun b H3 =>
      if b = true then tk σ2 H3 fun y H4 => tv σ2 H4 fun z H5 => ∃ kvs k, y = kV k ∧ H5 D = some (.dK kvs) ∧ kvs.length < sizeLine ∧ Pv (i + 1) (upd H5 D (.dK (putK kvs k z))) else Pv (i + 1) H3) (hd : ∀ H, Pv xs.length H → Qd H) :
    ∃ W : Nat → Nat → Hp → Prop, (∃ m, W 0 m (upd H1 D (.dK []))) ∧ ∀ i m H, W i m H →
      ((Itl K a).stop i H ∧ Qd H) ∨ ((Itl K a).go i H ∧ ∃ Nx : Hp → Prop, (∀ H', Nx H' → ∃ m', m' < m ∧ W (i + 1) m' H') ∧ ∀ x H', (Itl K a).yld i H x H' → g x (wipe σ vs) H' fun σ2 H2 => wipe σ2 vs = wipe σ vs ∧ tt σ2 H2 fun b H3 =>
        if b = true then tk σ2 H3 fun y H4 => tv σ2 H4 fun z H5 => ∃ kvs k, y = kV k ∧ H5 D = some (.dK kvs) ∧ kvs.length < sizeLine ∧ Nx (upd H5 D (.dK (putK kvs k z))) else Nx H3) := by
  refine ⟨fun i m H => m = xs.length - i ∧ i ≤ xs.length ∧ Pv i H, ⟨xs.length, by simp, Nat.zero_le _, h0⟩, ?_⟩
  rintro i m H ⟨rfl, hi, p⟩
  have q := hl i H hi p
  by_cases hlt : i < xs.length
  · refine .inr ⟨⟨xs, xs[i], q, by simp [hlt]⟩, Pv (i + 1), fun H' p' => ⟨xs.length - (i + 1), by omega, rfl, hlt, p'⟩, fun x H' y => ?_⟩
    obtain ⟨e, y⟩ := y
    subst e
    exact hs i x _ (y xs q) p
  · have e : i = xs.length := by omega
    subst e
    exact .inl ⟨⟨xs, q, Nat.le_refl _⟩, hd H p⟩
/-- a loop over zip of two lists -/
theorem for_zipL {K : PySem.W.Frag} {a b : Addr} {xs ys : List V} {g : TG} {tb : TS} {D : Ends} {σ : L2.St} {H : Hp} (hl : ys.length ≤ xs.length) (Pv : Nat → L2.St → Hp → Prop) (h0 : Pv 0 σ H) (hq : ∀ i σ H, Pv i σ H → SqL K H a xs ∧ SqL K H b ys)
    (hs : ∀ (i : Nat) (x y : V) (σ : L2.St) (H : Hp) (T : Addr), xs[i]? = some x → ys[i]? = some y → Pv i σ H → H T = none → g (.ref T) σ (upd H T (.tup [x, y])) fun σ2 H2 => tb { D with nx := Pv (i + 1), ct := Pv (i + 1), bk := D.nx } σ2 H2) (hd : ∀ σ H, Pv ys.length σ H → D.nx σ H) :
    ∃ W : Nat → Nat → L2.St → Hp → Prop, (∃ m, W 0 m σ H) ∧ ∀ i m σ H, W i m σ H →
      ((Itz K a b).stop i H ∧ D.nx σ H) ∨ ((Itz K a b).go i H ∧ ∃ N : L2.St → Hp → Prop, (∀ σ' H', N σ' H' → ∃ m', m' < m ∧ W (i + 1) m' σ' H') ∧ ∀ x H', (Itz K a b).yld i H x H' → g x σ H' fun σ2 H2 => tb { D with nx := N, ct := N, bk := D.nx } σ2 H2) := by
  refine ⟨fun i m σ H => m = ys.length - i ∧ i ≤ ys.length ∧ Pv i σ H, ⟨ys.length, by simp, Nat.zero_le _, h0⟩, ?_⟩
  rintro i m σ H ⟨rfl, hi, p⟩
  obtain ⟨q1, q2⟩ := hq i σ H p
  by_cases hlt : i < ys.length
  · have g2 : ys[i]? = some ys[i] := List.getElem?_eq_getElem hlt
    have g1 : xs[i]? = some (xs[i]'(by omega)) := List.getElem?_eq_getElem (by omega)
    refine .inr ⟨⟨xs, ys, _, _, q1, q2, g1, g2⟩, Pv (i + 1), fun σ' H' p' => ⟨ys.length - (i + 1), by omega, rfl, hlt, p'⟩, fun x H' y => ?_⟩
    obtain ⟨T, z1, z2, rfl, hT, rfl, f1, f2⟩ := y
    exact hs i z1 z2 σ H T (f1 _ q1) (f2 _ q2) p hT
  · have e : i = ys.length := by omega
    subst e
    exact .inl ⟨⟨xs, ys, q1, q2, .inr (Nat.le_refl _)⟩, hd σ H p⟩
theorem cut_mid (xs : List V) (i j : Nat) (h : i + j ≤ xs.length) : cutV xs (some (i : Int)) (some ((i : Int) + j)) = (xs.drop i).take j := by
  have e : ((i : Int) + j) = ((i + j : Nat) : Int) := by omega
  unfold cutV
  rw [e, HT.sIx_nat, HT.sIx_nat, Nat.min_eq_left h, Nat.min_eq_left (show i ≤ xs.length by omega)]
  congr 1
  omega
end AA

set_option Elab.async false
set_option linter.all false
set_option maxRecDepth 100000
set_option maxHeartbeats 4000000
/-! first_wrong; the errors of doors. -/
namespace AA
open PySem PySem.Spec PyProof.Rows L2 Evl
/-- the keys of a dict are these numbers -/
def Ks (kvs : List (Key × V)) (ns : List Int) : Prop := kvs.length ≤ ns.length ∧ ∀ i : Int, (valV kvs (.inl i)).isSome = decide (i ∈ ns)
theorem ks_nil : Ks [] [] := ⟨Nat.le_refl _, fun i => by rw [valV_nil, decide_eq_false (by simp)]; rfl⟩
theorem ks_put {kvs : List (Key × V)} {ns : List Int} {i : Int} {v : V} (h : Ks kvs ns) : Ks (putK kvs (.inl i) v) (ns ++ [i]) := by
  refine ⟨by have := length_putK kvs (.inl i) v; have := h.1; rw [List.length_append]; show _ ≤ _ + 1; omega, fun j => ?_⟩
  rw [valV_put]
  by_cases e : j = i
  · subst e
    rw [if_pos rfl, decide_eq_true (by simp)]
    rfl
  · rw [if_neg (fun z => e (Sum.inl.inj z)), h.2 j]
    by_cases m : j ∈ ns
    · rw [decide_eq_true m, decide_eq_true (List.mem_append_left _ m)]
    · rw [decide_eq_false m, decide_eq_false (fun z => (List.mem_append.mp z).elim m (fun y => e (by simpa using y)))]
section
variable {P : Program} {w : World} {K : PySem.W.Frag} {mg : Str → Option Value} {base : Heap}
theorem scBadIn : FnScope ["self", "index"] ["self", "index"] (defScope sBadInInit) := ⟨rfl, rfl, rfl, by decide +kernel, rfl, by decide +kernel, by decide +kernel⟩
theorem ok_badIn {CB f fI : Addr} {fd : FuncData} (F : L2.Fun K "__init__" "BadIns.__init__" sBadInInit f fd) (T : ExT K mg "BadIns" "index" CB fI) : FnOk P w K mg base CX0 1 f fd ["self", "index"] (spExI CB "index") := by
  refine F.ok scBadIn (fun vs H Q E h => ?_) (fun cdv A outer s H vs Q E hr h => ?_)
  · obtain ⟨a, v, rfl, _⟩ := h
    rfl
  · obtain ⟨a, v, rfl, ha, k⟩ := h
    exact ⟨_, pss_one (ps_ost (pv 0) (pv 1) rfl), _, rfl, _, rfl, a, CB, rfl, T.ox, T.no, .inl ⟨ha, k⟩⟩
theorem scBadOu : FnScope ["self", "index"] ["self", "index"] (defScope sBadOuInit) := ⟨rfl, rfl, rfl, by decide +kernel, rfl, by decide +kernel, by decide +kernel⟩
theorem ok_badOu {CB f fI : Addr} {fd : FuncData} (F : L2.Fun K "__init__" "BadOuts.__init__" sBadOuInit f fd) (T : ExT K mg "BadOuts" "index" CB fI) : FnOk P w K mg base CX0 1 f fd ["self", "index"] (spExI CB "index") := by
  refine F.ok scBadOu (fun vs H Q E h => ?_) (fun cdv A outer s H vs Q E hr h => ?_)
  · obtain ⟨a, v, rfl, _⟩ := h
    rfl
  · obtain ⟨a, v, rfl, ha, k⟩ := h
    exact ⟨_, pss_one (ps_ost (pv 0) (pv 1) rfl), _, rfl, _, rfl, a, CB, rfl, T.ox, T.no, .inl ⟨ha, k⟩⟩
/-- a thing that is no door, where these stood before -/
def NoDoor (K : PySem.W.Frag) (H : Hp) (n : Int) (tk : List Int) (z : V) : Prop := NotI K H z ∨ ∃ i, z = .int i ∧ (i < 0 ∨ n ≤ i ∨ i ∈ tk)
/-- doors, of n places, beside those taken: none; a list whose first bad one is at an index; good ones -/
def DrArg (K : PySem.W.Frag) (n : Int) (H : Hp) (v : V) (tk : List Int) (Bad : Nat → Prop) (Good : List Int → Prop) : Prop :=
  (Lk K H v false ∧ Bad 0) ∨ ∃ (a : Addr) (xs : List V), v = .ref a ∧ SqA K H a xs ∧ ((xs = [] ∧ Bad 0) ∨
    ∃ ds : List Int, ds.length ≤ 1000 ∧ ds.Nodup ∧ (∀ i ∈ ds, 0 ≤ i ∧ i < n ∧ i ∉ tk) ∧ ((xs = ds.map V.int ∧ ds ≠ [] ∧ Good ds) ∨ ∃ z r, xs = ds.map V.int ++ z :: r ∧ NoDoor K H n (tk ++ ds) z ∧ Bad ds.length))
theorem NoDoor.ex {H H' : Hp} {n : Int} {tk : List Int} {z : V} (h : NoDoor K H n tk z) (e : Ex H H') : NoDoor K H' n tk z := h.imp (fun y => y.ex e) id
theorem DrArg.ex {H H' : Hp} {n : Int} {v : V} {tk : List Int} {B : Nat → Prop} {G : List Int → Prop} (h : DrArg K n H v tk B G) (e : Ex H H') : DrArg K n H' v tk B G := by
  rcases h with ⟨h1, h2⟩ | ⟨a, xs, h1, h2, h⟩
  · exact .inl ⟨h1.ex e, h2⟩
  · refine .inr ⟨a, xs, h1, h2.ex e, h.imp id ?_⟩
    rintro ⟨ds, q1, q2, q3, q4⟩
    refine ⟨ds, q1, q2, q3, q4.imp id ?_⟩
    rintro ⟨z, r, p1, p2, p3⟩
    exact ⟨z, r, p1, p2.ex e, p3⟩
theorem DrArg.imp {H : Hp} {n : Int} {v : V} {tk : List Int} {B B' : Nat → Prop} {G G' : List Int → Prop} (h : DrArg K n H v tk B G) (hb : ∀ i, B i → B' i) (hg : ∀ ds, G ds → G' ds) : DrArg K n H v tk B' G' := by
  rcases h with ⟨h1, h2⟩ | ⟨a, xs, h1, h2, h⟩
  · exact .inl ⟨h1, hb _ h2⟩
  · refine .inr ⟨a, xs, h1, h2, h.imp (fun z => ⟨z.1, hb _ z.2⟩) ?_⟩
    rintro ⟨ds, q1, q2, q3, q4⟩
    refine ⟨ds, q1, q2, q3, q4.imp (fun z => ⟨z.1, z.2.1, hg _ z.2.2⟩) ?_⟩
    rintro ⟨z, r, p1, p2, p3⟩
    exact ⟨z, r, p1, p2, hb _ p3⟩
def spFirst (K : PySem.W.Frag) : Sp := fun vs H Q _ => ∃ (n : Int) (v : V) (t : Addr) (tk : List Int), vs = [.int n, v, .ref t] ∧ SqA K H t (tk.map V.int) ∧ tk.length ≤ 1000 ∧
  DrArg K n H v tk (fun i => ∀ H', Ex H H' → Q (.int (i : Nat)) H') (fun _ => ∀ H', Ex H H' → Q .non H')
abbrev nmFirst : List Str := ["places", "doors", "taken", "seen", "index", "door", "place"]
theorem scFirst : FnScope nmFirst ["places", "doors", "taken"] (defScope sFirstWrong) := ⟨rfl, rfl, rfl, by decide +kernel, rfl, by decide +kernel, by decide +kernel⟩
theorem ok_first {f : Addr} {fd : FuncData} (F : L2.Fun K "first_wrong" "first_wrong" sFirstWrong f fd) (T : Bn mg) (cL : C8.Cal P w K mg base 1 "is_list" (spIsList K) []) (cI : C8.Cal P w K mg base 1 "is_integer" (spIsIntegerV K) []) :
    FnOk P w K mg base CX0 2 f fd ["places", "doors", "taken"] (spFirst K) := by
  refine F.ok scFirst (fun vs H Q E h => ?_) (fun cdv A outer s H vs Q E hr h => ?_)
  · obtain ⟨n, v, t, tk, rfl, _⟩ := h
    rfl
  · obtain ⟨n, v, t, tk, rfl, hT, htk, h⟩ := h
    have hun := hr.un
    have hu1 : (A.deeper (envOfC "first_wrong" (defScope sFirstWrong) s.heap.objs.size f cdv)).units + 1 < cLine := by omega
    refine ⟨_, pss_cons (ps_if (PW.pt (pw_or (pt_not (pt_val (C8.pe_c cL hr (by decide) (by rfl) (pa_cons (pv 1) pa_nil)))) (pw_or1 (pt_not (pt_truth (pv 1) (fun _ => rfl))))))
        (pss_one (ps_ret pe_int)) pss_nil)
      (Evl.pss_cut (ps_setDc (i := 3) (own := [("place", 6)]) (g := gName 6) (tt := tYes) (by rfl) scFirst.nd rfl rfl (sw_trueD rfl rfl rfl (by decide +kernel)) (pi_or (pi_list (pv 2)) (pi_tup (pv 2))) (blkOk_by (N := nmFirst) (sc := defScope sFirstWrong) (by decide +kernel))
          (fun _ _ _ _ _ => pg_name (i := 6) scFirst.nd rfl (Or.inl rfl)) (fun _ _ _ _ _ => pts_nil) (fun _ _ _ _ _ => pv 6) (fun _ _ _ _ _ => pe_bl))
      (pss_cons (ps_for PassesOwn.never rfl (pi_enumA (by rfl) T.enumerate (pa_cons (pv 1) pa_nil)) (pg_tup (n := 2) rfl (pgs_cons (pg_name (i := 4) scFirst.nd rfl (Or.inl rfl)) (pgs_cons (pg_name (i := 5) scFirst.nd rfl (Or.inl rfl)) pgs_nil)))
        (pss_cons (ps_if (PW.pt (pw_or (pt_not (pt_val (C8.pe_c cI hr (by decide) (by rfl) (pa_cons (pv 5) pa_nil)))) (pw_or (pt_cmpR op_lt (pv 5) pe_int (nomark _)) (pw_or (pt_cmpR op_ge (pv 5) (pv 0) (nomark _)) (pw_or1 (pt_cmp (pc_din hu1 (pv 5) (pv 3))))))))
          (pss_one (ps_ret (pv 4))) pss_nil)
        (pss_one (ps_dput hu1 (pv 3) (pv 5) pe_bl (by rfl)))))
      (pss_one (ps_ret pe_non)))), ?_⟩
    rcases h with ⟨hl, kb⟩ | ⟨a, xs, rfl, hs, h⟩
    · exact ⟨_, rfl, v, false, rfl, hl, fun H1 e1 => ⟨_, rfl, iteT (iteT (kb H1 e1))⟩⟩
    refine ⟨_, rfl, .ref a, true, rfl, lk_sq hs, fun H1 e1 => ⟨_, rfl, iteF ?_⟩⟩
    have tru : ∀ b : Bool, b = !xs.isEmpty → TruV K (.ref a) H1 b := fun b hb => (hs.ex e1).elim (fun z => .inl ⟨xs, z, hb⟩) (fun z => .inr (.inl ⟨xs, z, hb⟩))
    refine ⟨_, rfl, !xs.isEmpty, tru _ rfl, ?_⟩
    rcases h with ⟨rfl, kb⟩ | ⟨ds, hdl, hnd, hok, h⟩
    · exact iteT (kb H1 e1)
    obtain ⟨r, rfl, hne, hr0⟩ : ∃ r : List V, xs = ds.map V.int ++ r ∧ ds.map V.int ++ r ≠ [] ∧ ((r = [] ∧ ∀ H', Ex H H' → Q .non H') ∨ ∃ z r', r = z :: r' ∧ NoDoor K H n (tk ++ ds) z ∧ ∀ H', Ex H H' → Q (.int (ds.length : Nat)) H') := by
      rcases h with ⟨h1, h2, h3⟩ | ⟨z, r, h1, h2, h3⟩
      · exact ⟨[], by rw [h1, List.append_nil], by rw [List.append_nil]; exact fun z => h2 (List.map_eq_nil_iff.mp z), .inl ⟨rfl, h3⟩⟩
      · exact ⟨z :: r, h1, by simp, .inr ⟨z, r, rfl, h2, h3⟩⟩
    have he : (ds.map V.int ++ r).isEmpty = false := by
      cases q : ds.map V.int ++ r with
      | nil => exact absurd q hne
      | cons => rfl
    rw [he]
    refine iteF ?_
    refine ⟨fun σ G => ∃ D kvs, σ = [some (.int n), some (.ref a), some (.ref t), some (.ref D), none, none, none] ∧ Ex H G ∧ G D = some (.dK kvs) ∧ H1 D = none ∧ Ks kvs tk, ?_, ?_⟩
    · have turn : ∀ (D : Addr), H1 D = none → ∀ (i : Nat) (x : V) (G : Hp), (tk.map V.int)[i]? = some x → (Ex H1 G ∧ ∃ kvs, G D = some (.dK kvs) ∧ Ks kvs (tk.take i)) →
          ∃ kvs k, x = kV k ∧ G D = some (.dK kvs) ∧ kvs.length < sizeLine ∧ (Ex H1 (upd G D (.dK (putK kvs k (.bl true)))) ∧ ∃ kvs', upd G D (.dK (putK kvs k (.bl true))) D = some (.dK kvs') ∧ Ks kvs' (tk.take (i + 1))) := by
        rintro D hD i x G hx ⟨q1, kvs, q2, q3⟩
        obtain ⟨c, hc, rfl⟩ := get_ints hx
        have il := (List.getElem?_eq_some_iff.mp hc).1
        have := q3.1
        rw [List.length_take] at this
        refine ⟨kvs, .inl c, rfl, q2, sz_m (by omega), Ex.mut q1 hD, _, upd_same, ?_⟩
        rw [List.take_add_one, hc]
        exact ks_put q3
      rcases hT with hT | hT
      · refine Or.inl ⟨_, rfl, t, rfl, ⟨_, ex_l e1 hT⟩, fun D hD => ?_⟩
        refine dc_list (xs := tk.map V.int) (fun i G => Ex H1 G ∧ ∃ kvs, G D = some (.dK kvs) ∧ Ks kvs (tk.take i)) ⟨Ex.new hD, [], upd_same, ks_nil⟩ (fun i G _ q => ex_l (e1.trans q.1) hT) ?_ ?_
        · rintro i x G hx q
          exact ⟨rfl, ⟨_, rfl, turn D hD i x G hx q⟩⟩
        · rintro G ⟨q1, kvs, q2, q3⟩
          rw [List.length_map, List.take_length] at q3
          exact ⟨D, kvs, rfl, e1.trans q1, q2, hD, q3⟩
      · refine Or.inr ⟨_, rfl, t, rfl, ⟨_, ex_t e1 hT⟩, fun D hD => ?_⟩
        refine dc_tup (xs := tk.map V.int) (fun i G => Ex H1 G ∧ ∃ kvs, G D = some (.dK kvs) ∧ Ks kvs (tk.take i)) ⟨Ex.new hD, [], upd_same, ks_nil⟩ (fun i G _ q => ex_t (e1.trans q.1) hT) ?_ ?_
        · rintro i x G hx q
          exact ⟨rfl, ⟨_, rfl, turn D hD i x G hx q⟩⟩
        · rintro G ⟨q1, kvs, q2, q3⟩
          rw [List.length_map, List.take_length] at q3
          exact ⟨D, kvs, rfl, e1.trans q1, q2, hD, q3⟩
    rintro σ G0 ⟨D, kvs0, rfl, e0, hD0, hDn, hks0⟩
    have hDH : H D = none := by
      cases q : H D with
      | none => rfl
      | some o =>
        rw [e1 _ _ q] at hDn
        cases hDn
    refine ⟨_, rfl, a, ds.map V.int ++ r, rfl, for_enumA (K := K) (a := a) (xs := ds.map V.int ++ r) (H0 := H) hs
      (fun i σ G => ∃ (x4 x5 : Option V) (kvs : List (Key × V)), σ = [some (.int n), some (.ref a), some (.ref t), some (.ref D), x4, x5, none] ∧ Ex H G ∧ G D = some (.dK kvs) ∧ Ks kvs (tk ++ ds.take i) ∧ i ≤ ds.length) ?_ ?_ ?_ ?_⟩
    · exact ⟨none, none, kvs0, rfl, e0, hD0, by rw [List.take_zero, List.append_nil]; exact hks0, Nat.zero_le _⟩
    · rintro i σ G ⟨x4, x5, kvs, rfl, q1, _⟩
      exact q1
    · rintro i x σ G T hx ⟨x4, x5, kvs, rfl, q1, q2, q3, q4⟩ hT0
      have eT := Ex.new (o := .tup [.int (i : Nat), x]) hT0
      refine ⟨T, _, rfl, SqT.of upd_same, rfl, _, _, rfl, _, _, rfl, rfl, ?_⟩
      have hD2 := eT _ _ q2
      generalize upd G T (.tup [.int (i : Nat), x]) = G2 at eT hD2 ⊢
      have e2 := q1.trans eT
      by_cases hlt : i < ds.length
      · rw [List.getElem?_append_left (by rw [List.length_map]; exact hlt)] at hx
        obtain ⟨c, hc, rfl⟩ := get_ints hx
        obtain ⟨c0, c1, c2⟩ := hok c (mem_of_get hc)
        refine ⟨_, rfl, _, rfl, .inr ⟨c, rfl, ⟨_, rfl, iteF ?_⟩⟩⟩
        refine ⟨_, rfl, _, _, rfl, rfl, _, rfl, ?_⟩
        refine dec_ite (fun z => by omega) (fun _ => ?_)
        refine ⟨_, rfl, _, rfl, _, _, rfl, rfl, _, rfl, ?_⟩
        refine dec_ite (fun z => by omega) (fun _ => ?_)
        have hnk : (valV kvs (.inl c)).isSome = false := by
          rw [q3.2 c, decide_eq_false]
          intro z
          rcases List.mem_append.mp z with z | z
          · exact c2 z
          · exact nodup_take hnd hc z
        refine ⟨_, rfl, _, rfl, D, _, rfl, DGet.k (k := .inl c) hD2, _, rfl, ?_⟩
        rw [hnk]
        refine iteF ?_
        have hlen := q3.1
        rw [List.length_append, List.length_take] at hlen
        refine ⟨_, rfl, _, rfl, D, _, rfl, DPut.k (k := .inl c) hD2 (sz_m (by omega)), _, _, _, rfl, e2.mut hDH, upd_same, ?_, hlt⟩
        rw [List.take_add_one, hc, ← List.append_assoc]
        exact ks_put q3
      · have hie : i = ds.length := by omega
        subst hie
        rw [List.getElem?_append_right (by rw [List.length_map]; exact Nat.le_refl _), List.length_map, Nat.sub_self] at hx
        rcases hr0 with ⟨rfl, _⟩ | ⟨z, r', rfl, hz, kb⟩
        · cases hx
        cases (Option.some.inj hx)
        rw [List.take_length] at q3
        rcases hz with hni | ⟨c, rfl, hc⟩
        · exact ⟨_, rfl, _, rfl, .inl ⟨hni.ex e2, ⟨_, rfl, iteT (iteT ⟨_, rfl, kb _ e2⟩)⟩⟩⟩
        · refine ⟨_, rfl, _, rfl, .inr ⟨c, rfl, ⟨_, rfl, iteF ?_⟩⟩⟩
          refine ⟨_, rfl, _, _, rfl, rfl, _, rfl, ?_⟩
          refine dec_ite (fun z => iteT ⟨_, rfl, kb _ e2⟩) (fun z1 => ?_)
          refine ⟨_, rfl, _, rfl, _, _, rfl, rfl, _, rfl, ?_⟩
          refine dec_ite (fun z => iteT ⟨_, rfl, kb _ e2⟩) (fun z2 => ?_)
          have hin : (valV kvs (.inl c)).isSome = true := by
            rw [q3.2 c, decide_eq_true]
            rcases hc with hc | hc | hc
            · omega
            · omega
            · exact hc
          refine ⟨_, rfl, _, rfl, D, _, rfl, DGet.k (k := .inl c) hD2, _, rfl, ?_⟩
          rw [hin]
          exact iteT ⟨_, rfl, kb _ e2⟩
    · rintro σ G ⟨x4, x5, kvs, rfl, q1, q2, q3, q4⟩
      rw [List.length_append, List.length_map] at q4
      have hrn : r = [] := List.eq_nil_of_length_eq_zero (by omega)
      subst hrn
      rcases hr0 with ⟨_, k⟩ | ⟨z, r', h0, _⟩
      · exact k _ q1
      · cases h0
end
end AA

set_option Elab.async false
set_option linter.all false
set_option maxRecDepth 100000
set_option maxHeartbeats 4000000
/-! What the law's own looks lean on. -/
namespace AA
open PySem PySem.Spec PyProof.Rows L2 Evl
mutual
def dOk : PyData → Bool
  | .list xs => decide (xs.length ≤ 1000000) && dOkA xs
  | .tuple xs => decide (xs.length ≤ 1000000) && dOkA xs
  | .str z => PyData.strOk z
  | .dict _ => false
  | _ => true
def dOkA : List PyData → Bool
  | [] => true
  | x :: xs => dOk x && dOkA xs
end
mutual
theorem sm_two {K : PySem.W.Frag} {C : Addr} {R : Addr → Addr → Hp → Prop} {H : Hp} : ∀ (d : PyData) (v u : V) (n : Nat), Dp K H v d → Dp K H u d → dOk d = true → d.depth < n → Sm K C R H n v u
  | _, _, _, 0, _, _, _, h => absurd h (Nat.not_lt_zero _)
  | .none, v, u, n + 1, hd, he, _, _ => by
    cases hd
    cases he
    exact .inl ⟨rfl, rfl⟩
  | .bool b, v, u, n + 1, hd, he, _, _ => by
    cases hd
    cases he
    exact .inl ⟨rfl, rfl⟩
  | .int i, v, u, n + 1, hd, he, _, _ => by
    cases hd
    cases he
    exact .inl ⟨rfl, rfl⟩
  | .str z, v, u, n + 1, hd, he, ho, _ => by
    cases hd
    cases he
    exact .inl ⟨rfl, ho⟩
  | .list xs, v, u, n + 1, hd, he, ho, h => by
    cases hd with
    | lst h1 h2 =>
      cases he with
      | lst g1 g2 =>
        have ho' : (decide (xs.length ≤ 1000000) && dOkA xs) = true := ho
        rw [Bool.and_eq_true] at ho'
        have hl := dpa_len h2
        have hz := of_decide_eq_true ho'.1
        exact .inr (.inl ⟨_, _, _, _, rfl, rfl, h1, g1, sm_twoA xs _ _ n h2 g2 ho'.2 (Nat.lt_of_succ_lt_succ h), by omega⟩)
  | .tuple xs, v, u, n + 1, hd, he, ho, h => by
    cases hd with
    | tup h1 h2 =>
      cases he with
      | tup g1 g2 =>
        have ho' : (decide (xs.length ≤ 1000000) && dOkA xs) = true := ho
        rw [Bool.and_eq_true] at ho'
        have hl := dpa_len h2
        have hz := of_decide_eq_true ho'.1
        exact .inr (.inr (.inl ⟨_, _, _, _, rfl, rfl, h1, g1, sm_twoA xs _ _ n h2 g2 ho'.2 (Nat.lt_of_succ_lt_succ h), by omega⟩))
  | .dict _, v, u, n + 1, _, _, ho, _ => by cases ho
theorem sm_twoA {K : PySem.W.Frag} {C : Addr} {R : Addr → Addr → Hp → Prop} {H : Hp} : ∀ (ds : List PyData) (vs us : List V) (n : Nat), DpAll K H vs ds → DpAll K H us ds → dOkA ds = true → PyData.depthAll ds < n → Paired (Sm K C R H n) vs us
  | [], _, _, _, h, g, _, _ => by
    cases h
    cases g
    exact .nil
  | d :: ds, _, _, n, h, g, ho, hn => by
    cases h with
    | cons h1 h2 =>
      cases g with
      | cons g1 g2 =>
        have ho' : (dOk d && dOkA ds) = true := ho
        rw [Bool.and_eq_true] at ho'
        have hn' : max (PyData.depth d) (PyData.depthAll ds) < n := hn
        exact .cons (sm_two d _ _ n h1 g1 ho'.1 (by omega)) (sm_twoA ds _ _ n h2 g2 ho'.2 (by omega))
end
theorem tps_in {H : Hp} {a b : Addr} {m : Nat} (S : SAt H a b m) : Ex (tps H) (hid a b H) := fun x o h => by
  obtain ⟨h1, xs, rfl⟩ := tps_some h
  obtain ⟨ns, c1, c2, c3, ha, hb, _⟩ := S
  have xa : x ≠ a := fun z => by
    rw [z, ha] at h1
    cases h1
  have xb : x ≠ b := fun z => by
    rw [z, hb] at h1
    cases h1
  rw [hid_ne xa xb]
  exact h1
theorem rd_st {n : Int} {s : St5} (h : StOk n s) : rdStep n (stD s) = some s := by
  rw [rd_at (d := stD s) (c := .tuple [.int s.p, .int s.q]) rfl rfl, if_pos ⟨h.o0, h.o1, h.t0, h.t1, h.k⟩]
theorem lsa_two {i j : Int} {ys : List PyData} (h : LsA [.int i, .int j] ys) : ys = [.int i, .int j] := by
  cases h with
  | cons h1 h =>
    cases h with
    | cons h2 h =>
      cases h
      cases h1
      cases h2
      rfl
theorem ls_items {xs : List PyData} {d : PyData} (h : Ls (.tuple xs) d ∨ Ls (.list xs) d) : LsA xs (itemsD d) ∧ isListD d = true := by
  rcases h with h | h
  · cases h with
    | tl h => exact ⟨h, rfl⟩
    | tt h => exact ⟨h, rfl⟩
  · cases h with
    | ll h => exact ⟨h, rfl⟩
    | lt h => exact ⟨h, rfl⟩
theorem ls_step {n : Int} {s : St5} {d : PyData} (h : Ls (stD s) d) (o : StOk n s) : rdStep n d = some s := by
  obtain ⟨h1, _⟩ := ls_items (.inl (show Ls (.tuple [.int s.one, .int s.other, .tuple [.int s.p, .int s.q], .int s.ticks, .int s.change]) d from h))
  generalize hit : itemsD d = l at h1
  cases h1 with
  | cons a1 h1 =>
    cases h1 with
    | cons a2 h1 =>
      cases h1 with
      | cons a3 h1 =>
        cases h1 with
        | cons a4 h1 =>
          cases h1 with
          | cons a5 h1 =>
            cases h1
            cases a1
            cases a2
            cases a4
            cases a5
            obtain ⟨h2, _⟩ := ls_items (.inl a3)
            rw [rd_at hit (lsa_two h2), if_pos ⟨o.o0, o.o1, o.t0, o.t1, o.k⟩]
theorem ls_steps {n : Int} : ∀ {ws : List St5} {ds : List PyData}, LsA (ws.map stD) ds → (∀ s ∈ ws, StOk n s) → ds.map (rdStep n) = ws.map some
  | [], _, h, _ => by
    cases h
    rfl
  | s :: ws, _, h, o => by
    cases h with
    | cons h1 h2 =>
      rw [List.map_cons, List.map_cons, ls_step h1 (o s List.mem_cons_self), ls_steps h2 fun t ht => o t (List.mem_cons_of_mem _ ht)]
theorem rd_steps {n : Int} : ∀ {ws : List St5}, (∀ s ∈ ws, StOk n s) → (ws.map stD).map (rdStep n) = ws.map some
  | [], _ => rfl
  | s :: ws, o => by
    rw [List.map_cons, List.map_cons, List.map_cons, rd_st (o s List.mem_cons_self), rd_steps fun t ht => o t (List.mem_cons_of_mem _ ht)]
theorem all_sts : ∀ ws : List St5, allIA (ws.map stD) = true
  | [] => rfl
  | s :: ws => by
    show (allI (stD s) && allIA (ws.map stD)) = true
    rw [all_sts ws]
    rfl
theorem cut_from (xs : List V) (j : Nat) : cutV xs (some (j : Int)) none = xs.drop j := by
  unfold cutV
  rw [HT.sIx_none, HT.sIx_nat]
  by_cases h : j ≤ xs.length
  · rw [Nat.min_eq_left h, List.take_of_length_le (by rw [List.length_drop]; omega)]
  · rw [Nat.min_eq_right (by omega), Nat.sub_self, List.drop_of_length_le (by omega), List.take_nil]
    exact (List.drop_of_length_le (by omega)).symm
theorem dpa_take {K : PySem.W.Frag} {H : Hp} : ∀ {xs : List V} {ds : List PyData} (j : Nat), DpAll K H xs ds → DpAll K H (xs.take j) (ds.take j)
  | [], _, j, h => by
    cases h
    rw [List.take_nil, List.take_nil]
    exact .nil
  | x :: xs, _, 0, h => .nil
  | x :: xs, _, j + 1, h => by
    cases h with
    | cons h1 h2 => exact .cons h1 (dpa_take j h2)
theorem sqt_hid {G : Hp} {K : PySem.W.Frag} {a b t : Addr} {m : Nat} {xs : List V} (S : SAt G a b m) (h : SqT K G t xs) : SqT K (hid a b G) t xs := by
  obtain ⟨ns, c1, c2, c3, ha, hb, _⟩ := S
  rcases h with h | h
  · refine .inl ?_
    rcases h with h | ⟨u, h⟩
    · have xa : t ≠ a := fun z => by rw [z, ha] at h; cases h
      have xb : t ≠ b := fun z => by rw [z, hb] at h; cases h
      exact .inl (by rw [hid_ne xa xb]; exact h)
    · have xa : t ≠ a := fun z => by rw [z, ha] at h; cases h
      have xb : t ≠ b := fun z => by rw [z, hb] at h; cases h
      exact .inr ⟨u, by rw [hid_ne xa xb]; exact h⟩
  · exact .inr h
theorem sts_hid {G : Hp} {K : PySem.W.Frag} {a b : Addr} {m : Nat} (S : SAt G a b m) : ∀ {vs : List V} {ss : List St5}, DpAll K G vs (ss.map stD) → DpAll K (hid a b G) vs (ss.map stD)
  | [], [], _ => .nil
  | v :: vs, s :: ss, h => by
    cases h with
    | cons h1 h2 =>
      obtain ⟨t, u, rfl, h3, h4⟩ := stD_inv h1
      exact .cons (stD_mk (sqt_hid S h3) (sqt_hid S h4)) (sts_hid S h2)
  | [], _ :: _, h => by cases h
  | _ :: _, [], h => by cases h
theorem made_ex {H : Hp} {x dx : Addr} {o : HO} (nx : H x = none) (ndx : H dx = none) : Ex H (hid x x (upd (upd H dx (.own x)) x o)) := fun z u h => by
  have h1 : z ≠ x := ne_of_none h nx
  have h2 : z ≠ dx := ne_of_none h ndx
  rw [hid_ne h1 h1, upd_ne h1, upd_ne h2]
  exact h
theorem cnt_sts : ∀ ws : List St5, cntA (ws.map stD) = 8 * ws.length
  | [] => rfl
  | s :: ws => by
    show cnt (stD s) + cntA (ws.map stD) = 8 * (ws.length + 1)
    have e : cnt (stD s) = 8 := rfl
    rw [e, cnt_sts ws]
    omega
theorem dok_sts : ∀ ws : List St5, dOkA (ws.map stD) = true
  | [] => rfl
  | s :: ws => by
    show (dOk (stD s) && dOkA (ws.map stD)) = true
    rw [dok_sts ws]
    rfl
theorem stLt_tri {s t : St5} (h1 : stLt s t = false) (h2 : stLt t s = false) : s = t := by
  have a := stLt_no.mp h1
  have b := stLt_no.mp h2
  have e1 : s.one = t.one := by omega
  have e2 : s.other = t.other := by omega
  have e3 : s.p = t.p := by omega
  have e4 : s.q = t.q := by omega
  have e5 : s.ticks = t.ticks := by omega
  have e6 : s.change = t.change := by omega
  cases s
  cases t
  simp_all
/-- the same steps, both in order, are the same list -/
theorem srs_uniq : ∀ {ss ts : List St5}, SrS ss → SrS ts → ss.Perm ts → ss = ts
  | [], ts, _, _, p => (List.Perm.nil_eq p)
  | s :: ss, [], _, _, p => absurd p.length_eq (by simp)
  | s :: ss, t :: ts, h, g, p => by
    have h' := List.pairwise_cons.mp h
    have g' := List.pairwise_cons.mp g
    have e : s = t := by
      have m1 : s ∈ t :: ts := p.mem_iff.mp List.mem_cons_self
      have m2 : t ∈ s :: ss := p.mem_iff.mpr List.mem_cons_self
      rcases List.mem_cons.mp m1 with e | m1
      · exact e
      · rcases List.mem_cons.mp m2 with e | m2
        · exact e.symm
        · exact stLt_tri (g'.1 _ m1) (h'.1 _ m2)
    subst e
    rw [srs_uniq h'.2 g'.2 (List.Perm.cons_inv p)]
section
variable {K : PySem.W.Frag}
theorem rdall_of {n : Int} {H : Hp} : ∀ {vs : List V} {ds : List PyData} {ss : List St5}, DpAll K H vs ds → ds.map (rdStep n) = ss.map some → RdAll K n H vs ss
  | [], _, [], h, _ => .nil
  | [], _, _ :: _, h, e => by
    cases h
    cases e
  | v :: vs, _, [], h, e => by
    cases h
    cases e
  | v :: vs, _, s :: ss, h, e => by
    cases h with
    | cons h1 h2 =>
      rw [List.map_cons, List.map_cons] at e
      injection e with e1 e2
      exact .cons h1 e1 (rdall_of h2 e2)
theorem rdall_st {n : Int} {H : Hp} {vs : List V} {ss : List St5} (h : DpAll K H vs (ss.map stD)) (o : ∀ s ∈ ss, StOk n s) : RdAll K n H vs ss := rdall_of h (rd_steps o)
/-- a web, its list of steps at lw -/
def WebL (K : PySem.W.Frag) (C : Addr) (H : Hp) (x lw : Addr) (n : Int) (ss : List St5) : Prop := ∃ (dx kd : Addr) (ys : List V), H x = some (.ins C dx (wf n lw kd)) ∧ H lw = some (.lst ys) ∧ DpAll K H ys (ss.map stD)
theorem WebL.at {C : Addr} {H : Hp} {x lw : Addr} {n : Int} {ss : List St5} (h : WebL K C H x lw n ss) : WebAt K C H x n ss := let ⟨dx, kd, ys, h1, h2, h3⟩ := h; ⟨dx, lw, kd, ys, h1, h2, h3⟩
theorem WebL.ex {C : Addr} {H H' : Hp} {x lw : Addr} {n : Int} {ss : List St5} (h : WebL K C H x lw n ss) (e : Ex H H') : WebL K C H' x lw n ss := let ⟨dx, kd, ys, h1, h2, h3⟩ := h; ⟨dx, kd, ys, e _ _ h1, e _ _ h2, dpa_ex e _ _ h3⟩
theorem WebL.up {C p : Addr} {H : Hp} {x lw : Addr} {n : Int} {ss : List St5} {vs : List V} {o : HO} (h : WebL K C H x lw n ss) (hp : H p = some (.lst vs)) (hl : p ≠ lw) : WebL K C (upd H p o) x lw n ss := by
  obtain ⟨dx, kd, ys, h1, h2, h3⟩ := h
  have px : x ≠ p := fun z => by
    rw [z, hp] at h1
    cases h1
  have nt : ∀ (xs : List V) (u : Obj), H p ≠ some (.tup xs) ∧ H p ≠ some (.frz u (.tup xs)) := fun xs u => by
    rw [hp]
    exact ⟨(fun z => nomatch z), (fun z => nomatch z)⟩
  exact ⟨dx, kd, ys, by rw [upd_ne px]; exact h1, by rw [upd_ne hl.symm]; exact h2, sts_upd nt h3⟩
theorem nt_lst {G : Hp} {l : Addr} {vs : List V} (h : G l = some (.lst vs)) (xs : List V) (u : Obj) : G l ≠ some (.tup xs) ∧ G l ≠ some (.frz u (.tup xs)) := by
  rw [h]
  exact ⟨(fun z => nomatch z), (fun z => nomatch z)⟩
theorem sts_get {H : Hp} {ys : List V} {ss : List St5} {i : Nat} {y : V} (h : DpAll K H ys (ss.map stD)) (hy : ys[i]? = some y) : ∃ (t : St5) (b : Addr), ss[i]? = some t ∧ y = .ref b ∧ Dp K H (.ref b) (stD t) := by
  obtain ⟨d, h1, h2⟩ := dpa_get h hy
  rw [List.getElem?_map] at h1
  cases q : ss[i]? with
  | none =>
    rw [q] at h1
    cases h1
  | some t =>
    rw [q] at h1
    cases h1
    obtain ⟨b, c, e, _⟩ := stD_inv h2
    subst e
    exact ⟨t, b, rfl, rfl, h2⟩
theorem sts_len {H : Hp} {ys : List V} {ss : List St5} (h : DpAll K H ys (ss.map stD)) : ys.length = ss.length := by
  have := dpa_len h
  rw [List.length_map] at this
  exact this
/-- what a web that is made keeps -/
theorem made_web {C x dx lw kd dy : Addr} {H H3 : Hp} {n : Int} {ss : List St5} {ys : List V} (nx : H x = none) (ndx : H dx = none) (hw : Ex (hid x x (upd (upd H dx (.own x)) x (.ins C dx []))) H3) (fx : H3 x = some (.ins C dy (wf n lw kd))) (flw0 : upd (upd H dx (.own x)) x (.ins C dx []) lw = none) (flw : H3 lw = some (.lst ys)) (hys : DpAll K H3 ys (ss.map stD)) :
    Ex H H3 ∧ WebL K C H3 x lw n ss ∧ H lw = none := by
  have me := made_ex (o := .ins C dx []) nx ndx
  refine ⟨me.trans hw, ⟨dy, kd, ys, fx, flw, hys⟩, ?_⟩
  by_cases q1 : lw = x
  · rw [q1]
    exact nx
  · by_cases q2 : lw = dx
    · rw [q2]
      exact ndx
    · rw [upd_ne q1, upd_ne q2] at flw0
      exact flw0
end
/-- list(x) of a list or a tuple -/
abbrev rListOf (K : PySem.W.Frag) : List V → Hp → VK → Prop := fun vs G Q => ∃ p ys, vs = [V.ref p] ∧ (SqL K G p ys ∨ SqT K G p ys) ∧ ∀ l, G l = none → Q (.ref l) (upd G l (.lst ys))
end AA

set_option Elab.async false
set_option linter.all false
set_option maxRecDepth 100000
set_option maxHeartbeats 4000000
/-! The class of parts. -/
namespace AA
open PySem PySem.Spec PyProof.Rows L2 Evl
theorem nwi_ : ¬ (("_web" : Str) = "_ins") := by decide +kernel
theorem nwo_ : ¬ (("_web" : Str) = "_outs") := by decide +kernel
theorem nwk_ : ¬ (("_web" : Str) = "known") := by decide +kernel
theorem nio_ : ¬ (("_ins" : Str) = "_outs") := by decide +kernel
theorem nik_ : ¬ (("_ins" : Str) = "known") := by decide +kernel
theorem nok_ : ¬ (("_outs" : Str) = "known") := by decide +kernel
def pf (w li lo kd : Addr) : List (Str × V) := putF "known" (.ref kd) (putF "_outs" (.ref lo) (putF "_ins" (.ref li) (putF "_web" (.ref w) [])))
theorem pf_web (w li lo kd : Addr) : (pf w li lo kd).lookup ("_web" : Str) = some (.ref w) := by
  unfold pf
  rw [lookup_putF, if_neg nwk_, lookup_putF, if_neg nwo_, lookup_putF, if_neg nwi_, lookup_putF, if_pos rfl]
theorem pf_ins (w li lo kd : Addr) : (pf w li lo kd).lookup ("_ins" : Str) = some (.ref li) := by
  unfold pf
  rw [lookup_putF, if_neg nik_, lookup_putF, if_neg nio_, lookup_putF, if_pos rfl]
theorem pf_outs (w li lo kd : Addr) : (pf w li lo kd).lookup ("_outs" : Str) = some (.ref lo) := by
  unfold pf
  rw [lookup_putF, if_neg nok_, lookup_putF, if_pos rfl]
theorem pf_no (w li lo kd : Addr) {m : Str} (h1 : ¬ m = "_web") (h2 : ¬ m = "_ins") (h3 : ¬ m = "_outs") (h4 : ¬ m = "known") : (pf w li lo kd).lookup m = none := by
  unfold pf
  rw [lookup_putF, if_neg h4, lookup_putF, if_neg h3, lookup_putF, if_neg h2, lookup_putF, if_neg h1]
  all_goals rfl
/-- a part at x: its web at wb, the web's steps at lw, doors at li and lo -/
structure PtL (K : PySem.W.Frag) (CW C : Addr) (H : Hp) (x wb lw li lo : Addr) (n : Int) (ss : List St5) (is os : List Int) : Prop where
  o : ∃ dx kd, H x = some (.ins C dx (pf wb li lo kd))
  w : WebL K CW H wb lw n ss
  i : H li = some (.lst (is.map V.int))
  u : H lo = some (.lst (os.map V.int))
theorem PtL.ex {K : PySem.W.Frag} {CW C : Addr} {H H' : Hp} {x wb lw li lo : Addr} {n : Int} {ss : List St5} {is os : List Int} (h : PtL K CW C H x wb lw li lo n ss is os) (e : Ex H H') : PtL K CW C H' x wb lw li lo n ss is os :=
  ⟨let ⟨dx, kd, q⟩ := h.o; ⟨dx, kd, e _ _ q⟩, h.w.ex e, e _ _ h.i, e _ _ h.u⟩
/-- what the top has written of the class -/
structure PtTxt (K : PySem.W.Frag) (mg : Str → Option Value) (C : Addr) : Prop where
  cl : Cls K C
  nW : NoAttr K C "_web"
  nI : NoAttr K C "_ins"
  nO : NoAttr K C "_outs"
  nK : NoAttr K C "known"
  mgC : mg "Part" = some (.ref C)
section
variable {P : Program} {w : World} {K : PySem.W.Frag} {mg : Str → Option Value} {base : Heap}
/-- what Part is made of -/
def PtArg (K : PySem.W.Frag) (H : Hp) (v u vi vo : V) (BP : Prop) (BS BI BO : Nat → Prop) (Good : Int → List St5 → List Int → List Int → Prop) : Prop :=
  WbArg K H v u BP BS (fun n ss => DrArg K n H vi [] BI (fun is => DrArg K n H vo is BO (fun os => Good n ss is os)))
theorem PtArg.ex {H H' : Hp} {v u vi vo : V} {BP : Prop} {BS BI BO : Nat → Prop} {G : Int → List St5 → List Int → List Int → Prop} (h : PtArg K H v u vi vo BP BS BI BO G) (e : Ex H H') : PtArg K H' v u vi vo BP BS BI BO G :=
  (WbArg.ex h e).imp id (fun _ => id) fun n ss z => (z.ex e).imp (fun _ => id) fun is z => z.ex e
theorem PtArg.imp {H : Hp} {v u vi vo : V} {BP BP' : Prop} {BS BI BO BS' BI' BO' : Nat → Prop} {G G' : Int → List St5 → List Int → List Int → Prop} (h : PtArg K H v u vi vo BP BS BI BO G) (hp : BP → BP') (hs : ∀ i, BS i → BS' i) (hi : ∀ i, BI i → BI' i) (ho : ∀ i, BO i → BO' i) (hg : ∀ n ss is os, G n ss is os → G' n ss is os) : PtArg K H v u vi vo BP' BS' BI' BO' G' :=
  WbArg.imp h hp hs fun n ss z => z.imp hi fun is z => z.imp ho fun os z => hg n ss is os z
theorem DrArg.more {H : Hp} {n : Int} {v : V} {tk : List Int} {B : Nat → Prop} {G : List Int → Prop} (h : DrArg K n H v tk B G) : DrArg K n H v tk B (fun ds => G ds ∧ ∃ a, v = .ref a ∧ SqA K H a (ds.map V.int) ∧ ds.length ≤ 1000) := by
  rcases h with ⟨h1, h2⟩ | ⟨a, xs, h1, h2, h⟩
  · exact .inl ⟨h1, h2⟩
  · refine .inr ⟨a, xs, h1, h2, h.imp id ?_⟩
    rintro ⟨ds, q1, q2, q3, q4⟩
    refine ⟨ds, q1, q2, q3, ?_⟩
    rcases q4 with ⟨z1, z2, z3⟩ | q4
    · exact .inl ⟨z1, z2, z3, a, h1, z1 ▸ h2, q1⟩
    · exact .inr q4
theorem back_x {H G : Hp} {x l : Addr} {o : HO} (e : Ex (hid x x H) G) (hx : G x = some o) (hl : G l = none) : H l = none := by
  have n : x ≠ l := ne_of_none hx hl
  cases q : H l with
  | none => rfl
  | some o =>
    rw [e l o (by rw [hid_ne n.symm n.symm]; exact q)] at hl
    cases hl
def spPtInit (K : PySem.W.Frag) (CW C CP CS CI CO : Addr) : Sp := fun vs H Q E => ∃ (x dx : Addr) (v u vi vo : V), vs = [.ref x, v, u, vi, vo] ∧ H x = some (.ins C dx []) ∧
  PtArg K (hid x x H) v u vi vo (BadE CP "places" (hid x x H) v E) (fun i => BadE CS "index" (hid x x H) (.int (i : Nat)) E) (fun i => BadE CI "index" (hid x x H) (.int (i : Nat)) E) (fun i => BadE CO "index" (hid x x H) (.int (i : Nat)) E)
    (fun n ss is os => ∀ (H' : Hp) (ts : List St5) (wb lw li lo : Addr), Ex (hid x x H) H' → PtL K CW C H' x wb lw li lo n ts is os → H wb = none → H lw = none → H li = none → H lo = none → ts.Perm ss → SrS ts → Q .non H')
theorem scPtInit : FnScope ["self", "places", "steps", "ins", "outs", "wrong"] ["self", "places", "steps", "ins", "outs"] (defScope sPartInit) := ⟨rfl, rfl, rfl, by decide +kernel, rfl, by decide +kernel, by decide +kernel⟩
theorem hid_hid {H : Hp} {x : Addr} {o : HO} : Ex (hid x x H) (hid x x (upd H x o)) := fun z u h => by
  obtain ⟨h1, h2, _⟩ := hid_some h
  rw [hid_ne h2 h2, upd_ne h2]
  exact h1
theorem hid_in {H G : Hp} {x : Addr} (e : Ex (hid x x H) G) : Ex (hid x x H) (hid x x G) := fun z u h => by
  obtain ⟨h1, h2, _⟩ := hid_some h
  rw [hid_ne h2 h2]
  exact e _ _ h
/-- a web over another object -/
theorem WebL.upo {CW C x dx : Addr} {f : List (Str × V)} {H : Hp} {wb lw : Addr} {n : Int} {ss : List St5} {o : HO} (h : WebL K CW H wb lw n ss) (hx : H x = some (.ins C dx f)) (hw : x ≠ wb) (hl : x ≠ lw) : WebL K CW (upd H x o) wb lw n ss := by
  obtain ⟨dy, kd, ys, h1, h2, h3⟩ := h
  have nt : ∀ (xs : List V) (u : Obj), H x ≠ some (.tup xs) ∧ H x ≠ some (.frz u (.tup xs)) := fun xs u => by
    rw [hx]
    exact ⟨(fun z => nomatch z), (fun z => nomatch z)⟩
  exact ⟨dy, kd, ys, by rw [upd_ne hw.symm]; exact h1, by rw [upd_ne hl.symm]; exact h2, sts_upd nt h3⟩
theorem ok_ptInit {f CW C CP CS CI CO fW fIi fOo : Addr} {fd fdW fdI fdO : FuncData} (F : L2.Fun K "__init__" "Part.__init__" sPartInit f fd) (B : Bn mg) (T : PtTxt K mg C) (hW : mg "Web" = some (.ref CW)) (M : Mk K CW fW) (GW : FnOk P w K mg base (L2.CX P w) 5 fW fdW ["self", "places", "steps"] (spWebInit K CW CP CS)) (bW : Binds K fdW ["self", "places", "steps"] [])
    (TI : ExT K mg "BadIns" "index" CI fIi) (GI : FnOk P w K mg base CX0 1 fIi fdI ["self", "index"] (spExI CI "index")) (bI : Binds K fdI ["self", "index"] []) (TO : ExT K mg "BadOuts" "index" CO fOo) (GO : FnOk P w K mg base CX0 1 fOo fdO ["self", "index"] (spExI CO "index")) (bO : Binds K fdO ["self", "index"] [])
    (cF : C8.Cal P w K mg base 2 "first_wrong" (spFirst K) []) :
    FnOk P w K mg base (L2.CX P w) 7 f fd ["self", "places", "steps", "ins", "outs"] (spPtInit K CW C CP CS CI CO) := by
  refine F.okX scPtInit (fun vs H Q E h => ?_) (fun cdv A outer s H vs Q E hr h => ?_)
  · obtain ⟨x, dx, v, u, vi, vo, rfl, _⟩ := h
    rfl
  · obtain ⟨x, dx, v, u, vi, vo, rfl, hx, h⟩ := h
    refine ⟨_, pss_cons (ps_fld (pv 0) (pe_make (E := E) M GW (hr.mono (by decide)) (by rfl) hW bW .nil (passes_call (takes_of rfl rfl rfl rfl) fun _ _ _ _ z => z) (pa_cons (pv 1) (pa_cons (pv 2) pa_nil))) rfl)
      (pss_cons (ps_set (i := 5) scPtInit.nd rfl (Or.inl rfl) (C8.pe_c cF hr (by decide) (by rfl) (pa_cons (pv 1) (pa_cons (pv 3) (pa_cons (pe_lst pa_nil) pa_nil)))))
      (pss_cons (ps_if (pt_cmp (pc_notN (pv 5))) (pss_one (ps_raise rfl (takes_of rfl rfl rfl rfl) (pmk_oex TI.ox TI.iC TI.tC GI (hr.mono (by decide)) bI .nil pass0 (by rfl) TI.gC (pa_cons (pv 5) pa_nil)))) pss_nil)
      (pss_cons (ps_set (i := 5) scPtInit.nd rfl (Or.inl rfl) (C8.pe_c cF hr (by decide) (by rfl) (pa_cons (pv 1) (pa_cons (pv 4) (pa_cons (pv 3) pa_nil)))))
      (pss_cons (ps_if (pt_cmp (pc_notN (pv 5))) (pss_one (ps_raise rfl (takes_of rfl rfl rfl rfl) (pmk_oex TO.ox TO.iC TO.tC GO (hr.mono (by decide)) bO .nil pass0 (by rfl) TO.gC (pa_cons (pv 5) pa_nil)))) pss_nil)
      (pss_cons (ps_fld (pv 0) (pe_callTy (r := rListOf K) call_list_of (by rfl) B.list boot_list (pa_cons (pv 3) pa_nil)) rfl)
      (pss_cons (ps_fld (pv 0) (pe_callTy (r := rListOf K) call_list_of (by rfl) B.list boot_list (pa_cons (pv 4) pa_nil)) rfl)
      (pss_one (ps_fld (pv 0) pe_dnewK rfl)))))))), ?_⟩
    refine ⟨_, rfl, _, rfl, fun wb dxw nwb ndw nex => ?_⟩
    have me := made_ex (o := .ins CW dxw []) nwb ndw
    have mx := (hid_ex (a := x) (b := x) (H := H)).trans me
    rcases h with ⟨hb, kb⟩ | ⟨n, rfl, hn, hst⟩
    · exact ⟨wb, dxw, v, u, rfl, upd_same, .inl ⟨hb.imp (fun z => z.ex mx) id, kb.ex mx⟩⟩
    refine ⟨wb, dxw, .int n, u, rfl, upd_same, .inr ⟨n, rfl, hn, (hst.ex mx).imp (fun i z => z.ex mx) fun ss z H1 ts dy lw kd ys ew fx flw0 flw hys hperm hso => ⟨rfl, ?_⟩⟩⟩
    obtain ⟨e1, w1, lw0⟩ := made_web nwb ndw ew fx flw0 flw hys
    have xw : x ≠ wb := ne_of_none hx nwb
    have xl : x ≠ lw := ne_of_none hx lw0
    refine ⟨_, rfl, x, C, dx, _, rfl, e1 _ _ hx, T.cl, T.nW, by show 0 < 1000; decide, ?_⟩
    have w2 := w1.upo (o := .ins C dx (putF "_web" (.ref wb) [])) (e1 _ _ hx) xw xl
    have e2 : Ex (hid x x H) (upd H1 x (.ins C dx (putF "_web" (.ref wb) []))) := hid_up2 (hid_ex.trans e1)
    have x2 : upd H1 x (.ins C dx (putF "_web" (.ref wb) [])) x = some (.ins C dx (putF "_web" (.ref wb) [])) := upd_same
    generalize upd H1 x (.ins C dx (putF "_web" (.ref wb) [])) = H2 at w2 e2 x2 ⊢
    refine ⟨_, rfl, _, rfl, Nat.zero_le _, fun t ht => ?_⟩
    have y3 := Ex.new (o := .lst []) ht
    have f3 : upd H2 t (.lst []) t = some (.lst []) := upd_same
    generalize upd H2 t (.lst []) = H3 at y3 f3 ⊢
    have e3 := e2.trans y3
    refine ⟨n, vi, t, [], rfl, .inl (SqL.of f3), Nat.zero_le _, (z.more.ex e3).imp (fun i kb H4 e4 => ?_) fun is z2 H4 e4 => ?_⟩
    · refine ⟨_, rfl, _, rfl, ?_⟩
      refine iteT ?_
      exact ⟨_, rfl, by show 1 ≤ 1000; decide, raise_go (kb.ex (e3.trans e4))⟩
    obtain ⟨z2, ai, rfl, hai, hil⟩ := z2
    refine ⟨_, rfl, _, rfl, iteF ?_⟩
    have e34 := e3.trans e4
    refine ⟨_, rfl, _, rfl, _, rfl, n, vo, ai, is, rfl, hai.ex e34, hil, (z2.more.ex e34).imp (fun i kb H5 e5 => ?_) fun os z3 H5 e5 => ?_⟩
    · refine ⟨_, rfl, _, rfl, ?_⟩
      refine iteT ?_
      exact ⟨_, rfl, by show 1 ≤ 1000; decide, raise_go (kb.ex (e34.trans e5))⟩
    obtain ⟨k, ao, rfl, hao, hol⟩ := z3
    refine ⟨_, rfl, _, rfl, iteF ?_⟩
    have e35 := e34.trans e5
    have y25 := y3.trans (e4.trans e5)
    refine ⟨_, rfl, ai, _, rfl, hai.ex e35, fun li hli => ?_⟩
    have y6 := Ex.new (o := .lst (is.map V.int)) hli
    have f6 : upd H5 li (.lst (is.map V.int)) li = some (.lst (is.map V.int)) := upd_same
    have li0 := back_x e35 (y25 _ _ x2) hli
    generalize upd H5 li (.lst (is.map V.int)) = H6 at y6 f6 ⊢
    have x6 := (y25.trans y6) _ _ x2
    have w6 := w2.ex (y25.trans y6)
    have xli : x ≠ li := ne_of_none (y25 _ _ x2) hli
    refine ⟨_, rfl, x, C, dx, _, rfl, x6, T.cl, T.nI, by show 1 < 1000; decide, ?_⟩
    have w7 := w6.upo (o := .ins C dx (putF "_ins" (.ref li) (putF "_web" (.ref wb) []))) x6 xw xl
    have e7 : Ex (hid x x H) (upd H6 x (.ins C dx (putF "_ins" (.ref li) (putF "_web" (.ref wb) [])))) := hid_up2 (e35.trans y6)
    have x7 : upd H6 x (.ins C dx (putF "_ins" (.ref li) (putF "_web" (.ref wb) []))) x = some (.ins C dx (putF "_ins" (.ref li) (putF "_web" (.ref wb) []))) := upd_same
    have f7 : upd H6 x (.ins C dx (putF "_ins" (.ref li) (putF "_web" (.ref wb) []))) li = some (.lst (is.map V.int)) := by
      rw [upd_ne xli.symm]
      exact f6
    generalize upd H6 x (.ins C dx (putF "_ins" (.ref li) (putF "_web" (.ref wb) []))) = H7 at w7 e7 x7 f7 ⊢
    refine ⟨_, rfl, ao, _, rfl, hao.ex e7, fun lo hlo => ?_⟩
    have lo0 := back_x e7 x7 hlo
    have xlo : x ≠ lo := ne_of_none x7 hlo
    have lilo : li ≠ lo := ne_of_none f7 hlo
    have y8 := Ex.new (o := .lst (os.map V.int)) hlo
    have f8 : upd H7 lo (.lst (os.map V.int)) lo = some (.lst (os.map V.int)) := upd_same
    generalize upd H7 lo (.lst (os.map V.int)) = H8 at y8 f8 ⊢
    have x8 := y8 _ _ x7
    have w8 := w7.ex y8
    have g8 := y8 _ _ f7
    refine ⟨_, rfl, x, C, dx, _, rfl, x8, T.cl, T.nO, by show 2 < 1000; decide, ?_⟩
    have w9 := w8.upo (o := .ins C dx (putF "_outs" (.ref lo) (putF "_ins" (.ref li) (putF "_web" (.ref wb) [])))) x8 xw xl
    have e9 : Ex (hid x x H) (upd H8 x (.ins C dx (putF "_outs" (.ref lo) (putF "_ins" (.ref li) (putF "_web" (.ref wb) []))))) := hid_up2 (e7.trans y8)
    have x9 : upd H8 x (.ins C dx (putF "_outs" (.ref lo) (putF "_ins" (.ref li) (putF "_web" (.ref wb) [])))) x = some (.ins C dx (putF "_outs" (.ref lo) (putF "_ins" (.ref li) (putF "_web" (.ref wb) [])))) := upd_same
    have i9 : upd H8 x (.ins C dx (putF "_outs" (.ref lo) (putF "_ins" (.ref li) (putF "_web" (.ref wb) [])))) li = some (.lst (is.map V.int)) := by
      rw [upd_ne xli.symm]
      exact g8
    have u9 : upd H8 x (.ins C dx (putF "_outs" (.ref lo) (putF "_ins" (.ref li) (putF "_web" (.ref wb) [])))) lo = some (.lst (os.map V.int)) := by
      rw [upd_ne xlo.symm]
      exact f8
    generalize upd H8 x (.ins C dx (putF "_outs" (.ref lo) (putF "_ins" (.ref li) (putF "_web" (.ref wb) [])))) = H9 at w9 e9 x9 i9 u9 ⊢
    refine fun kd hkd => ?_
    have y10 := Ex.new (o := .dK []) hkd
    generalize upd H9 kd (.dK []) = H10 at y10 ⊢
    have x10 := y10 _ _ x9
    have w10 := w9.ex y10
    refine ⟨_, rfl, x, C, dx, _, rfl, x10, T.cl, T.nK, by show 3 < 1000; decide, ?_⟩
    refine k _ ts wb lw li lo (hid_up2 (e9.trans y10)) ⟨⟨dx, kd, upd_same⟩, w10.upo x10 xw xl, ?_, ?_⟩ nwb lw0 li0 lo0 hperm hso
    · rw [upd_ne xli.symm]
      exact y10 _ _ i9
    · rw [upd_ne xlo.symm]
      exact y10 _ _ u9
end
end AA

set_option Elab.async false
set_option linter.all false
set_option maxRecDepth 100000
set_option maxHeartbeats 4000000
/-! What a part tells; parts beside one another. -/
namespace AA
open PySem PySem.Spec PyProof.Rows L2 Evl
theorem ints_eqvA : ∀ ns ms : List Int, PyData.eqvAll (ns.map PyData.int) (ms.map PyData.int) = decide (ns = ms)
  | [], [] => rfl
  | [], _ :: _ => rfl
  | _ :: _, [] => rfl
  | s :: r, t :: q => by
    show ((s == t) && PyData.eqvAll (r.map PyData.int) (q.map PyData.int)) = decide (s :: r = t :: q)
    rw [ints_eqvA r q, Bool.eq_iff_iff]
    simp
theorem ints_eqv (ns ms : List Int) : PyData.eqv (.list (ns.map PyData.int)) (.list (ms.map PyData.int)) = decide (ns = ms) := ints_eqvA ns ms
section
variable {P : Program} {w : World} {K : PySem.W.Frag} {mg : Str → Option Value} {base : Heap}
def spPWeb (K : PySem.W.Frag) (CW C : Addr) : Sp := fun vs H Q _ => ∃ (x wb lw li lo : Addr) (n : Int) (ss : List St5) (is os : List Int), vs = [.ref x] ∧ PtL K CW C H x wb lw li lo n ss is os ∧ Q (.ref wb) H
theorem scPWeb : FnScope ["self"] ["self"] (defScope sPartWeb) := ⟨rfl, rfl, rfl, by decide +kernel, rfl, by decide +kernel, by decide +kernel⟩
theorem ok_pweb {f CW C : Addr} {fd : FuncData} (F : L2.Fun K "web" "Part.web" sPartWeb f fd) (T : PtTxt K mg C) : FnOk P w K mg base CX0 1 f fd ["self"] (spPWeb K CW C) := by
  refine F.ok scPWeb (fun vs H Q E h => ?_) (fun cdv A outer s H vs Q E hr h => ?_)
  · obtain ⟨x, wb, lw, li, lo, n, ss, is, os, rfl, _⟩ := h
    rfl
  · obtain ⟨x, wb, lw, li, lo, n, ss, is, os, rfl, ⟨⟨dx, kd, h1⟩, h2, h3, h4⟩, k⟩ := h
    exact ⟨_, pss_one (ps_ret (pe_fld (pv 0) rfl)), _, rfl, x, C, dx, _, _, rfl, h1, T.cl, T.nW, pf_web _ _ _ _, k⟩
def spPIns (K : PySem.W.Frag) (CW C : Addr) : Sp := fun vs H Q _ => ∃ (x wb lw li lo : Addr) (n : Int) (ss : List St5) (is os : List Int), vs = [.ref x] ∧ PtL K CW C H x wb lw li lo n ss is os ∧ ∀ p, H p = none → Q (.ref p) (upd H p (.lst (is.map V.int)))
theorem scPIns : FnScope ["self"] ["self"] (defScope sPartIns) := ⟨rfl, rfl, rfl, by decide +kernel, rfl, by decide +kernel, by decide +kernel⟩
theorem ok_pins {f CW C : Addr} {fd : FuncData} (F : L2.Fun K "ins" "Part.ins" sPartIns f fd) (B : Bn mg) (T : PtTxt K mg C) : FnOk P w K mg base CX0 1 f fd ["self"] (spPIns K CW C) := by
  refine F.ok scPIns (fun vs H Q E h => ?_) (fun cdv A outer s H vs Q E hr h => ?_)
  · obtain ⟨x, wb, lw, li, lo, n, ss, is, os, rfl, _⟩ := h
    rfl
  · obtain ⟨x, wb, lw, li, lo, n, ss, is, os, rfl, ⟨⟨dx, kd, h1⟩, h2, h3, h4⟩, k⟩ := h
    refine ⟨_, pss_one (ps_ret (pe_callTy call_list_of (by rfl) B.list boot_list (pa_cons (pe_fld (pv 0) rfl) pa_nil))), ?_⟩
    exact ⟨_, rfl, x, C, dx, _, _, rfl, h1, T.cl, T.nI, pf_ins _ _ _ _, li, _, rfl, .inl (SqL.of h3), fun p hp => k p hp⟩
def spPOuts (K : PySem.W.Frag) (CW C : Addr) : Sp := fun vs H Q _ => ∃ (x wb lw li lo : Addr) (n : Int) (ss : List St5) (is os : List Int), vs = [.ref x] ∧ PtL K CW C H x wb lw li lo n ss is os ∧ ∀ p, H p = none → Q (.ref p) (upd H p (.lst (os.map V.int)))
theorem scPOuts : FnScope ["self"] ["self"] (defScope sPartOuts) := ⟨rfl, rfl, rfl, by decide +kernel, rfl, by decide +kernel, by decide +kernel⟩
theorem ok_pouts {f CW C : Addr} {fd : FuncData} (F : L2.Fun K "outs" "Part.outs" sPartOuts f fd) (B : Bn mg) (T : PtTxt K mg C) : FnOk P w K mg base CX0 1 f fd ["self"] (spPOuts K CW C) := by
  refine F.ok scPOuts (fun vs H Q E h => ?_) (fun cdv A outer s H vs Q E hr h => ?_)
  · obtain ⟨x, wb, lw, li, lo, n, ss, is, os, rfl, _⟩ := h
    rfl
  · obtain ⟨x, wb, lw, li, lo, n, ss, is, os, rfl, ⟨⟨dx, kd, h1⟩, h2, h3, h4⟩, k⟩ := h
    refine ⟨_, pss_one (ps_ret (pe_callTy call_list_of (by rfl) B.list boot_list (pa_cons (pe_fld (pv 0) rfl) pa_nil))), ?_⟩
    exact ⟨_, rfl, x, C, dx, _, _, rfl, h1, T.cl, T.nO, pf_outs _ _ _ _, lo, _, rfl, .inl (SqL.of h4), fun p hp => k p hp⟩
def PtAt (K : PySem.W.Frag) (CW C : Addr) (H : Hp) (x : Addr) (n : Int) (ss : List St5) (is os : List Int) : Prop := ∃ wb lw li lo, PtL K CW C H x wb lw li lo n ss is os
theorem PtAt.ex {CW C : Addr} {H H' : Hp} {x : Addr} {n : Int} {ss : List St5} {is os : List Int} (h : PtAt K CW C H x n ss is os) (e : Ex H H') : PtAt K CW C H' x n ss is os := let ⟨a, b, c, d, q⟩ := h; ⟨a, b, c, d, q.ex e⟩
def spPEq (K : PySem.W.Frag) (CW C : Addr) : Sp := fun vs H Q _ => ∃ (x : Addr) (v : V) (n : Int) (ss : List St5) (is os : List Int), vs = [.ref x, v] ∧ PtAt K CW C H x n ss is os ∧
  ((∃ t : Value, TyF K H v t ∧ PySem.W.kitOne K t (.ref C) = some false ∧ Q (.bl false) H) ∨ ∃ (y : Addr) (m : Int) (ts : List St5) (js ps : List Int), v = .ref y ∧ PtAt K CW C H y m ts js ps ∧
    ∀ H', Ext H H' → Q (.bl ((decide (n = m) && decide (ss = ts)) && (decide (is = js) && decide (os = ps)))) H')
theorem scPEq : FnScope ["self", "other"] ["self", "other"] (defScope sPartEq) := ⟨rfl, rfl, rfl, by decide +kernel, rfl, by decide +kernel, by decide +kernel⟩
theorem ok_peq {f fE CW C : Addr} {fd fdE : FuncData} (F : L2.Fun K "__eq__" "Part.__eq__" sPartEq f fd) (B : Bn mg) (T : PtTxt K mg C) (IC : InsK K C) (hC : PySem.W.kitOne K (.ref C) (.ref C) = some true)
    (GE : FnOk P w K mg base CX0 1 fE fdE ["self", "other"] (spEqV K CW)) (bE : Binds K fdE ["self", "other"] []) (hE : PySem.W.findIn K (.ref CW) "__eq__" = some (some (.ref fE))) (iE : PySem.W.isFn K (.ref fE) = true) : FnOk P w K mg base CX0 2 f fd ["self", "other"] (spPEq K CW C) := by
  refine F.ok scPEq (fun vs H Q E h => ?_) (fun cdv A outer s H vs Q E hr h => ?_)
  · obtain ⟨x, v, n, ss, is, os, rfl, _⟩ := h
    rfl
  · obtain ⟨x, v, n, ss, is, os, rfl, ⟨wb, lw, li, lo, ⟨dx, kd, h1⟩, h2, h3, h4⟩, h⟩ := h
    refine ⟨_, pss_cons (ps_if (pt_not (pt_val (pe_callB call_is1 (by rfl) B.isinstance boot_isinstance (pa_cons (pv 1) (pa_cons (pe_glob (v := .ref C) (by rfl) T.mgC rfl) pa_nil))))) (pss_one (ps_ret pe_bl)) pss_nil)
      (pss_one (ps_ret (pe_and (pe_cmpR (op_eqV GE bE hE iE hr) (pe_fld (pv 0) rfl) (pe_fld (pv 1) rfl) (nomark _)) (pe_and (pe_cmpR (op_eqD hr.units) (pe_fld (pv 0) rfl) (pe_fld (pv 1) rfl) (nomark _)) (pe_one (pe_cmpR (op_eqD hr.units) (pe_fld (pv 0) rfl) (pe_fld (pv 1) rfl) (nomark _))))))), ?_⟩
    rcases h with ⟨t, ht, hk, k⟩ | ⟨y, m, ts, js, ps, rfl, ⟨wb2, lw2, li2, lo2, ⟨dy, kd2, g1⟩, g2, g3, g4⟩, k⟩
    · exact ⟨_, rfl, v, _, t, .ref C, false, rfl, .own C, ht, hk, false, rfl, iteT k⟩
    · refine ⟨_, rfl, .ref y, _, .ref C, .ref C, true, rfl, .own C, .inl (.base (.ins g1 IC.cl IC.ha IC.hn IC.ht IC.hm)), hC, true, rfl, ?_⟩
      refine iteF ?_
      obtain ⟨dxa, kda, ysa, hxa, _⟩ := id h2
      obtain ⟨dxb, kdb, ysb, hxb, _⟩ := id g2
      refine ⟨_, rfl, x, C, dx, _, _, rfl, h1, T.cl, T.nW, pf_web _ _ _ _, _, rfl, y, C, dy, _, _, rfl, g1, T.cl, T.nW, pf_web _ _ _ _, ?_⟩
      refine ⟨wb, dxa, _, .ref CW, rfl, hxa, .ins hxb, by simp [PySem.W.notFirst], wb, .ref wb2, n, ss, rfl, h2.at, .inr ⟨wb2, m, ts, rfl, g2.at, fun H2 e2 => ⟨_, rfl, _, rfl, ?_⟩⟩⟩
      rw [Bool.xor_false]
      have k0 := k
      have e2' : Ex H H2 := e2
      cases hb : (decide (n = m) && decide (ss = ts)) with
      | false =>
        rw [hb] at k
        exact iteF (k H2 e2)
      | true =>
        rw [hb] at k
        refine iteT ?_
        refine ⟨_, rfl, x, C, dx, _, _, rfl, e2' _ _ h1, T.cl, T.nI, pf_ins _ _ _ _, _, rfl, y, C, dy, _, _, rfl, e2' _ _ g1, T.cl, T.nI, pf_ins _ _ _ _, ?_⟩
        refine ⟨_, _, .lst (SqL.of (e2' _ _ h3)) (dp_ints is), .lst (SqL.of (e2' _ _ g3)) (dp_ints js), shaped_ints is, shaped_ints js, _, rfl, ?_⟩
        rw [ints_eqv]
        cases hi : decide (is = js) with
        | false =>
          rw [hi] at k
          exact iteF (k H2 e2)
        | true =>
          rw [hi] at k
          refine iteT ?_
          refine ⟨_, rfl, x, C, dx, _, _, rfl, e2' _ _ h1, T.cl, T.nO, pf_outs _ _ _ _, _, rfl, y, C, dy, _, _, rfl, e2' _ _ g1, T.cl, T.nO, pf_outs _ _ _ _, ?_⟩
          refine ⟨_, _, .lst (SqL.of (e2' _ _ h4)) (dp_ints os), .lst (SqL.of (e2' _ _ g4)) (dp_ints ps), shaped_ints os, shaped_ints ps, ?_⟩
          rw [ints_eqv]
          exact k H2 e2
end
end AA

set_option Elab.async false
set_option linter.all false
set_option maxRecDepth 100000
set_option maxHeartbeats 4000000
/-! _law_tried. -/
namespace AA
open PySem PySem.Spec PyProof.Rows L2 Evl LamX
theorem takes_len {X : Cx} {W : WX} (tk : Takes X W) : Takes X (fun cv dv τ G => τ.length = X.N.length → W cv dv τ G) := fun u z ⟨a, B, sI, pins, τ, G, cv, dv, e, I, nb, up, sky, na, os, ag, w⟩ =>
  tk u z ⟨a, B, sI, pins, τ, G, cv, dv, e, I, nb, up, sky, na, os, ag, w I.len⟩
/-- how a lambda's exception is told -/
def TrE (CP CS CI CO : Addr) (Q : VK) : XK := fun cv dv G =>
  (cv = .ref CP ∧ ∃ dd v, dv = some dd ∧ G dd = some (.xd [(("places" : Str), v)]) ∧ ∀ p, G p = none → Q (.ref p) (upd G p (.tup [.str "places", v]))) ∨
  (cv = .ref CS ∧ ∃ dd v, dv = some dd ∧ G dd = some (.xd [(("index" : Str), v)]) ∧ ∀ p, G p = none → Q (.ref p) (upd G p (.tup [.str "steps", v]))) ∨
  (cv = .ref CI ∧ ∃ dd v, dv = some dd ∧ G dd = some (.xd [(("index" : Str), v)]) ∧ ∀ p, G p = none → Q (.ref p) (upd G p (.tup [.str "ins", v]))) ∨
  (cv = .ref CO ∧ ∃ dd v, dv = some dd ∧ G dd = some (.xd [(("index" : Str), v)]) ∧ ∀ p, G p = none → Q (.ref p) (upd G p (.tup [.str "outs", v])))
def TTried (CP CS CI CO : Addr) : (XK → Hp → VK → Prop) → Hp → VK → Prop := fun tl H Q => tl (TrE CP CS CI CO Q) H (fun v G => 2 ≤ sizeLine ∧ ∀ p, G p = none → Q (.ref p) (upd G p (.tup [.str "told", v])))
theorem scTried : FnScope ["_law_ask", "e"] ["_law_ask"] (defScope sTried) := ⟨rfl, rfl, rfl, by decide +kernel, rfl, by decide +kernel, by decide +kernel⟩
/-- which error is caught by which clause -/
structure ExmK (K : PySem.W.Frag) (CP CS CI CO : Addr) : Prop where
  pp : PySem.W.exmOne K (.ref CP) (.ref CP) = some true
  sp : PySem.W.exmOne K (.ref CS) (.ref CP) = some false
  ss : PySem.W.exmOne K (.ref CS) (.ref CS) = some true
  ip : PySem.W.exmOne K (.ref CI) (.ref CP) = some false
  is : PySem.W.exmOne K (.ref CI) (.ref CS) = some false
  ii : PySem.W.exmOne K (.ref CI) (.ref CI) = some true
  op : PySem.W.exmOne K (.ref CO) (.ref CP) = some false
  os : PySem.W.exmOne K (.ref CO) (.ref CS) = some false
  oi : PySem.W.exmOne K (.ref CO) (.ref CI) = some false
  oo : PySem.W.exmOne K (.ref CO) (.ref CO) = some true
theorem tried_gives {X : Cx} {q : Str} {g CP CS CI CO fP fS fI fO : Addr} {cdg : Value} (TP : ExT X.K X.mg "BadPlaces" "places" CP fP) (TS : ExT X.K X.mg "BadSteps" "index" CS fS) (TI : ExT X.K X.mg "BadIns" "index" CI fI) (TO : ExT X.K X.mg "BadOuts" "index" CO fO) (k : ExmK X.K CP CS CI CO) :
    GivesTo X ["_law_ask", "e"] "_law_tried" (defScope sTried) g cdg (defBody sTried) "_law_ask" q (TTried CP CS CI CO) := by
  intro f c' s H Q tl act hc h
  refine ⟨_, pss_one (ps_tryAs (X := (cxOf C8.CX0 X.prog X.w X.K X.mg X.base ["_law_ask", "e"] "_law_tried" (defScope sTried) g cdg X.A X.stack s H C8.E0).nox) (i := 1) (nm := "e") (Wo := fun _ _ _ _ => False)
      (l := [(.ref CP, fun a cls d => tRet (tTup (tCons (tC (.str "places")) (tCons (tXf a cls d CP "places" (tVar 1)) tNil)))), (.ref CS, fun a cls d => tRet (tTup (tCons (tC (.str "steps")) (tCons (tXf a cls d CS "index" (tVar 1)) tNil)))),
        (.ref CI, fun a cls d => tRet (tTup (tCons (tC (.str "ins")) (tCons (tXf a cls d CI "index" (tVar 1)) tNil)))), (.ref CO, fun a cls d => tRet (tTup (tCons (tC (.str "outs")) (tCons (tXf a cls d CO "index" (tVar 1)) tNil))))])
      (tb := fun W D σ H => ∃ Ech : XK, (∀ cls d σ' H', Ech cls d H' → σ'.length = 2 → W cls d σ' H') ∧ σ[0]? = some (some (.ref f)) ∧ H c' = some (CodeO c' q) ∧ tl Ech H (fun v G => 2 ≤ sizeLine ∧ ∀ p, G p = none → D.rt (.ref p) (upd G p (.tup [.str "told", v]))))
      rfl rfl scTried.nd rfl rfl L2.takes0 (fun W pn xe tk _ => ?_)
      (.cons ⟨rfl, by decide, .inl TP.gC⟩ (fun a oe cls d pn hz hf => pss_one (ps_ret (by exact (pe_tup (pa_cons pe_str (pa_cons (pe_xf TP.xf TP.no hz hf (pv 1)) pa_nil))))))
        (.cons ⟨rfl, by decide, .inl TS.gC⟩ (fun a oe cls d pn hz hf => pss_one (ps_ret (by exact (pe_tup (pa_cons pe_str (pa_cons (pe_xf TS.xf TS.no hz hf (pv 1)) pa_nil))))))
        (.cons ⟨rfl, by decide, .inl TI.gC⟩ (fun a oe cls d pn hz hf => pss_one (ps_ret (by exact (pe_tup (pa_cons pe_str (pa_cons (pe_xf TI.xf TI.no hz hf (pv 1)) pa_nil))))))
        (.cons ⟨rfl, by decide, .inl TO.gC⟩ (fun a oe cls d pn hz hf => pss_one (ps_ret (by exact (pe_tup (pa_cons pe_str (pa_cons (pe_xf TO.xf TO.no hz hf (pv 1)) pa_nil)))))) .nil))))), ?_⟩
  · refine ⟨fun pins s' σ H' D I h' => ?_⟩
    obtain ⟨Ech, hW, h1, h2, h3⟩ := h'
    refine PSs.run (t := tRet (tTup (tCons (tC (.str "told")) (tCons (fun σZ HZ Q => σZ[0]? = some (some (.ref f)) ∧ HZ c' = some (CodeO c' q) ∧ tl Ech HZ Q) tNil)))) ?_ pins s' σ H' D I ⟨h1, h2, h3⟩
    exact pss_one (ps_ret (pe_tup (pa_cons pe_str (pa_cons (act _ pn xe Ech _ _ (takes_len tk) hW) pa_nil))))
  · refine ⟨TrE CP CS CI CO Q, fun cv dv σ' G hE hl => ?_, rfl, hc, h⟩
    obtain ⟨x0, x1, rfl⟩ : ∃ x0 x1, σ' = [x0, x1] := two_ofl hl
    rcases hE with ⟨rfl, dd, v, rfl, hx, kq⟩ | ⟨rfl, dd, v, rfl, hx, kq⟩ | ⟨rfl, dd, v, rfl, hx, kq⟩ | ⟨rfl, dd, v, rfl, hx, kq⟩
    · refine ⟨true, k.pp, fun _ ea hea => ?_, fun z => nomatch z⟩
      exact ⟨_, rfl, rfl, rfl, dd, _, v, rfl, hx, rfl, by show 2 ≤ sizeLine; decide, fun p hp => kq p hp⟩
    · refine ⟨false, k.sp, (fun z => nomatch z), fun _ => ⟨true, k.ss, fun _ ea hea => ?_, fun z => nomatch z⟩⟩
      exact ⟨_, rfl, rfl, rfl, dd, _, v, rfl, hx, rfl, by show 2 ≤ sizeLine; decide, fun p hp => kq p hp⟩
    · refine ⟨false, k.ip, (fun z => nomatch z), fun _ => ⟨false, k.is, (fun z => nomatch z), fun _ => ⟨true, k.ii, fun _ ea hea => ?_, fun z => nomatch z⟩⟩⟩
      exact ⟨_, rfl, rfl, rfl, dd, _, v, rfl, hx, rfl, by show 2 ≤ sizeLine; decide, fun p hp => kq p hp⟩
    · refine ⟨false, k.op, (fun z => nomatch z), fun _ => ⟨false, k.os, (fun z => nomatch z), fun _ => ⟨false, k.oi, (fun z => nomatch z), fun _ => ⟨true, k.oo, fun _ ea hea => ?_, fun z => nomatch z⟩⟩⟩⟩
      exact ⟨_, rfl, rfl, rfl, dd, _, v, rfl, hx, rfl, by show 2 ≤ sizeLine; decide, fun p hp => kq p hp⟩
end AA

set_option Elab.async false
set_option linter.all false
set_option maxRecDepth 100000
set_option maxHeartbeats 4000000
/-! _law_part. -/
namespace AA
open PySem PySem.Spec PyProof.Rows L2 Evl
/-- doors as the laws draw them -/
structure DrOk (n : Int) (is os : List Int) : Prop where
  nd : (is ++ os).Nodup
  rg : ∀ i ∈ is ++ os, 0 ≤ i ∧ i < n
  i1 : is ≠ []
  o1 : os ≠ []
  i2 : is.length ≤ 2
  o2 : os.length ≤ 2
theorem cut_fr (xs : List V) (j : Nat) : cutV xs (some (j : Int)) none = xs.drop j := by
  unfold cutV
  rw [HT.sIx_none, HT.sIx_nat]
  by_cases h : j ≤ xs.length
  · rw [Nat.min_eq_left h, List.take_of_length_le (by rw [List.length_drop]; omega)]
  · rw [Nat.min_eq_right (by omega), Nat.sub_self, List.drop_of_length_le (by omega), List.take_nil]
    exact (List.drop_of_length_le (by omega)).symm
section
variable {P : Program} {w : World} {K : PySem.W.Frag} {mg : Str → Option Value} {base : Heap}
def spPart (K : PySem.W.Frag) : Sp := fun vs H Q _ => ∃ (a b : Addr) (n : Nat) (o m y : Int), vs = [.ref a, .int o, .int m, .int y] ∧ SAt H a b n ∧ n < 700000000 ∧ 2 ≤ o ∧ o ≤ 100 ∧ 10 ≤ m ∧ m ≤ 100 ∧
  ∀ (H' : Hp) (p l li lo : Addr) (c : Int) (vs : List V) (ss : List St5) (is os : List Int), ExS a b H H' → SAt H' a b (n + 20000) → H p = none → H l = none → H li = none → H lo = none → H' p = some (.tup [.int c, .ref l, .ref li, .ref lo]) → H' l = some (.lst vs) → DpAll K (tps H') vs (ss.map stD) →
    H' li = some (.lst (is.map V.int)) → H' lo = some (.lst (os.map V.int)) → WbOk c ss → DrOk c is os → c ≤ o → (ss.length : Int) ≤ m → Q (.ref p) H'
abbrev nmPart : List Str := ["_law_stream_here", "_law_most", "_law_many", "_law_way", "_law_places", "_law_found", "_law_order", "_law_inner", "_law_outer", "_law_ins", "_law_outs", "_law_line", "_law_one", "_law_other", "_law_k", "_law_step_here"]
theorem scPart : FnScope nmPart ["_law_stream_here", "_law_most", "_law_many", "_law_way"] (defScope sPart) := ⟨rfl, rfl, rfl, by decide +kernel, rfl, by decide +kernel, by decide +kernel⟩
theorem ok_part {f : Addr} {fd : FuncData} (F : L2.Fun K "_law_part" "_law_part" sPart f fd) (T : Bn mg) (hmin : mg "min" = none) (cD : C8.Cal P w K mg base 1 "_law_draw" spDraw []) (cM : C8.Cal P w K mg base 2 "_law_mixed" (spMixed K) []) (cS : C8.Cal P w K mg base 4 "_law_step" (spStep K) []) :
    FnOk P w K mg base CX0 5 f fd ["_law_stream_here", "_law_most", "_law_many", "_law_way"] (spPart K) := by
  refine F.ok scPart (fun vs H Q E h => ?_) (fun cdv A outer s H vs Q E hr h => ?_)
  · obtain ⟨a, b, n, o, m, y, rfl, _⟩ := h
    rfl
  · obtain ⟨a, b, n, o, m, y, rfl, hS, hn, o1, o2, m1, m2, k⟩ := h
    refine ⟨_, Evl.pss_cut (ps_par (i := 4) (j := 5) (by rfl) scPart.nd rfl rfl (by decide) rfl rfl (pa_cons (pe_op op_add pe_int (C8.pe_c cD hr (by decide) (by rfl) (pa_cons (pv 0) (pa_cons (pe_op op_sub (pv 1) pe_int) pa_nil)))) (pa_cons (pe_lst pa_nil) pa_nil)) (by rfl))
      (Evl.pss_cut (ps_set (i := 6) scPart.nd rfl (Or.inl rfl) (C8.pe_c cM hr (by decide) (by rfl) (pa_cons (pv 0) (pa_cons (pe_listRg (by rfl) (by rfl) T.list (prg_1 (by rfl) T.range (pv 4))) pa_nil))))
      (Evl.pss_cut (ps_set (i := 7) scPart.nd rfl (Or.inl rfl) (pe_op op_add pe_int (C8.pe_c cD hr (by decide) (by rfl) (pa_cons (pv 0) (pa_cons (pe_callB (call_min2 (by rfl)) (by rfl) hmin (by decide +kernel) (pa_cons pe_int (pa_cons (pe_op op_sub (pv 4) pe_int) pa_nil))) pa_nil)))))
      (Evl.pss_cut (ps_set (i := 8) scPart.nd rfl (Or.inl rfl) (pe_op op_add pe_int (C8.pe_c cD hr (by decide) (by rfl) (pa_cons (pv 0) (pa_cons (pe_callB (call_min2 (by rfl)) (by rfl) hmin (by decide +kernel) (pa_cons pe_int (pa_cons (pe_op op_sub (pv 4) (pv 7)) pa_nil))) pa_nil)))))
      (Evl.pss_cut (ps_par (i := 9) (j := 10) (by rfl) scPart.nd rfl rfl (by decide) rfl rfl (pa_cons (pe_slice sl_list (pv 6) po_none (po_some (pv 7))) (pa_cons (pe_slice sl_list (pv 6) (po_some (pv 7)) (po_some (pe_op op_add (pv 7) (pv 8)))) pa_nil)) (by rfl))
      (Evl.pss_cut (ps_set (i := 11) scPart.nd rfl (Or.inl rfl) (pe_op op_cat (pe_op op_cat (pe_lst (pa_cons (pe_ix ix_list (pv 9) pe_int (fun _ _ => rfl)) pa_nil))
          (pe_slice sl_list (C8.pe_c cM hr (by decide) (by rfl) (pa_cons (pv 0) (pa_cons (pe_slice sl_list (pv 6) (po_some (pe_op op_add (pv 7) (pv 8))) po_none) pa_nil))) po_none (po_some (C8.pe_c cD hr (by decide) (by rfl) (pa_cons (pv 0) (pa_cons pe_int pa_nil))))))
          (pe_lst (pa_cons (pe_ix ix_list (pv 10) pe_int (fun _ _ => rfl)) pa_nil))))
      (Evl.pss_cut (ps_for PassesOwn.never rfl (RZ.pi_zipA (by rfl) T.zip (pa_cons (pv 11) (pa_cons (pe_slice sl_list (pv 11) (po_some pe_int) po_none) pa_nil))) (pg_tup (n := 2) rfl (pgs_cons (pg_name (i := 12) scPart.nd rfl (.inl rfl)) (pgs_cons (pg_name (i := 13) scPart.nd rfl (.inl rfl)) pgs_nil)))
          (pss_one (ps_expr (pe_bm PySem.F.plainAttrs_list PySem.F.slot_list_append PySem.F.type_list_append mt_append (pv 5) (pa_cons (C8.pe_c cS hr (by decide) (by rfl) (pa_cons (pv 0) (pa_cons (pv 12) (pa_cons (pv 13) (pa_cons (pv 3) pa_nil))))) pa_nil)))))
      (Evl.pss_cut (ps_for PassesOwn.never rfl (pi_range1 rfl T.range (pa_cons (C8.pe_c cD hr (by decide) (by rfl) (pa_cons (pv 0) (pa_cons (pe_op op_add (pe_op op_sub (pv 2) (pe_callB call_len_seq (by rfl) T.len PySem.boot_len (pa_cons (pv 5) pa_nil))) pe_int) pa_nil))) pa_nil)) (pg_name (i := 14) scPart.nd rfl (Or.inl rfl))
          (pss_cons (ps_set (i := 15) scPart.nd rfl (Or.inl rfl) (C8.pe_c cS hr (by decide) (by rfl) (pa_cons (pv 0) (pa_cons (C8.pe_c cD hr (by decide) (by rfl) (pa_cons (pv 0) (pa_cons (pv 4) pa_nil))) (pa_cons (C8.pe_c cD hr (by decide) (by rfl) (pa_cons (pv 0) (pa_cons (pv 4) pa_nil))) (pa_cons (pv 3) pa_nil))))))
          (pss_one (ps_expr (pe_bm PySem.F.plainAttrs_list PySem.F.slot_list_extend PySem.F.type_list_extend mt_extend (pv 5) (pa_cons (pe_ifExp (pt_cmpR (op_notInD (Room.u65 hr)) (pv 15) (pv 5) (by rfl)) (pe_lst (pa_cons (pv 15) pa_nil)) (pe_lst pa_nil)) pa_nil))))))
      (pss_one (ps_ret (pe_tup (pa_cons (pv 4) (pa_cons (C8.pe_c cM hr (by decide) (by rfl) (pa_cons (pv 0) (pa_cons (pv 5) pa_nil))) (pa_cons (pv 9) (pa_cons (pv 10) pa_nil)))))))))))))), ?_⟩
    -- places, found
    refine ⟨fun σ G => ∃ (c : Int) (g : Addr), σ = [some (.ref a), some (.int o), some (.int m), some (.int y), some (.int c), some (.ref g), none, none, none, none, none, none, none, none, none, none] ∧ ExS a b H G ∧ SAt G a b (n + 1) ∧ H g = none ∧ G g = some (.lst []) ∧ 2 ≤ c ∧ c ≤ o, ?_, ?_⟩
    · refine ⟨_, rfl, _, rfl, _, _, rfl, rfl, a, b, n, o - 1, rfl, hS, by omega, by omega, by omega, fun H1 d e1 s1 d0 d1 => ?_⟩
      refine ⟨_, _, rfl, rfl, Nat.zero_le _, fun g hg => ⟨_, _, rfl, 2 + d, g, rfl, ExS.new e1 hg, s1.ex (Ex.new hg), ExS.back e1 s1 hg, upd_same, by omega, by omega⟩⟩
    rintro σ H1 ⟨c, g, rfl, hE1, hS1, hg, hG1, c1, c2⟩
    have ga := hS.nea hg
    have gb := hS.neb hg
    -- order
    refine ⟨fun σ G => ∃ (p : Addr) (ms : List Int), σ = [some (.ref a), some (.int o), some (.int m), some (.int y), some (.int c), some (.ref g), some (.ref p), none, none, none, none, none, none, none, none, none] ∧ ExS a b H G ∧ SAt G a b (n + 200) ∧ H p = none ∧ G g = some (.lst []) ∧ G p = some (.lst (ms.map V.int)) ∧ ms.Nodup ∧ (∀ x ∈ ms, 0 ≤ x ∧ x < c) ∧ (ms.length : Int) = c, ?_, ?_⟩
    · refine ⟨_, rfl, _, rfl, _, rfl, RgOk.of_le (by omega) (by omega) (by omega) (by omega), fun q hq => ?_⟩
      have qa := hS1.nea hq
      have qb := hS1.neb hq
      have hqg : g ≠ q := ne_of_none hG1 hq
      have hlen : (rgV 0 c).length = c.toNat := by
        rw [rgV_length]
        congr 1
        omega
      refine ⟨a, b, n + 1, q, rgV 0 c, rfl, hS1.upd qa qb, SqL.of (by rw [hid_ne qa qb]; exact upd_same), by omega, by omega, fun H3 p zs e3 s3 hp hP hperm => ?_⟩
      rw [rgV_ints] at hperm
      obtain ⟨ms, rfl, hms⟩ := perm_ints hperm
      have hnd : ms.Nodup := hms.symm.nodup (range_nodup _)
      have hml : ms.length = c.toNat := by rw [hms.length_eq, List.length_map, List.length_range]
      have hmb : ∀ x ∈ ms, 0 ≤ x ∧ x < c := fun x hx => by
        obtain ⟨i, hi, rfl⟩ := List.mem_map.mp (hms.mem_iff.mp hx)
        have := List.mem_range.mp hi
        omega
      have hq0 : H1 p = none := by
        have : upd H1 q (.lst (rgV 0 c)) p = none := hp
        by_cases hpq : p = q
        · rw [hpq]
          exact hq
        · rw [upd_ne hpq] at this
          exact this
      exact ⟨p, ms, rfl, hE1.trans ((hid_mono (Ex.new hq)).trans e3), s3.mono (by omega), ExS.back hE1 hS1 hq0, e3.at (by rw [upd_ne hqg]; exact hG1) ga gb, hP, hnd, hmb, by omega⟩
    rintro σ H2 ⟨p, ms, rfl, hE2, hS2, hp0, hG2, hP2, hnd, hmb, hml⟩
    have pa := hS.nea hp0
    have pb := hS.neb hp0
    -- inner
    refine ⟨fun σ G => ∃ i : Nat, σ = [some (.ref a), some (.int o), some (.int m), some (.int y), some (.int c), some (.ref g), some (.ref p), some (.int (i : Int)), none, none, none, none, none, none, none, none] ∧ ExS a b H G ∧ SAt G a b (n + 201) ∧ G g = some (.lst []) ∧ G p = some (.lst (ms.map V.int)) ∧ 1 ≤ i ∧ i ≤ 2 ∧ (i : Int) + 1 ≤ c, ?_, ?_⟩
    · refine ⟨_, rfl, _, rfl, _, _, rfl, rfl, _, _, rfl, a, b, n + 200, _, rfl, hS2, by omega, ?_, ?_, fun H3 d e3 s3 d0 d1 => ?_⟩
      · split <;> omega
      · split <;> omega
      · refine ⟨_, _, rfl, rfl, (1 + d).toNat, ?_, hE2.trans e3, s3, e3.at hG2 ga gb, e3.at hP2 pa pb, by omega, ?_, ?_⟩
        · show [_, _, _, _, _, _, _, some (V.int (1 + d)), _, _, _, _, _, _, _, _] = _
          rw [show (((1 + d).toNat : Nat) : Int) = 1 + d by omega]
        · split at d1 <;> omega
        · split at d1 <;> omega
    rintro σ H3 ⟨i, rfl, hE3, hS3, hG3, hP3, i1, i2, i3⟩
    -- outer
    refine ⟨fun σ G => ∃ u : Nat, σ = [some (.ref a), some (.int o), some (.int m), some (.int y), some (.int c), some (.ref g), some (.ref p), some (.int (i : Int)), some (.int (u : Int)), none, none, none, none, none, none, none] ∧ ExS a b H G ∧ SAt G a b (n + 202) ∧ G g = some (.lst []) ∧ G p = some (.lst (ms.map V.int)) ∧ 1 ≤ u ∧ u ≤ 2 ∧ (i : Int) + u ≤ c, ?_, ?_⟩
    · refine ⟨_, rfl, _, rfl, _, rfl, _, _, rfl, rfl, _, _, rfl, a, b, n + 201, _, rfl, hS3, by omega, ?_, ?_, fun H4 d e4 s4 d0 d1 => ?_⟩
      · split <;> omega
      · split <;> omega
      · refine ⟨_, _, rfl, rfl, (1 + d).toNat, ?_, hE3.trans e4, s4, e4.at hG3 ga gb, e4.at hP3 pa pb, by omega, ?_, ?_⟩
        · show [_, _, _, _, _, _, _, _, some (V.int (1 + d)), _, _, _, _, _, _, _] = _
          rw [show (((1 + d).toNat : Nat) : Int) = 1 + d by omega]
        · split at d1 <;> omega
        · split at d1 <;> omega
    rintro σ H4 ⟨u, rfl, hE4, hS4, hG4, hP4, u1, u2, u3⟩
    have hiu : i + u ≤ ms.length := by omega
    generalize hisE : ms.take i = is
    generalize hosE : (ms.drop i).take u = os
    have hsplit : is ++ os ++ ms.drop (i + u) = ms := by
      rw [← hisE, ← hosE, ← List.drop_drop, List.append_assoc, List.take_append_drop, List.take_append_drop]
    have hndA : (is ++ os ++ ms.drop (i + u)).Nodup := by rw [hsplit]; exact hnd
    have memA : ∀ x ∈ is ++ os ++ ms.drop (i + u), 0 ≤ x ∧ x < c := by rw [hsplit]; exact hmb
    have hil : is.length = i := by rw [← hisE, List.length_take]; omega
    have hul : os.length = u := by rw [← hosE, List.length_take, List.length_drop]; omega
    have hdr : DrOk c is os := ⟨(List.nodup_append.mp hndA).1, fun x hx => memA x (List.mem_append_left _ hx), fun z => by rw [z] at hil; simp at hil; omega, fun z => by rw [z] at hul; simp at hul; omega, by omega, by omega⟩
    -- ins, outs
    refine ⟨fun σ G => ∃ li lo : Addr, σ = [some (.ref a), some (.int o), some (.int m), some (.int y), some (.int c), some (.ref g), some (.ref p), some (.int (i : Int)), some (.int (u : Int)), some (.ref li), some (.ref lo), none, none, none, none, none] ∧ ExS a b H G ∧ SAt G a b (n + 202) ∧ G g = some (.lst []) ∧ G p = some (.lst (ms.map V.int)) ∧ H li = none ∧ H lo = none ∧ g ≠ li ∧ g ≠ lo ∧ G li = some (.lst (is.map V.int)) ∧ G lo = some (.lst (os.map V.int)), ?_, ?_⟩
    · refine ⟨_, rfl, _, rfl, _, rfl, p, _, rfl, SqL.of hP4, fun li hli => ?_⟩
      rw [cut_to, ← List.map_take, hisE]
      have y1 := Ex.new (o := .lst (is.map V.int)) hli
      have f1 : upd H4 li (.lst (is.map V.int)) li = some (.lst (is.map V.int)) := upd_same
      have gl := ne_of_none hG4 hli
      generalize upd H4 li (.lst (is.map V.int)) = H5 at y1 f1 ⊢
      refine ⟨_, rfl, _, rfl, _, rfl, _, rfl, _, rfl, _, _, rfl, rfl, _, rfl, p, _, rfl, SqL.of (y1 _ _ hP4), fun lo hlo => ?_⟩
      rw [cut_mid _ i u (by rw [List.length_map]; exact hiu), ← List.map_drop, ← List.map_take, hosE]
      have y2 := Ex.new (o := .lst (os.map V.int)) hlo
      have gl2 := ne_of_none (y1 _ _ hG4) hlo
      exact ⟨_, _, rfl, li, lo, rfl, hE4.trans (hid_mono (y1.trans y2)), hS4.ex (y1.trans y2), (y1.trans y2) _ _ hG4, (y1.trans y2) _ _ hP4, ExS.back hE4 hS4 hli, ExS.back hE4 hS4 (fresh_back y1 hlo), gl, gl2, y2 _ _ f1, upd_same⟩
    rintro σ H5 ⟨li, lo, rfl, hE5, hS5, hG5, hP5, li0, lo0, gli, glo, hLi5, hLo5⟩
    have lia := hS.nea li0
    have lib := hS.neb li0
    have loa := hS.nea lo0
    have lob := hS.neb lo0
    obtain ⟨x0, xr, hx0⟩ : ∃ x0 xr, is = x0 :: xr := by
      cases is with
      | nil => exact absurd rfl hdr.i1
      | cons x r => exact ⟨x, r, rfl⟩
    obtain ⟨z0, zr, hz0⟩ : ∃ z0 zr, os = z0 :: zr := by
      cases os with
      | nil => exact absurd rfl hdr.o1
      | cons x r => exact ⟨x, r, rfl⟩
    have i0at : atI (is.map V.int) 0 = some (.int x0) := by rw [hx0]; exact atI_nat (j := 0) rfl
    have o0at : atI (os.map V.int) 0 = some (.int z0) := by rw [hz0]; exact atI_nat (j := 0) rfl
    -- line
    refine ⟨fun σ G => ∃ (L : Addr) (ln : List Int), σ = [some (.ref a), some (.int o), some (.int m), some (.int y), some (.int c), some (.ref g), some (.ref p), some (.int (i : Int)), some (.int (u : Int)), some (.ref li), some (.ref lo), some (.ref L), none, none, none, none] ∧ ExS a b H G ∧ SAt G a b (n + 800) ∧ G g = some (.lst []) ∧ G li = some (.lst (is.map V.int)) ∧ G lo = some (.lst (os.map V.int)) ∧ H L = none ∧ g ≠ L ∧ G L = some (.lst (ln.map V.int)) ∧ ln.Nodup ∧ (∀ x ∈ ln, 0 ≤ x ∧ x < c) ∧ ln.length ≤ 4, ?_, ?_⟩
    · refine ⟨_, rfl, li, _, 0, .int x0, rfl, rfl, SqL.of hLi5, i0at, by show 1 ≤ sizeLine; decide, fun A0 hA0 => ?_⟩
      have y1 := Ex.new (o := .lst [V.int x0]) hA0
      have f1 : upd H5 A0 (.lst [V.int x0]) A0 = some (.lst [V.int x0]) := upd_same
      have A0a := hS5.nea hA0
      have A0b := hS5.neb hA0
      generalize upd H5 A0 (.lst [V.int x0]) = J1 at y1 f1 ⊢
      refine ⟨_, rfl, _, rfl, _, rfl, _, rfl, _, _, rfl, rfl, _, rfl, p, _, rfl, SqL.of (y1 _ _ hP5), fun r hr0 => ?_⟩
      rw [show ((i : Int) + (u : Int)) = ((i + u : Nat) : Int) by omega]
      rw [cut_fr, ← List.map_drop]
      have y2 := Ex.new (o := .lst ((ms.drop (i + u)).map V.int)) hr0
      have f2 : upd J1 r (.lst ((ms.drop (i + u)).map V.int)) r = some (.lst ((ms.drop (i + u)).map V.int)) := upd_same
      generalize upd J1 r (.lst ((ms.drop (i + u)).map V.int)) = J2 at y2 f2 ⊢
      have e2 := y1.trans y2
      have s2 := hS5.ex e2
      have r00 := fresh_back y1 hr0
      refine ⟨a, b, n + 202, r, _, rfl, s2, SqL.of (by rw [hid_ne (hS5.nea r00) (hS5.neb r00)]; exact f2), by rw [List.length_map, List.length_drop]; omega, by rw [List.length_map, List.length_drop]; omega, fun J3 q zs e3 s3 hq hQ hperm => ?_⟩
      obtain ⟨ns, rfl, hns⟩ := perm_ints hperm
      rw [List.length_map, List.length_drop] at s3
      refine ⟨_, rfl, a, b, _, 3, rfl, s3, by omega, by decide, by decide, fun J4 d e4 s4 d0 d1 => ?_⟩
      obtain ⟨j, rfl⟩ : ∃ j : Nat, d = (j : Int) := ⟨d.toNat, by omega⟩
      have qq : hid a b J3 q = some (.lst (ns.map V.int)) := by
        rw [hid_ne (s2.nea hq) (s2.neb hq)]
        exact hQ
      refine ⟨_, rfl, q, _, rfl, SqL.of (hid_ex _ _ (e4 _ _ qq)), fun B0 hB0 => ?_⟩
      rw [cut_to, ← List.map_take]
      have e24 : ExS a b J1 J4 := (hid_mono y2).trans (e3.trans e4)
      have g4 : J4 A0 = some (.lst [V.int x0]) := e24.at f1 A0a A0b
      have y5 := Ex.new (o := .lst ((ns.take j).map V.int)) hB0
      have f5 : upd J4 B0 (.lst ((ns.take j).map V.int)) B0 = some (.lst ((ns.take j).map V.int)) := upd_same
      generalize upd J4 B0 (.lst ((ns.take j).map V.int)) = J5 at y5 f5 ⊢
      have hj : (ns.take j).length ≤ 2 := by rw [List.length_take]; omega
      refine ⟨A0, B0, _, _, rfl, rfl, y5 _ _ g4, f5, by rw [List.length_map]; exact sz_le (by show 1 + _ ≤ _; omega), fun D0 hD0 => ?_⟩
      have y6 := Ex.new (o := .lst ([V.int x0] ++ (ns.take j).map V.int)) hD0
      have f6 : upd J5 D0 (.lst ([V.int x0] ++ (ns.take j).map V.int)) D0 = some (.lst ([V.int x0] ++ (ns.take j).map V.int)) := upd_same
      generalize upd J5 D0 (.lst ([V.int x0] ++ (ns.take j).map V.int)) = J6 at y6 f6 ⊢
      have e15 : ExS a b H5 J6 := (hid_mono y1).trans (e24.trans (hid_mono (y5.trans y6)))
      have s6 := s4.ex (y5.trans y6)
      refine ⟨_, rfl, lo, _, 0, .int z0, rfl, rfl, SqL.of (e15.at hLo5 loa lob), o0at, by show 1 ≤ sizeLine; decide, fun C0 hC0 => ?_⟩
      have y7 := Ex.new (o := .lst [V.int z0]) hC0
      have f7 : upd J6 C0 (.lst [V.int z0]) C0 = some (.lst [V.int z0]) := upd_same
      generalize upd J6 C0 (.lst [V.int z0]) = J7 at y7 f7 ⊢
      refine ⟨D0, C0, _, _, rfl, rfl, y7 _ _ f6, f7, sz_le (by rw [List.length_append, List.length_map]; show 1 + _ + 1 ≤ _; omega), fun L hL => ?_⟩
      have e17 : ExS a b H5 J7 := e15.trans (hid_mono y7)
      have s7 := s6.ex y7
      have hL5 : H5 L = none := e17.back s7 hL
      have y8 := Ex.new (o := .lst (([V.int x0] ++ (ns.take j).map V.int) ++ [V.int z0])) hL
      have hlnE : ([V.int x0] ++ (ns.take j).map V.int) ++ [V.int z0] = ([x0] ++ ns.take j ++ [z0]).map V.int := by rw [List.map_append, List.map_append]; rfl
      have mx0 : x0 ∈ is := by rw [hx0]; exact List.mem_cons_self
      have mz0 : z0 ∈ os := by rw [hz0]; exact List.mem_cons_self
      have mns : ∀ x ∈ ns.take j, x ∈ ms.drop (i + u) := fun x hx => hns.mem_iff.mp (List.mem_of_mem_take hx)
      have hnA := List.nodup_append.mp hndA
      have hnB := List.nodup_append.mp hnA.1
      refine ⟨L, [x0] ++ ns.take j ++ [z0], rfl, hE5.trans (ExS.new e17 hL), (s7.ex y8).mono (by omega), y8 _ _ (e17.at hG5 ga gb), y8 _ _ (e17.at hLi5 lia lib), y8 _ _ (e17.at hLo5 loa lob), ExS.back hE5 hS5 hL5, ne_of_none (e17.at hG5 ga gb) hL, by rw [← hlnE]; exact upd_same, ?_, ?_, ?_⟩
      · refine List.nodup_append.mpr ⟨List.nodup_append.mpr ⟨by simp, (hns.symm.nodup hnA.2.1).sublist (List.take_sublist _ _), fun x hx z hz e => ?_⟩, by simp, fun x hx z hz e => ?_⟩
        · obtain rfl : x = x0 := by simpa using hx
          subst e
          exact hnA.2.2 x (List.mem_append_left _ mx0) x (mns x hz) rfl
        · obtain rfl : z = z0 := by simpa using hz
          subst e
          rcases List.mem_append.mp hx with hx | hx
          · obtain rfl : x = x0 := by simpa using hx
            exact hnB.2.2 x mx0 x mz0 rfl
          · exact hnA.2.2 x (List.mem_append_right _ mz0) x (mns x hx) rfl
      · intro x hx
        rcases List.mem_append.mp hx with hx | hx
        · rcases List.mem_append.mp hx with hx | hx
          · obtain rfl : x = x0 := by simpa using hx
            exact memA x (List.mem_append_left _ (List.mem_append_left _ mx0))
          · exact memA x (List.mem_append_right _ (mns x hx))
        · obtain rfl : x = z0 := by simpa using hx
          exact memA x (List.mem_append_left _ (List.mem_append_right _ mz0))
      · rw [List.length_append, List.length_append]
        show 1 + _ + 1 ≤ 4
        omega
    rintro σ H6 ⟨L, ln, rfl, hE6, hS6, hG6, hLi6, hLo6, L0, gL, hL6, hlnd, hlnb, hlnl⟩
    have La := hS.nea L0
    have Lb := hS.neb L0
    -- what stands
    have kp : ∀ {G G' : Hp}, ExS a b G G' → (G li = some (.lst (is.map V.int)) ∧ G lo = some (.lst (os.map V.int))) → (G' li = some (.lst (is.map V.int)) ∧ G' lo = some (.lst (os.map V.int))) := fun e z => ⟨e.at z.1 lia lib, e.at z.2 loa lob⟩
    have kg : ∀ {G : Hp} {o : HO}, (G li = some (.lst (is.map V.int)) ∧ G lo = some (.lst (os.map V.int))) → (upd G g o li = some (.lst (is.map V.int)) ∧ upd G g o lo = some (.lst (os.map V.int))) := fun z => ⟨by rw [upd_ne gli.symm]; exact z.1, by rw [upd_ne glo.symm]; exact z.2⟩
    -- the line's steps
    refine ⟨fun σ G => ∃ (x12 x13 : Option V) (vs : List V) (ss : List St5), σ = [some (.ref a), some (.int o), some (.int m), some (.int y), some (.int c), some (.ref g), some (.ref p), some (.int (i : Int)), some (.int (u : Int)), some (.ref li), some (.ref lo), some (.ref L), x12, x13, none, none] ∧ ExS a b H G ∧ SAt G a b (n + 900) ∧
      (G li = some (.lst (is.map V.int)) ∧ G lo = some (.lst (os.map V.int))) ∧ G g = some (.lst vs) ∧ DpAll K (tps G) vs (ss.map stD) ∧ WbOk c ss ∧ ss.length ≤ 4, ?_, ?_⟩
    · refine ⟨_, rfl, _, rfl, _, rfl, L, _, rfl, SqL.of hL6, fun L2 hL2 => ?_⟩
      rw [show (1 : Int) = ((1 : Nat) : Int) from rfl, cut_fr, ← List.map_drop]
      have y1 := Ex.new (o := .lst ((ln.drop 1).map V.int)) hL2
      have f1 : upd H6 L2 (.lst ((ln.drop 1).map V.int)) L2 = some (.lst ((ln.drop 1).map V.int)) := upd_same
      have gL2 := ne_of_none hG6 hL2
      have L2a := hS6.nea hL2
      have L2b := hS6.neb hL2
      generalize upd H6 L2 (.lst ((ln.drop 1).map V.int)) = G0 at y1 f1 ⊢
      refine ⟨L, L2, ln.map V.int, (ln.drop 1).map V.int, rfl, .inl ⟨SqL.of (y1 _ _ hL6), SqL.of f1, for_zipL (by rw [List.length_map, List.length_map, List.length_drop]; omega) (fun q σ G => ∃ (x12 x13 : Option V) (vs : List V) (ss : List St5), σ = [some (.ref a), some (.int o), some (.int m), some (.int y), some (.int c), some (.ref g), some (.ref p), some (.int (i : Int)), some (.int (u : Int)), some (.ref li), some (.ref lo), some (.ref L), x12, x13, none, none] ∧ ExS a b H G ∧ SAt G a b (n + 800 + 5 * q) ∧
        (G li = some (.lst (is.map V.int)) ∧ G lo = some (.lst (os.map V.int))) ∧ (G L = some (.lst (ln.map V.int)) ∧ G L2 = some (.lst ((ln.drop 1).map V.int))) ∧ G g = some (.lst vs) ∧ DpAll K (tps G) vs (ss.map stD) ∧ WbOk c ss ∧ ss.length = q ∧ ss.map (·.one) = ln.take q) ?_ (fun q σ G ⟨_, _, _, _, _, _, _, _, z, _⟩ => ⟨SqL.of z.1, SqL.of z.2⟩) ?_ ?_⟩⟩
      · exact ⟨none, none, [], [], rfl, hE6.trans (hid_mono y1), hS6.ex y1, ⟨y1 _ _ hLi6, y1 _ _ hLo6⟩, ⟨y1 _ _ hL6, f1⟩, y1 _ _ hG6, .nil, ⟨by omega, fun s hs => absurd hs (by simp), fun s hs => absurd hs (by simp), List.nodup_nil⟩, rfl, rfl⟩
      · rintro q x z σ G T hx hz ⟨x12, x13, vs, ss, rfl, hE, hSq, hK, hLL, hG, hD, hW, hlen, hone⟩ hT
        obtain ⟨cx, hcx, rfl⟩ := get_ints hx
        obtain ⟨cz, hcz, rfl⟩ := get_ints hz
        have eT := Ex.new (o := .tup [V.int cx, V.int cz]) hT
        refine ⟨T, _, rfl, SqT.of upd_same, rfl, _, _, rfl, _, _, rfl, rfl, ?_⟩
        have hG2 := eT _ _ hG
        have hK2 := kp (hid_mono eT) hK
        have hLL2 := And.intro (eT _ _ hLL.1) (eT _ _ hLL.2)
        have s2 := hSq.ex eT
        have hD2 := dpa_ex (tps_mono eT) _ _ hD
        have hE2 : ExS a b H (upd G T (.tup [V.int cx, V.int cz])) := hE.trans (hid_mono eT)
        generalize upd G T (.tup [V.int cx, V.int cz]) = G2 at hG2 hK2 hLL2 s2 hD2 hE2 ⊢
        have ql : q < ln.length := (List.getElem?_eq_some_iff.mp hcx).1
        refine ⟨_, rfl, .inl ⟨rfl, _, SqL.of hG2⟩, _, rfl, _, rfl, _, rfl, _, rfl, a, b, n + 800 + 5 * q, cx, cz, y, rfl, s2, by omega, fun G4 ps st e4 s5 hp hd so st' k1 sm => ?_⟩
        have hG5 := e4.at hG2 ga gb
        refine ⟨g, vs, .ref ps, rfl, rfl, hG5, ?_, ?_⟩
        · rw [dpa_len hD2, List.length_map, hlen]
          exact sz_m (by omega)
        · have tp : Ex (tps G2) (tps (upd G4 g (.lst (vs ++ [.ref ps])))) := (tps_hid e4 s2).trans (tps_upd (NoTup.lst hG5))
          refine ⟨_, _, vs ++ [.ref ps], ss ++ [st], rfl, ExS.own (hE2.trans e4) hg ga gb, (s5.upd ga gb).mono (by omega), kg (kp e4 hK2), ⟨by rw [upd_ne gL.symm]; exact e4.at hLL2.1 La Lb, by rw [upd_ne gL2.symm]; exact e4.at hLL2.2 L2a L2b⟩, upd_same, ?_, ?_, by rw [List.length_append, hlen]; rfl, ?_⟩
          · rw [List.map_append]
            exact dpa_app (dpa_ex tp _ _ hD2) (.cons (dp_ex (tps_upd (NoTup.lst hG5)) _ _ hd) .nil)
          · have hxm := hlnb cx (mem_of_get hcx)
            have hzm := hlnb cz (List.mem_of_mem_drop (mem_of_get hcz))
            refine ⟨hW.n1, fun s hs => ?_, fun s hs => ?_, ?_⟩
            · rcases List.mem_append.mp hs with hs | hs
              · exact hW.ok s hs
              · obtain rfl := List.mem_singleton.mp hs
                exact ⟨by omega, by omega, by omega, by omega, k1⟩
            · rcases List.mem_append.mp hs with hs | hs
              · exact hW.sm s hs
              · obtain rfl := List.mem_singleton.mp hs
                exact sm
            · refine List.nodup_append.mpr ⟨hW.nd, List.nodup_cons.mpr ⟨by simp, List.nodup_nil⟩, fun x hx y2 hy e => ?_⟩
              obtain rfl := List.mem_singleton.mp hy
              subst e
              have h1 : x.one ∈ ln.take q := by
                rw [← hone]
                exact List.mem_map.mpr ⟨x, hx, rfl⟩
              rw [so] at h1
              obtain ⟨j, hj, e⟩ := List.mem_iff_getElem.mp h1
              rw [List.getElem_take] at e
              rw [List.length_take] at hj
              have := (List.getElem?_eq_some_iff.mp hcx).2
              rw [← this] at e
              have := (List.getElem_inj hlnd).mp e
              omega
          · rw [List.map_append, hone, List.take_add_one, hcx]
            show _ ++ [st.one] = _ ++ [cx]
            rw [so]
      · rintro σ G ⟨x12, x13, vs, ss, rfl, hE, hSq, hK, hLL, hG, hD, hW, hlen, hone⟩
        rw [List.length_map, List.length_drop] at hlen hSq
        exact ⟨x12, x13, vs, ss, rfl, hE, hSq.mono (by omega), hK, hG, hD, hW, by omega⟩
    rintro σ H7 ⟨x12, x13, vs, ss, rfl, hE7, hS7, hK7, hG7, hD7, hW7, hl7⟩
    -- more steps
    refine ⟨fun σ G => ∃ (x12 x13 x14 x15 : Option V) (vs : List V) (ss : List St5), σ = [some (.ref a), some (.int o), some (.int m), some (.int y), some (.int c), some (.ref g), some (.ref p), some (.int (i : Int)), some (.int (u : Int)), some (.ref li), some (.ref lo), some (.ref L), x12, x13, x14, x15] ∧ ExS a b H G ∧ SAt G a b (n + 10000) ∧
      (G li = some (.lst (is.map V.int)) ∧ G lo = some (.lst (os.map V.int))) ∧ G g = some (.lst vs) ∧ DpAll K (tps G) vs (ss.map stD) ∧ WbOk c ss ∧ (ss.length : Int) ≤ m, ?_, ?_⟩
    · have hvl := dpa_len hD7
      rw [List.length_map] at hvl
      refine ⟨_, rfl, _, rfl, _, rfl, g, vs, rfl, .inl (SqL.of hG7), _, _, rfl, rfl, _, _, rfl, rfl, a, b, n + 900, _, rfl, hS7, by omega, by rw [hvl]; omega, by rw [hvl]; omega, fun H8 t e8 s8 t0 t1 => ?_⟩
      rw [hvl] at t1
      refine ⟨t, rfl, by omega, by omega, for_range (lo := 0) (n := t.toNat) (fun q σ G => ∃ (x14 x15 : Option V) (vs : List V) (ss : List St5), σ = [some (.ref a), some (.int o), some (.int m), some (.int y), some (.int c), some (.ref g), some (.ref p), some (.int (i : Int)), some (.int (u : Int)), some (.ref li), some (.ref lo), some (.ref L), x12, x13, x14, x15] ∧ ExS a b H G ∧ SAt G a b (n + 901 + 7 * q) ∧
        (G li = some (.lst (is.map V.int)) ∧ G lo = some (.lst (os.map V.int))) ∧ G g = some (.lst vs) ∧ DpAll K (tps G) vs (ss.map stD) ∧ WbOk c ss ∧ (ss.length : Int) + (t - q) ≤ m) ?_ ?_ ?_⟩
      · exact ⟨none, none, vs, ss, rfl, hE7.trans e8, s8, kp e8 hK7, e8.at hG7 ga gb, dpa_ex (tps_hid e8 hS7) _ _ hD7, hW7, by omega⟩
      · rintro q σ G5 hi ⟨x14, x15, vs, ss, rfl, hE5, hS5, hK5, hG5, hD5, hW5, hl5⟩
        have hvl := dpa_len hD5
        rw [List.length_map] at hvl
        refine ⟨_, rfl, _, rfl, _, rfl, a, b, n + 901 + 7 * q, c, rfl, hS5, by omega, by omega, by omega, fun G6 d1 e6 s6 d10 d11 => ?_⟩
        refine ⟨_, rfl, _, rfl, a, b, n + 901 + 7 * q + 1, c, rfl, s6, by omega, by omega, by omega, fun G7 d2 e7 s7 d20 d21 => ?_⟩
        refine ⟨_, rfl, a, b, n + 901 + 7 * q + 2, d1, d2, y, rfl, s7, by omega, fun G8 ps st e8 s8 hp hd so st' k1 sm => ?_⟩
        have e58 : ExS a b G5 G8 := e6.trans (e7.trans e8)
        have hE8 : ExS a b H G8 := hE5.trans e58
        have hG8 : G8 g = some (.lst vs) := e58.at hG5 ga gb
        have hK8 := kp e58 hK5
        have hD8 : DpAll K (tps G8) vs (ss.map stD) := dpa_ex (tps_hid e58 hS5) _ _ hD5
        refine ⟨_, rfl, .inl ⟨rfl, _, SqL.of hG8⟩, _, rfl, _, rfl, stD st, ss.map stD, dp_ex tps_le _ _ hd, .lst (SqL.of hG8) (dpa_ex tps_le _ _ hD8), stD_shaped st, stDs_shaped ss, _, rfl, ?_⟩
        rw [any_eqv]
        have stok : StOk c st := ⟨by omega, by omega, by omega, by omega, k1⟩
        by_cases hin : st ∈ ss
        · rw [decide_eq_true hin]
          refine iteF ?_
          refine ⟨Nat.zero_le _, fun u hu => ?_⟩
          have hgu : g ≠ u := ne_of_none hG8 hu
          have hG9 : upd G8 u (.lst []) g = some (.lst vs) := by rw [upd_ne hgu]; exact hG8
          refine ⟨g, u, vs, [], rfl, rfl, hG9, upd_same, by rw [hvl, List.length_nil, Nat.add_zero]; exact sz_le (by omega), ?_⟩
          rw [List.append_nil]
          refine ⟨_, _, vs, ss, rfl, ExS.own (ExS.new hE8 hu) hg ga gb, ((s8.ex (Ex.new hu)).upd ga gb).mono (by omega), kg (kp (hid_mono (Ex.new hu)) hK8), upd_same, dpa_ex ((tps_mono (Ex.new hu)).trans (tps_upd (NoTup.lst hG9))) _ _ hD8, hW5, by omega⟩
        · rw [decide_eq_false hin]
          refine iteT ?_
          refine ⟨_, rfl, by show 1 ≤ sizeLine; decide, fun u hu => ?_⟩
          have hgu : g ≠ u := ne_of_none hG8 hu
          have hG9 : upd G8 u (.lst [.ref ps]) g = some (.lst vs) := by rw [upd_ne hgu]; exact hG8
          refine ⟨g, u, vs, [.ref ps], rfl, rfl, hG9, upd_same, by rw [hvl, List.length_singleton]; exact sz_le (by omega), ?_⟩
          have tp : Ex (tps G8) (tps (upd (upd G8 u (.lst [.ref ps])) g (.lst (vs ++ [.ref ps])))) := (tps_mono (Ex.new hu)).trans (tps_upd (NoTup.lst hG9))
          refine ⟨_, _, vs ++ [.ref ps], ss ++ [st], rfl, ExS.own (ExS.new hE8 hu) hg ga gb, ((s8.ex (Ex.new hu)).upd ga gb).mono (by omega), kg (kp (hid_mono (Ex.new hu)) hK8), upd_same, ?_, ?_, by rw [List.length_append, List.length_singleton]; omega⟩
          · rw [List.map_append]
            exact dpa_app (dpa_ex tp _ _ hD8) (.cons (dp_ex tp _ _ hd) .nil)
          · refine ⟨hW5.n1, fun s hs => ?_, fun s hs => ?_, ?_⟩
            · rcases List.mem_append.mp hs with hs | hs
              · exact hW5.ok s hs
              · obtain rfl := List.mem_singleton.mp hs
                exact stok
            · rcases List.mem_append.mp hs with hs | hs
              · exact hW5.sm s hs
              · obtain rfl := List.mem_singleton.mp hs
                exact sm
            · refine List.nodup_append.mpr ⟨hW5.nd, List.nodup_cons.mpr ⟨by simp, List.nodup_nil⟩, fun x hx y2 hy e => ?_⟩
              obtain rfl := List.mem_singleton.mp hy
              subst e
              exact hin hx
      · rintro σ G5 ⟨x14, x15, vs, ss, rfl, hE5, hS5, hK5, hG5, hD5, hW5, hl5⟩
        exact ⟨x12, x13, x14, x15, vs, ss, rfl, hE5, hS5.mono (by omega), hK5, hG5, hD5, hW5, by omega⟩
    rintro σ H8 ⟨x12, x13, x14, x15, vs, ss, rfl, hE8, hS8, hK8, hG8, hD8, hW8, hl8⟩
    have hvl := dpa_len hD8
    rw [List.length_map] at hvl
    refine ⟨_, rfl, _, rfl, _, rfl, a, b, n + 10000, g, vs, rfl, hS8, SqL.of (by rw [hid_ne ga gb]; exact hG8), by omega, by omega, fun H9 l ys e9 s9 hl hP hperm => ?_⟩
    obtain ⟨ts, hts, hD9⟩ := dpa_perm hperm (dpa_ex (tps_hid e9 hS8) _ _ hD8)
    refine ⟨_, rfl, _, rfl, by show 4 ≤ sizeLine; decide, fun q hq => ?_⟩
    have y9 := Ex.new (o := .tup [V.int c, V.ref l, V.ref li, V.ref lo]) hq
    have hK9 := kp (hid_mono y9) (kp e9 hK8)
    exact k _ q l li lo c ys ts is os (ExS.new (hE8.trans e9) hq) ((s9.ex y9).mono (by omega)) (ExS.back (hE8.trans e9) s9 hq) (ExS.back hE8 hS8 hl) li0 lo0 upd_same (y9 _ _ hP) (dpa_ex (tps_mono y9) _ _ hD9) hK9.1 hK9.2 (hW8.perm hts) hdr c2 (by rw [hts.length_eq]; exact hl8)
end
end AA

set_option Elab.async false
set_option linter.all false
set_option maxRecDepth 100000
set_option maxHeartbeats 4000000
/-! What the looks at parts lean on. -/
namespace AA
open PySem PySem.Spec PyProof.Rows L2 Evl
theorem gh_ex {H G : Hp} {g : Addr} (hg : H g = none) (e : Ex H G) : Ex H (hid g g G) := fun x o h => by
  have := ne_of_none h hg
  rw [hid_ne this this]
  exact e _ _ h
theorem gh_ne {G : Hp} {g p : Addr} {o : HO} (n : p ≠ g) (h : G p = some o) : hid g g G p = some o := by
  rw [hid_ne n n]
  exact h
/-- a growing list at g, each thing in it as F says of the heap without it and without the stream -/
def LsAt (F : Hp → V → Prop) (a b g : Addr) (G : Hp) (N : Nat) : Prop := ∃ os : List V, G g = some (.lst os) ∧ (∀ o ∈ os, F (hid g g (hid a b G)) o) ∧ os.length ≤ N
def MonF (F : Hp → V → Prop) : Prop := ∀ (H H' : Hp) (o : V), Ex H H' → F H o → F H' o
theorem LsAt.go {F : Hp → V → Prop} {a b g : Addr} {G G' : Hp} {N : Nat} (mF : MonF F) (h : LsAt F a b g G N) (ga : g ≠ a) (gb : g ≠ b) (e : ExS a b G G') : LsAt F a b g G' N := by
  obtain ⟨os, h1, h2, h3⟩ := h
  exact ⟨os, e.at h1 ga gb, fun o ho => mF _ _ _ (hid_mono e) (h2 o ho), h3⟩
theorem LsAt.add {F : Hp → V → Prop} {a b g : Addr} {G : Hp} {os ys : List V} {N M : Nat} (ga : g ≠ a) (gb : g ≠ b) (h2 : ∀ o ∈ os, F (hid g g (hid a b G)) o) (hl : os.length ≤ N) (hy : ∀ o ∈ ys, F (hid g g (hid a b G)) o) (hm : N + ys.length ≤ M) : LsAt F a b g (upd G g (.lst (os ++ ys))) M := by
  refine ⟨_, upd_same, fun o ho => ?_, by rw [List.length_append]; omega⟩
  rw [hid_upd ga gb, hid_upda]
  exact (List.mem_append.mp ho).elim (h2 o) (hy o)
/-- a kind of thing that is no web -/
def NwK (K : PySem.W.Frag) (C : Addr) (T : Value) : Prop := PySem.W.notFirst K C T = true ∧ PySem.W.kitOne K T (.ref C) = some false
structure NwA (K : PySem.W.Frag) (C : Addr) : Prop where
  non : NwK K C (.type "NoneType")
  lst : NwK K C (.type "list")
  int : NwK K C (.type "int")
  tup : NwK K C (.type "tuple")
  str : NwK K C (.type "str")
  dict : NwK K C (.type "dict")
theorem ty6_F {K : PySem.W.Frag} {G : Hp} {o : V} {S : String} (h : Ty6 G o (.type S)) : TyF K G o (.type S) := by
  cases h with
  | non => exact .inl (.base .non)
  | int i => exact .inl (.base (.int i))
  | str x => exact .inl (.base (.str x))
  | lst e => exact .inl (.base (.lst e))
  | tup e => exact .inl (.base (.tup e))
  | dK e => exact .inl (.base (.dK e))
theorem sqt_hidp {G : Hp} {K : PySem.W.Frag} {p t : Addr} {vs xs : List V} (hp : G p = some (.lst vs)) (h : SqT K G t xs) : SqT K (hid p p G) t xs := by
  rcases h with h | h
  · refine .inl ?_
    rcases h with h | ⟨u, h⟩
    · have tp : t ≠ p := fun z => by rw [z, hp] at h; cases h
      exact .inl (gh_ne tp h)
    · have tp : t ≠ p := fun z => by rw [z, hp] at h; cases h
      exact .inr ⟨u, gh_ne tp h⟩
  · exact .inr h
theorem sts_hidp {G : Hp} {K : PySem.W.Frag} {p : Addr} {us : List V} (hp : G p = some (.lst us)) : ∀ {vs : List V} {ss : List St5}, DpAll K G vs (ss.map stD) → DpAll K (hid p p G) vs (ss.map stD)
  | [], [], _ => .nil
  | v :: vs, s :: ss, h => by
    cases h with
    | cons h1 h2 =>
      obtain ⟨t, u, rfl, h3, h4⟩ := stD_inv h1
      exact .cons (stD_mk (sqt_hidp hp h3) (sqt_hidp hp h4)) (sts_hidp hp h2)
  | [], _ :: _, h => by cases h
  | _ :: _, [], h => by cases h
theorem WebL.hidp {K : PySem.W.Frag} {C : Addr} {G : Hp} {x lw p : Addr} {n : Int} {ss : List St5} {vs : List V} (h : WebL K C G x lw n ss) (hp : G p = some (.lst vs)) (pl : p ≠ lw) : WebL K C (hid p p G) x lw n ss := by
  obtain ⟨dx, kd, ys, h1, h2, h3⟩ := h
  have px : x ≠ p := fun z => by
    rw [z, hp] at h1
    cases h1
  exact ⟨dx, kd, ys, gh_ne px h1, gh_ne pl.symm h2, sts_hidp hp h3⟩
theorem WebL.hidS {K : PySem.W.Frag} {C : Addr} {G : Hp} {x lw a b : Addr} {m : Nat} {n : Int} {ss : List St5} (h : WebL K C G x lw n ss) (S : SAt G a b m) (xa : x ≠ a) (xb : x ≠ b) (la : lw ≠ a) (lb : lw ≠ b) : WebL K C (hid a b G) x lw n ss := by
  obtain ⟨dx, kd, ys, h1, h2, h3⟩ := h
  exact ⟨dx, kd, ys, by rw [hid_ne xa xb]; exact h1, by rw [hid_ne la lb]; exact h2, sts_hid S h3⟩
theorem eqv_nil_sts : ∀ ss : List St5, PyData.eqv (.list (ss.map stD)) (.list []) = ss.isEmpty
  | [] => rfl
  | _ :: _ => rfl
theorem any_false : ∀ k : Nat, (List.replicate k false).any id = false
  | 0 => rfl
  | k + 1 => by rw [List.replicate_succ, List.any_cons, any_false k]; rfl
/-- a web with a step that the other one lacks -/
theorem lacks {ts us : List St5} {s : St5} (h1 : s ∈ ts) (h2 : s ∉ us) : ts ≠ us := fun e => h2 (e ▸ h1)

section
variable {P : Program} {w : World} {K : PySem.W.Frag} {mg : Str → Option Value} {base : Heap}
/-- what Web is asked without a fault -/
def spWebI0 (K : PySem.W.Frag) (C CP CS : Addr) : Sp := fun vs H Q _ => spWebInit K C CP CS vs H Q E0
/-- a web made of good steps -/
theorem web_good {C CP CS x dx : Addr} {G : Hp} {n : Int} {u : V} {ss : List St5} {xs : List V} {a : Addr} {Q : VK} (nx : G x = none) (ndx : G dx = none) (hn : 1 ≤ n) (hu : u = .ref a) (hs : SqA K G a xs) (hr : RdAll K n G xs ss) (nd : ss.Nodup) (hz : ss.length ≤ 1000000)
    (k : ∀ (G' : Hp) (lw : Addr) (ts : List St5), Ex G G' → WebL K C G' x lw n ts → G lw = none → ts.Perm ss → SrS ts → Q .non G') :
    spWebInit K C CP CS [.ref x, .int n, u] (upd (upd G dx (.own x)) x (.ins C dx [])) Q E0 := by
  have me := made_ex (o := .ins C dx []) nx ndx
  refine ⟨x, dx, .int n, u, rfl, upd_same, .inr ⟨n, rfl, hn, .inr ⟨a, xs, ss, hu, hs.ex me, nd, hz, .inl ⟨hr.ex me, fun G' ts dy lw kd ys e fx fl0 fl hys p so => ?_⟩⟩⟩⟩
  obtain ⟨e1, w1, l0⟩ := made_web nx ndx e fx fl0 fl hys
  exact k G' lw ts e1 w1 l0 p so
/-- the steps of a web are those of another list in order -/
theorem same_ps {C : Addr} {G : Hp} {n : Int} {p q r s : Addr} {ys zs : List V} {ts : List St5} {R : Addr → Addr → Hp → Prop} (hp : G p = some (.lst [.int n, .ref q])) (hr : G r = some (.lst [.int n, .ref s])) (hq : G q = some (.lst ys)) (hs : G s = some (.lst zs)) (h1 : DpAll K G ys (ts.map stD)) (h2 : DpAll K G zs (ts.map stD)) (hl : ts.length ≤ 1000000) :
    Sm K C R G 7 (.ref p) (.ref r) := by
  have d1 : Dp K G (.ref p) (.list [.int n, .list (ts.map stD)]) := .lst (SqL.of hp) (.cons (.int n) (.cons (.lst (SqL.of hq) h1) .nil))
  have d2 : Dp K G (.ref r) (.list [.int n, .list (ts.map stD)]) := .lst (SqL.of hr) (.cons (.int n) (.cons (.lst (SqL.of hs) h2) .nil))
  refine sm_two _ _ _ 7 d1 d2 ?_ ?_
  · show (decide (2 ≤ 1000000) && (true && ((decide ((ts.map stD).length ≤ 1000000) && dOkA (ts.map stD)) && true))) = true
    rw [dok_sts, List.length_map, decide_eq_true hl]
    rfl
  · have := stDs_depth ts
    show max 0 (max (PyData.depthAll (ts.map stD) + 1) 0) + 1 < 7
    omega
theorem same_l {C : Addr} {G : Hp} {q s : Addr} {ys zs : List V} {ts : List St5} {R : Addr → Addr → Hp → Prop} (hq : G q = some (.lst ys)) (hs : G s = some (.lst zs)) (h1 : DpAll K G ys (ts.map stD)) (h2 : DpAll K G zs (ts.map stD)) (hl : ts.length ≤ 1000000) :
    Sm K C R G 7 (.ref q) (.ref s) := by
  refine sm_two (.list (ts.map stD)) _ _ 7 (.lst (SqL.of hq) h1) (.lst (SqL.of hs) h2) ?_ ?_
  · show (decide ((ts.map stD).length ≤ 1000000) && dOkA (ts.map stD)) = true
    rw [dok_sts, List.length_map, decide_eq_true hl]
    rfl
  · have := stDs_depth ts
    show PyData.depthAll (ts.map stD) + 1 < 7
    omega

end
/-- all that is known of the class -/
structure WbK (P : Program) (w : World) (K : PySem.W.Frag) (mg : Str → Option Value) (base : Heap) (C CP CS fI fP fS fE : Addr) (fdI fdP fdS fdE : FuncData) : Prop where
  T : WebTxt K mg C
  M : Mk K C fI
  GI : FnOk P w K mg base CX0 5 fI fdI ["self", "places", "steps"] (spWebI0 K C CP CS)
  bI : Binds K fdI ["self", "places", "steps"] []
  GP : FnOk P w K mg base CX0 1 fP fdP ["self"] (spPlaces K C)
  bP : Binds K fdP ["self"] []
  mP : Meth K C "places" fP
  GS : FnOk P w K mg base CX0 1 fS fdS ["self"] (spSteps K C)
  bS : Binds K fdS ["self"] []
  mS : Meth K C "steps" fS
  GE : FnOk P w K mg base CX0 1 fE fdE ["self", "other"] (spEqV K C)
  bE : Binds K fdE ["self", "other"] []
  hE : PySem.W.findIn K (.ref C) "__eq__" = some (some (.ref fE))
  iE : PySem.W.isFn K (.ref fE) = true
  hN : PySem.W.findIn K (.ref C) "__ne__" = some (some (.builtin "object.__ne__"))
  hm : PySem.W.mroIn K C (.type "object") = some true

def kwP {α : Type} : List α → List α → List α
  | [x], [o, i, s, p] => [x, p, s, i, o]
  | _, _ => []
theorem kwP_rel {vs : List V} {us : List Value} {zs : List V} {ws : List Value} (h : Vals vs us) (k : Vals zs ws) : Vals (kwP vs zs) (kwP us ws) := by
  cases h with
  | nil => exact .nil
  | cons h1 h =>
    cases h with
    | cons h2 h => exact .nil
    | nil =>
      cases k with
      | nil => exact .nil
      | cons k1 k =>
        cases k with
        | nil => exact .nil
        | cons k2 k =>
          cases k with
          | nil => exact .nil
          | cons k3 k =>
            cases k with
            | nil => exact .nil
            | cons k4 k =>
              cases k with
              | cons k5 k => exact .nil
              | nil => exact .cons h1 (.cons k4 (.cons k3 (.cons k2 (.cons k1 .nil))))
def spPtI0 (K : PySem.W.Frag) (CW C CP CS CI CO : Addr) : Sp := fun vs H Q _ => spPtInit K CW C CP CS CI CO vs H Q E0
/-- all that is known of the class of parts -/
structure PtK (P : Program) (w : World) (K : PySem.W.Frag) (mg : Str → Option Value) (base : Heap) (CW C CP CS CI CO fI fW fN fO fE : Addr) (fdI fdW fdN fdO fdE : FuncData) : Prop where
  T : PtTxt K mg C
  M : Mk K C fI
  GI : FnOk P w K mg base CX0 7 fI fdI ["self", "places", "steps", "ins", "outs"] (spPtI0 K CW C CP CS CI CO)
  bI : Binds K fdI ["self", "places", "steps", "ins", "outs"] []
  kI : KBn K fdI ["self", "places", "steps", "ins", "outs"] 1 ["outs", "ins", "steps", "places"] kwP kwP
  GW : FnOk P w K mg base CX0 1 fW fdW ["self"] (spPWeb K CW C)
  bW : Binds K fdW ["self"] []
  mW : Meth K C "web" fW
  GN : FnOk P w K mg base CX0 1 fN fdN ["self"] (spPIns K CW C)
  bN : Binds K fdN ["self"] []
  mN : Meth K C "ins" fN
  GO : FnOk P w K mg base CX0 1 fO fdO ["self"] (spPOuts K CW C)
  bO : Binds K fdO ["self"] []
  mO : Meth K C "outs" fO
  GE : FnOk P w K mg base CX0 2 fE fdE ["self", "other"] (spPEq K CW C)
  bE : Binds K fdE ["self", "other"] []
  hE : PySem.W.findIn K (.ref C) "__eq__" = some (some (.ref fE))
  iE : PySem.W.isFn K (.ref fE) = true
  hN : PySem.W.findIn K (.ref C) "__ne__" = some (some (.builtin "object.__ne__"))
  hm : PySem.W.mroIn K C (.type "object") = some true
section
variable {K : PySem.W.Frag}
theorem PtL.at {CW C : Addr} {H : Hp} {x wb lw li lo : Addr} {n : Int} {ss : List St5} {is os : List Int} (h : PtL K CW C H x wb lw li lo n ss is os) : PtAt K CW C H x n ss is os := ⟨_, _, _, _, h⟩
theorem PtL.up {CW C p : Addr} {H : Hp} {x wb lw li lo : Addr} {n : Int} {ss : List St5} {is os : List Int} {vs : List V} {o : HO} (h : PtL K CW C H x wb lw li lo n ss is os) (hp : H p = some (.lst vs)) (h1 : p ≠ lw) (h2 : p ≠ li) (h3 : p ≠ lo) : PtL K CW C (upd H p o) x wb lw li lo n ss is os := by
  obtain ⟨⟨dx, kd, q⟩, hw, hi, hu⟩ := h
  have px : x ≠ p := fun z => by
    rw [z, hp] at q
    cases q
  exact ⟨⟨dx, kd, by rw [upd_ne px]; exact q⟩, hw.up hp h1, by rw [upd_ne h2.symm]; exact hi, by rw [upd_ne h3.symm]; exact hu⟩
theorem PtL.hidp {CW C p : Addr} {G : Hp} {x wb lw li lo : Addr} {n : Int} {ss : List St5} {is os : List Int} {vs : List V} (h : PtL K CW C G x wb lw li lo n ss is os) (hp : G p = some (.lst vs)) (h1 : p ≠ lw) (h2 : p ≠ li) (h3 : p ≠ lo) : PtL K CW C (hid p p G) x wb lw li lo n ss is os := by
  obtain ⟨⟨dx, kd, q⟩, hw, hi, hu⟩ := h
  have px : x ≠ p := fun z => by
    rw [z, hp] at q
    cases q
  exact ⟨⟨dx, kd, gh_ne px q⟩, hw.hidp hp h1, gh_ne h2.symm hi, gh_ne h3.symm hu⟩
/-- five addresses that are none of the stream's -/
structure Off (a b x wb lw li lo : Addr) : Prop where
  x : x ≠ a ∧ x ≠ b
  w : wb ≠ a ∧ wb ≠ b
  l : lw ≠ a ∧ lw ≠ b
  i : li ≠ a ∧ li ≠ b
  u : lo ≠ a ∧ lo ≠ b
theorem PtL.hidS {CW C : Addr} {G : Hp} {x wb lw li lo a b : Addr} {m : Nat} {n : Int} {ss : List St5} {is os : List Int} (h : PtL K CW C G x wb lw li lo n ss is os) (S : SAt G a b m) (f : Off a b x wb lw li lo) : PtL K CW C (hid a b G) x wb lw li lo n ss is os := by
  obtain ⟨⟨dx, kd, q⟩, hw, hi, hu⟩ := h
  exact ⟨⟨dx, kd, by rw [hid_ne f.x.1 f.x.2]; exact q⟩, hw.hidS S f.w.1 f.w.2 f.l.1 f.l.2, by rw [hid_ne f.i.1 f.i.2]; exact hi, by rw [hid_ne f.u.1 f.u.2]; exact hu⟩
theorem off_of {G : Hp} {x wb lw li lo a b : Addr} {m : Nat} (S : SAt G a b m) (h1 : G x = none) (h2 : G wb = none) (h3 : G lw = none) (h4 : G li = none) (h5 : G lo = none) : Off a b x wb lw li lo := ⟨⟨S.nea h1, S.neb h1⟩, ⟨S.nea h2, S.neb h2⟩, ⟨S.nea h3, S.neb h3⟩, ⟨S.nea h4, S.neb h4⟩, ⟨S.nea h5, S.neb h5⟩⟩
theorem up_none {H : Hp} {p x dx : Addr} {o o' : HO} (h : upd (upd H dx o) x o' p = none) : H p = none := by
  by_cases q1 : p = x
  · rw [q1, upd_same] at h
    cases h
  · rw [upd_ne q1] at h
    by_cases q2 : p = dx
    · rw [q2, upd_same] at h
      cases h
    · rw [upd_ne q2] at h
      exact h
theorem dr_arg {n : Int} {G : Hp} {a : Addr} {is tk : List Int} {B : Nat → Prop} {Gd : List Int → Prop} (h : SqA K G a (is.map V.int)) (hl : is.length ≤ 1000) (nd : is.Nodup) (hr : ∀ i ∈ is, 0 ≤ i ∧ i < n ∧ i ∉ tk) (ne : is ≠ []) (k : Gd is) : DrArg K n G (.ref a) tk B Gd :=
  .inr ⟨a, _, rfl, h, .inr ⟨is, hl, nd, hr, .inl ⟨rfl, ne, k⟩⟩⟩
theorem DrOk.iArg {n : Int} {is os : List Int} (h : DrOk n is os) : ∀ i ∈ is, 0 ≤ i ∧ i < n ∧ i ∉ ([] : List Int) := fun i hi => ⟨(h.rg i (List.mem_append_left _ hi)).1, (h.rg i (List.mem_append_left _ hi)).2, by simp⟩
theorem DrOk.oArg {n : Int} {is os : List Int} (h : DrOk n is os) : ∀ i ∈ os, 0 ≤ i ∧ i < n ∧ i ∉ is := fun i hi => ⟨(h.rg i (List.mem_append_right _ hi)).1, (h.rg i (List.mem_append_right _ hi)).2, fun z => (List.nodup_append.mp h.nd).2.2 i z i hi rfl⟩
/-- a part made of good things -/
theorem part_good {CW C CP CS CI CO x dx : Addr} {G : Hp} {n : Int} {ss : List St5} {xs : List V} {is os : List Int} {a ai ao : Addr} {Q : VK} (nx : G x = none) (ndx : G dx = none) (hn : 1 ≤ n) (hs : SqA K G a xs) (hr : RdAll K n G xs ss) (nd : ss.Nodup) (hz : ss.length ≤ 1000000) (hi : SqA K G ai (is.map V.int)) (ho : SqA K G ao (os.map V.int)) (hd : DrOk n is os)
    (k : ∀ (G' : Hp) (wb lw li lo : Addr) (ts : List St5), Ex G G' → PtL K CW C G' x wb lw li lo n ts is os → G wb = none → G lw = none → G li = none → G lo = none → ts.Perm ss → SrS ts → Q .non G') :
    spPtI0 K CW C CP CS CI CO [.ref x, .int n, .ref a, .ref ai, .ref ao] (upd (upd G dx (.own x)) x (.ins C dx [])) Q E0 := by
  have me := made_ex (o := .ins C dx []) nx ndx
  refine ⟨x, dx, .int n, .ref a, .ref ai, .ref ao, rfl, upd_same, .inr ⟨n, rfl, hn, .inr ⟨a, xs, ss, rfl, hs.ex me, nd, hz, .inl ⟨hr.ex me, ?_⟩⟩⟩⟩
  refine dr_arg (hi.ex me) (by have := hd.i2; omega) (List.nodup_append.mp hd.nd).1 hd.iArg hd.i1 ?_
  refine dr_arg (ho.ex me) (by have := hd.o2; omega) (List.nodup_append.mp hd.nd).2.1 hd.oArg hd.o1 ?_
  exact fun G' ts wb lw li lo e p h1 h2 h3 h4 pr so => k G' wb lw li lo ts (me.trans e) p (up_none h1) (up_none h2) (up_none h3) (up_none h4) pr so
end
end AA

set_option Elab.async false
set_option linter.all false
set_option maxRecDepth 100000
set_option maxHeartbeats 4000000
/-! _law_made_right. -/
namespace AA
open PySem PySem.Spec PyProof.Rows L2 Evl
theorem dok_ints : ∀ ns : List Int, dOkA (ns.map PyData.int) = true
  | [] => rfl
  | n :: r => by
    show (dOk (.int n) && dOkA (r.map PyData.int)) = true
    rw [dok_ints r]
    rfl
theorem dok_l {ns : List Int} (h : ns.length ≤ 2) : dOk (.list (ns.map PyData.int)) = true := by
  show (decide ((ns.map PyData.int).length ≤ 1000000) && dOkA (ns.map PyData.int)) = true
  rw [dok_ints, List.length_map, decide_eq_true (by omega)]
  rfl
theorem dok_s {ss : List St5} (h : ss.length ≤ 1000000) : dOk (.list (ss.map stD)) = true := by
  show (decide ((ss.map stD).length ≤ 1000000) && dOkA (ss.map stD)) = true
  rw [dok_sts, List.length_map, decide_eq_true h]
  rfl
section
variable {K : PySem.W.Frag}
theorem dp3 {G : Hp} {q qi qo : Addr} {ys : List V} {ts : List St5} {is os : List Int} (hq : G q = some (.lst ys)) (h1 : DpAll K G ys (ts.map stD)) (hqi : G qi = some (.lst (is.map V.int))) (hqo : G qo = some (.lst (os.map V.int))) :
    DpAll K G [.ref q, .ref qi, .ref qo] [.list (ts.map stD), .list (is.map PyData.int), .list (os.map PyData.int)] :=
  .cons (.lst (SqL.of hq) h1) (.cons (.lst (SqL.of hqi) (dp_ints is)) (.cons (.lst (SqL.of hqo) (dp_ints os)) .nil))
theorem dep3 (ts : List St5) (is os : List Int) : PyData.depthAll [.list (ts.map stD), .list (is.map PyData.int), .list (os.map PyData.int)] ≤ 3 := by
  have h1 := stDs_depth ts
  have h2 := dep_ints is
  have h3 := dep_ints os
  show max (PyData.depthAll (ts.map stD) + 1) (max (PyData.depthAll (is.map PyData.int) + 1) (max (PyData.depthAll (os.map PyData.int) + 1) 0)) ≤ 3
  omega
theorem dok3 {ts : List St5} {is os : List Int} (h : ts.length ≤ 1000000) (hi : is.length ≤ 2) (ho : os.length ≤ 2) : dOkA [.list (ts.map stD), .list (is.map PyData.int), .list (os.map PyData.int)] = true := by
  show (dOk _ && (dOk _ && (dOk _ && true))) = true
  rw [dok_s h, dok_l hi, dok_l ho]
  rfl
theorem same_4 {C : Addr} {R : Addr → Addr → Hp → Prop} {G : Hp} {n : Int} {p r q s qi qo si so : Addr} {ys zs : List V} {ts : List St5} {is os : List Int} (hp : G p = some (.lst [.int n, .ref q, .ref qi, .ref qo])) (hr : G r = some (.lst [.int n, .ref s, .ref si, .ref so]))
    (hq : G q = some (.lst ys)) (h1 : DpAll K G ys (ts.map stD)) (hqi : G qi = some (.lst (is.map V.int))) (hqo : G qo = some (.lst (os.map V.int))) (hs : G s = some (.lst zs)) (h2 : DpAll K G zs (ts.map stD)) (hsi : G si = some (.lst (is.map V.int))) (hso : G so = some (.lst (os.map V.int)))
    (h : ts.length ≤ 1000000) (hi : is.length ≤ 2) (ho : os.length ≤ 2) : Sm K C R G 7 (.ref p) (.ref r) := by
  refine sm_two (.list (.int n :: [.list (ts.map stD), .list (is.map PyData.int), .list (os.map PyData.int)])) _ _ 7 (.lst (SqL.of hp) (.cons (.int n) (dp3 hq h1 hqi hqo))) (.lst (SqL.of hr) (.cons (.int n) (dp3 hs h2 hsi hso))) ?_ ?_
  · show (true && (true && dOkA [.list (ts.map stD), .list (is.map PyData.int), .list (os.map PyData.int)])) = true
    rw [dok3 h hi ho]
    rfl
  · have := dep3 ts is os
    show max 0 (PyData.depthAll [.list (ts.map stD), .list (is.map PyData.int), .list (os.map PyData.int)]) + 1 < 7
    omega
theorem same_3 {C : Addr} {R : Addr → Addr → Hp → Prop} {G : Hp} {p r q s qi qo si so : Addr} {ys zs : List V} {ts : List St5} {is os : List Int} (hp : G p = some (.lst [.ref q, .ref qi, .ref qo])) (hr : G r = some (.lst [.ref s, .ref si, .ref so]))
    (hq : G q = some (.lst ys)) (h1 : DpAll K G ys (ts.map stD)) (hqi : G qi = some (.lst (is.map V.int))) (hqo : G qo = some (.lst (os.map V.int))) (hs : G s = some (.lst zs)) (h2 : DpAll K G zs (ts.map stD)) (hsi : G si = some (.lst (is.map V.int))) (hso : G so = some (.lst (os.map V.int)))
    (h : ts.length ≤ 1000000) (hi : is.length ≤ 2) (ho : os.length ≤ 2) : Sm K C R G 7 (.ref p) (.ref r) := by
  refine sm_two (.list [.list (ts.map stD), .list (is.map PyData.int), .list (os.map PyData.int)]) _ _ 7 (.lst (SqL.of hp) (dp3 hq h1 hqi hqo)) (.lst (SqL.of hr) (dp3 hs h2 hsi hso)) ?_ ?_
  · show (true && dOkA [.list (ts.map stD), .list (is.map PyData.int), .list (os.map PyData.int)]) = true
    rw [dok3 h hi ho]
    rfl
  · have := dep3 ts is os
    show PyData.depthAll [.list (ts.map stD), .list (is.map PyData.int), .list (os.map PyData.int)] + 1 < 7
    omega
end
section
variable {P : Program} {w : World} {K : PySem.W.Frag} {mg : Str → Option Value} {base : Heap}
/-- what a look at a part is handed -/
def ArgP (K : PySem.W.Frag) (a b : Addr) (m : Nat) (n : Int) (l ai ao : Addr) (vs0 : List V) (ss : List St5) (is os : List Int) (H : Hp) : Prop :=
  SAt H a b m ∧ hid a b H l = some (.lst vs0) ∧ hid a b H ai = some (.lst (is.map V.int)) ∧ hid a b H ao = some (.lst (os.map V.int)) ∧ DpAll K (tps H) vs0 (ss.map stD)
def spMadeP (K : PySem.W.Frag) : Sp := fun vs H Q _ => ∃ (a b : Addr) (m : Nat) (n : Int) (l ai ao : Addr) (vs0 : List V) (ss : List St5) (is os : List Int), vs = [.ref a, .int n, .ref l, .ref ai, .ref ao] ∧ m < 600000000 ∧ ArgP K a b m n l ai ao vs0 ss is os H ∧ WbOk n ss ∧ ss.length ≤ 100 ∧ DrOk n is os ∧
  ∀ H', ExS a b H H' → SAt H' a b (m + 10000) → Q (.bl true) H'
abbrev nmMadeP : List Str := ["_law_stream_here", "_law_places", "_law_steps", "_law_ins", "_law_outs", "_law_handed", "_law_inner", "_law_outer", "_law_made", "_law_due", "_law_found", "_law_step_here"]
theorem scMadeP : FnScope nmMadeP ["_law_stream_here", "_law_places", "_law_steps", "_law_ins", "_law_outs"] (defScope sMadeRight) := ⟨rfl, rfl, rfl, by decide +kernel, rfl, by decide +kernel, by decide +kernel⟩
theorem ok_madeP {f CW C CP CS CI CO fI fP fS fE gI gW gN gO gE : Addr} {fd fdI fdP fdS fdE ddI ddW ddN ddO ddE : FuncData} (F : L2.Fun K "_law_made_right" "_law_made_right" sMadeRight f fd) (B : Bn mg) (W : WbK P w K mg base CW CP CS fI fP fS fE fdI fdP fdS fdE) (Z : PtK P w K mg base CW C CP CS CI CO gI gW gN gO gE ddI ddW ddN ddO ddE)
    (cL : C8.Cal P w K mg base 8 "_law_loose" (spLoose K 6) []) (cM : C8.Cal P w K mg base 2 "_law_mixed" (spMixed K) [])
    {R : Addr → Addr → Hp → Prop} {CR : Addr} (cS : C8.Cal P w K mg base 9 "_law_same" (spSame K CR R 7) []) : FnOk P w K mg base CX0 10 f fd ["_law_stream_here", "_law_places", "_law_steps", "_law_ins", "_law_outs"] (spMadeP K) := by
  refine F.ok scMadeP (fun vs H Q E h => ?_) (fun cdv A outer s H vs Q E hr h => ?_)
  · obtain ⟨a, b, m, n, l, ai, ao, vs0, ss, is, os, rfl, _⟩ := h
    rfl
  · obtain ⟨a, b, m, n, l, ai, ao, vs0, ss, is, os, rfl, hm, ⟨hS, hl, hai, hao, hD⟩, hWb, hsz, hdr, k⟩ := h
    have hr1 : Room 1 _ := hr.mono (by decide)
    have hr2 : Room 2 _ := hr.mono (by decide)
    refine ⟨_, Evl.pss_cut (ps_par3 (i := 5) (j := 6) (l := 7) (by rfl) scMadeP.nd rfl rfl rfl (by decide) (by decide) (by decide) rfl rfl rfl (pa_cons (pe_lc (own := [("_law_step_here", 11)]) (g := gName 11) (tt := tYes) (by rfl) scMadeP.nd (pi_list (pv 2)) (blkOk_by (N := nmMadeP) (sc := defScope sMadeRight) (by decide +kernel))
          (fun _ _ _ _ _ => pg_name (i := 11) scMadeP.nd rfl (Or.inl rfl)) (fun _ _ _ _ _ => pts_nil) (fun _ _ _ _ _ => C8.pe_c cL hr (by decide) (by rfl) (pa_cons (pv 0) (pa_cons (pv 11) pa_nil))))
          (pa_cons (pe_callTy call_list_of (by rfl) B.list boot_list (pa_cons (pv 3) pa_nil)) (pa_cons (pe_callTy call_list_of (by rfl) B.list boot_list (pa_cons (pv 4) pa_nil)) pa_nil))) (by rfl))
      (pss_cons (ps_set (i := 8) scMadeP.nd rfl (Or.inl rfl) (pe_make Z.M Z.GI (hr.mono (by decide)) (by rfl) Z.T.mgC Z.bI .nil pass0 (pa_cons (pv 1) (pa_cons (pv 5) (pa_cons (pv 6) (pa_cons (pv 7) pa_nil))))))
      (pss_cons (ps_expr (pe_bm PySem.F.plainAttrs_list PySem.F.slot_list_append PySem.F.type_list_append mt_append (pv 5) (pa_cons pe_non pa_nil)))
      (pss_cons (ps_expr (pe_bm PySem.F.plainAttrs_list PySem.F.slot_list_append PySem.F.type_list_append mt_append (pv 6) (pa_cons pe_int pa_nil)))
      (pss_cons (ps_expr (pe_bm0 PySem.F.plainAttrs_list PySem.F.slot_list_clear PySem.F.type_list_clear mt_clear (pv 7)))
      (pss_cons (ps_set (i := 9) scMadeP.nd rfl (Or.inl rfl) (pe_lst (pa_cons (pv 1) (pa_cons (pe_callB (cr_sortSt hr) (by rfl) B.sorted boot_sorted (pa_cons (pv 2) pa_nil)) (pa_cons (pv 3) (pa_cons (pv 4) pa_nil))))))
      (pss_cons (ps_set (i := 10) scMadeP.nd rfl (Or.inl rfl) (pe_lst (pa_cons (pe_meth0 (pe_meth0 (pv 8) Z.T.cl Z.mW Z.GW hr1 Z.bW .nil pass0) W.T.cl W.mP W.GP hr1 W.bP .nil pass0) (pa_cons (pe_meth0 (pe_meth0 (pv 8) Z.T.cl Z.mW Z.GW hr1 Z.bW .nil pass0) W.T.cl W.mS W.GS hr1 W.bS .nil pass0)
          (pa_cons (pe_meth0 (pv 8) Z.T.cl Z.mN Z.GN hr1 Z.bN .nil pass0) (pa_cons (pe_meth0 (pv 8) Z.T.cl Z.mO Z.GO hr1 Z.bO .nil pass0) pa_nil))))))
      (pss_cons (ps_if (PW.pt (pw_or (pt_not (pt_val (C8.pe_c cS hr (by decide) (by rfl) (pa_cons (pv 10) (pa_cons (pv 9) pa_nil)))))
          (pw_or1 (pt_not (pt_cmpR (op_eqV W.GE W.bE W.hE W.iE hr1) (pe_meth0 (pv 8) Z.T.cl Z.mW Z.GW hr1 Z.bW .nil pass0) (pe_make W.M W.GI (hr.mono (by decide)) (by rfl) W.T.mgC W.bI .nil pass0 (pa_cons (pv 1) (pa_cons (pv 2) pa_nil))) (nomark _)))))) (pss_one (ps_ret pe_bl)) pss_nil)
      (pss_cons (ps_expr (pe_bm PySem.F.plainAttrs_list PySem.F.slot_list_append PySem.F.type_list_append mt_append (pe_meth0 (pv 8) Z.T.cl Z.mN Z.GN hr1 Z.bN .nil pass0) (pa_cons pe_int pa_nil)))
      (pss_cons (ps_expr (pe_bm0 PySem.F.plainAttrs_list PySem.F.slot_list_clear PySem.F.type_list_clear mt_clear (pe_meth0 (pv 8) Z.T.cl Z.mO Z.GO hr1 Z.bO .nil pass0)))
      (pss_cons (ps_expr (pe_bm0 PySem.F.plainAttrs_list PySem.F.slot_list_clear PySem.F.type_list_clear mt_clear (pe_meth0 (pe_meth0 (pv 8) Z.T.cl Z.mW Z.GW hr1 Z.bW .nil pass0) W.T.cl W.mS W.GS hr1 W.bS .nil pass0)))
      (pss_cons (ps_if (pt_not (pt_val (C8.pe_c cS hr (by decide) (by rfl) (pa_cons (pe_lst (pa_cons (pe_meth0 (pe_meth0 (pv 8) Z.T.cl Z.mW Z.GW hr1 Z.bW .nil pass0) W.T.cl W.mS W.GS hr1 W.bS .nil pass0) (pa_cons (pe_meth0 (pv 8) Z.T.cl Z.mN Z.GN hr1 Z.bN .nil pass0) (pa_cons (pe_meth0 (pv 8) Z.T.cl Z.mO Z.GO hr1 Z.bO .nil pass0) pa_nil))))
          (pa_cons (pe_slice sl_list (pv 9) (po_some pe_int) po_none) pa_nil))))) (pss_one (ps_ret pe_bl)) pss_nil)
      (pss_one (ps_ret (pe_cmpR (op_eqV Z.GE Z.bE Z.hE Z.iE hr2) (pv 8) (pe_makeK0 Z.M Z.GI (hr.mono (by decide)) (by rfl) Z.T.mgC Z.kI pass0
          (pk_cons (pe_callTy call_tuple_of (by rfl) B.tuple boot_tuple (pa_cons (pv 4) pa_nil)) (pk_cons (pe_callTy call_tuple_of (by rfl) B.tuple boot_tuple (pa_cons (pv 3) pa_nil)) (pk_cons (C8.pe_c cM hr (by decide) (by rfl) (pa_cons (pv 0) (pa_cons (pv 2) pa_nil))) (pk_cons (pv 1) pk_nil))))) (nomark _))))))))))))))), ?_⟩
    have hl1 : H l = some (.lst vs0) := hid_ex _ _ hl
    have hcn := cnt_sts ss
    have hlen := sts_len hD
    refine ⟨fun σ G => ∃ (L LI LO : Addr) (ys : List V), σ = [some (.ref a), some (.int n), some (.ref l), some (.ref ai), some (.ref ao), some (.ref L), some (.ref LI), some (.ref LO), none, none, none, none] ∧ ExS a b H G ∧ SAt G a b (m + 8 * ss.length) ∧ (H L = none ∧ H LI = none ∧ H LO = none) ∧ (L ≠ LI ∧ L ≠ LO ∧ LI ≠ LO) ∧
      G L = some (.lst ys) ∧ G LI = some (.lst (is.map V.int)) ∧ G LO = some (.lst (os.map V.int)) ∧ RdAll K n G ys ss ∧ ys.length = ss.length, ?_, ?_⟩
    · refine ⟨_, rfl, l, rfl, ⟨vs0, SqL.of hl1⟩, fun L hL => ?_⟩
      have La := hS.nea hL
      have Lb := hS.neb hL
      refine lc_list (xs := vs0) (fun i G => ExS a b H G ∧ SAt G a b (m + 8 * i) ∧ ∃ (ys : List V) (es : List PyData), G L = some (.lst ys) ∧ DpAll K (hid L L (nw H G)) ys es ∧ LsA ((ss.map stD).take i) es ∧ ys.length = i) ?_ (fun i G _ q => SqL.of (hid_ex _ _ (q.1 _ _ hl))) ?_ ?_
      · exact ⟨ExS.own ExS.rfl hL La Lb, hS.upd La Lb, [], [], upd_same, .nil, by rw [List.take_zero]; exact .nil, rfl⟩
      · rintro i x G hx ⟨q1, q2, ys, es, q3, q4, q5, q6⟩
        obtain ⟨si, bx, hsi, rfl, hdx⟩ := sts_get hD hx
        have il := (List.getElem?_eq_some_iff.mp hx).1
        have eT : Ex (tps H) (hid a b G) := (tps_hid q1 hS).trans (tps_in q2)
        refine ⟨rfl, _, rfl, _, rfl, a, b, m + 8 * i, .ref bx, stD si, rfl, q2, dp_ex eT _ _ hdx, rfl, by show 2 < 6; decide, ?_, by show 8 < 1000000; decide, fun G2 v' d' e2 s2 hv' hls => ?_⟩
        · show m + 8 * i + 8 < 900000000
          omega
        have hL2 : G2 L = some (.lst ys) := e2.at q3 La Lb
        have ups : Ex (hid L L (nw H G2)) (hid L L (nw H (upd G2 L (.lst (ys ++ [v']))))) := fun z o hz => by
          obtain ⟨z1, z2, _⟩ := hid_some hz
          obtain ⟨z3, z4⟩ := nw_some z1
          rw [hid_ne z2 z2]
          exact nw_of z3 (by rw [upd_ne z2]; exact z4)
        refine ⟨ys, hL2, by rw [q6]; exact sz_m (by omega), ExS.own (q1.trans e2) hL La Lb, ?_, ys ++ [v'], es ++ [d'], upd_same, ?_, ?_, by rw [List.length_append, q6]; rfl⟩
        · have : m + 8 * (i + 1) = m + 8 * i + cnt (stD si) := by
            show _ = m + 8 * i + 8
            omega
          rw [this]
          exact s2.upd La Lb
        · refine dpa_app (dpa_ex ((hid_mono (nw_step hS e2)).trans ups) _ _ q4) (.cons (dp_ex (Ex.trans (fun z o hz => ?_) ups) _ _ hv') .nil)
          obtain ⟨z1, z2⟩ := nw_some hz
          have zL : z ≠ L := fun q => by
            rw [q, q3] at z1
            cases z1
          rw [hid_ne zL zL]
          exact nw_of (q1.back q2 z1) z2
        · have hsd : (ss.map stD)[i]? = some (stD si) := by rw [List.getElem?_map, hsi]; rfl
          rw [List.take_add_one, hsd]
          exact LsA.app q5 (.cons hls .nil)
      rintro G1 ⟨e1, s1, ys, es, hL1, hY, hls, hyl⟩
      rw [hlen] at s1 hyl hls
      rw [List.take_of_length_le (by rw [List.length_map]; exact Nat.le_refl _)] at hls
      have hR1 : RdAll K n G1 ys ss := (rdall_of hY (ls_steps hls hWb.ok)).ex (hid_ex.trans nw_le)
      refine ⟨_, rfl, ai, _, rfl, .inl (SqL.of (hid_ex _ _ (e1 _ _ hai))), fun LI hLI => ?_⟩
      have y2 := Ex.new (o := .lst (is.map V.int)) hLI
      have f2 : upd G1 LI (.lst (is.map V.int)) LI = some (.lst (is.map V.int)) := upd_same
      have n2 := ne_of_none hL1 hLI
      generalize upd G1 LI (.lst (is.map V.int)) = G2 at y2 f2 ⊢
      refine ⟨_, rfl, ao, _, rfl, .inl (SqL.of (y2 _ _ (hid_ex _ _ (e1 _ _ hao)))), fun LO hLO => ?_⟩
      have y3 := Ex.new (o := .lst (os.map V.int)) hLO
      have n3 := ne_of_none (y2 _ _ hL1) hLO
      have n4 := ne_of_none f2 hLO
      have e13 := y2.trans y3
      exact ⟨_, _, _, rfl, L, LI, LO, ys, rfl, e1.trans (hid_mono e13), s1.ex e13, ⟨hL, e1.back s1 hLI, e1.back s1 (fresh_back y2 hLO)⟩, ⟨n2, n3, n4⟩, e13 _ _ hL1, y3 _ _ f2, upd_same, hR1.ex e13, hyl⟩
    rintro σ G1 ⟨L, LI, LO, ys, rfl, e1, s1, ⟨L0, LI0, LO0⟩, ⟨nLI, nLO, nIO⟩, hL1, hLI1, hLO1, hR1, hyl⟩
    have La := hS.nea L0
    have Lb := hS.neb L0
    have LIa := hS.nea LI0
    have LIb := hS.neb LI0
    have LOa := hS.nea LO0
    have LOb := hS.neb LO0
    refine ⟨_, rfl, _, rfl, _, rfl, _, rfl, fun x dx nx ndx nex => part_good nx ndx hWb.n1 (.inl (SqL.of hL1)) hR1 hWb.nd (by omega) (.inl (SqL.of hLI1)) (.inl (SqL.of hLO1)) hdr fun G2 wb lw li lo ts e2 p2 wb0 lw0 li0 lo0 hp so => ⟨rfl, ?_⟩⟩
    have E2 : ExS a b H G2 := e1.trans (hid_mono e2)
    have hL2 := e2 _ _ hL1
    have hLI2 := e2 _ _ hLI1
    have hLO2 := e2 _ _ hLO1
    -- the handed lists change
    refine ⟨_, rfl, .inl ⟨rfl, _, SqL.of hL2⟩, L, ys, _, rfl, rfl, hL2, by rw [hyl]; exact sz_m (by omega), ?_⟩
    have p3 := p2.up (o := .lst (ys ++ [V.non])) hL2 (ne_of_none hL1 lw0) (ne_of_none hL1 li0) (ne_of_none hL1 lo0)
    have s3 := (s1.ex e2).upd (o := .lst (ys ++ [V.non])) La Lb
    have E3 : ExS a b H (upd G2 L (.lst (ys ++ [V.non]))) := ExS.own E2 L0 La Lb
    have tp3 : Ex (tps H) (tps (upd G2 L (.lst (ys ++ [V.non])))) := (tps_hid E2 hS).trans (tps_upd (NoTup.lst hL2))
    have hLI3 : upd G2 L (.lst (ys ++ [V.non])) LI = some (.lst (is.map V.int)) := by rw [upd_ne nLI.symm]; exact hLI2
    have hLO3 : upd G2 L (.lst (ys ++ [V.non])) LO = some (.lst (os.map V.int)) := by rw [upd_ne nLO.symm]; exact hLO2
    generalize upd G2 L (.lst (ys ++ [V.non])) = G3 at p3 s3 E3 tp3 hLI3 hLO3 ⊢
    refine ⟨_, rfl, .inl ⟨rfl, _, SqL.of hLI3⟩, LI, _, _, rfl, rfl, hLI3, by rw [List.length_map]; have := hdr.i2; exact sz_m (by omega), ?_⟩
    have p4 := p3.up (o := .lst (is.map V.int ++ [V.int 99])) hLI3 (ne_of_none hLI1 lw0) (ne_of_none hLI1 li0) (ne_of_none hLI1 lo0)
    have s4 := s3.upd (o := .lst (is.map V.int ++ [V.int 99])) LIa LIb
    have E4 : ExS a b H (upd G3 LI (.lst (is.map V.int ++ [V.int 99]))) := ExS.own E3 LI0 LIa LIb
    have tp4 : Ex (tps H) (tps (upd G3 LI (.lst (is.map V.int ++ [V.int 99])))) := tp3.trans (tps_upd (NoTup.lst hLI3))
    have hLO4 : upd G3 LI (.lst (is.map V.int ++ [V.int 99])) LO = some (.lst (os.map V.int)) := by rw [upd_ne nIO.symm]; exact hLO3
    generalize upd G3 LI (.lst (is.map V.int ++ [V.int 99])) = G4 at p4 s4 E4 tp4 hLO4 ⊢
    refine ⟨_, rfl, .inl ⟨rfl, _, SqL.of hLO4⟩, LO, _, rfl, rfl, hLO4, ?_⟩
    have p5 := p4.up (o := .lst []) hLO4 (ne_of_none hLO1 lw0) (ne_of_none hLO1 li0) (ne_of_none hLO1 lo0)
    have s5 := s4.upd (o := .lst []) LOa LOb
    have E5 : ExS a b H (upd G4 LO (.lst [])) := ExS.own E4 LO0 LOa LOb
    have tp5 : Ex (tps H) (tps (upd G4 LO (.lst []))) := tp4.trans (tps_upd (NoTup.lst hLO4))
    generalize upd G4 LO (.lst []) = G5 at p5 s5 E5 tp5 ⊢
    have hl5 : G5 l = some (.lst vs0) := hid_ex _ _ (E5 _ _ hl)
    refine ⟨_, rfl, _, rfl, l, vs0, ss, rfl, SqL.of hl5, dpa_ex (tp5.trans tps_le) _ _ hD, fun zs us ls hz hus hDz hso hls0 => ⟨_, rfl, _, rfl, by show 4 ≤ sizeLine; decide, fun D hD0 => ?_⟩⟩
    have hut : us = ts := srs_uniq hso so (hus.trans hp.symm)
    subst hut
    have yls := Ex.new (o := .lst zs) hls0
    have fls : upd G5 ls (.lst zs) ls = some (.lst zs) := upd_same
    generalize upd G5 ls (.lst zs) = G7 at yls fls hD0 ⊢
    have yD := Ex.new (o := .lst [V.int n, V.ref ls, V.ref ai, V.ref ao]) hD0
    have fD : upd G7 D (.lst [V.int n, V.ref ls, V.ref ai, V.ref ao]) D = some (.lst [V.int n, V.ref ls, V.ref ai, V.ref ao]) := upd_same
    generalize upd G7 D (.lst [V.int n, V.ref ls, V.ref ai, V.ref ao]) = G8 at yD fD ⊢
    have e58 := yls.trans yD
    have s8 := s5.ex e58
    have E8 : ExS a b H G8 := E5.trans (hid_mono e58)
    have D0 := fresh_back yls hD0
    -- what stands over the stream from here on
    have bP : PtL K CW C (hid a b G8) x wb lw li lo n us is os := (p5.ex e58).hidS s8 (off_of s1 nx wb0 lw0 li0 lo0)
    obtain ⟨dxp, kdp, bx⟩ := bP.o
    obtain ⟨dxw, kdw, ws, bw, _⟩ := bP.w
    have bD : hid a b G8 D = some (.lst [V.int n, V.ref ls, V.ref ai, V.ref ao]) := by
      rw [hid_ne (s5.nea D0) (s5.neb D0)]
      exact fD
    have bls : hid a b G8 ls = some (.lst zs) := by
      rw [hid_ne (s5.nea hls0) (s5.neb hls0)]
      exact yD _ _ fls
    have bzs : DpAll K (hid a b G8) zs (us.map stD) := sts_hid s8 (dpa_ex e58 _ _ hDz)
    have bl : hid a b G8 l = some (.lst vs0) := E8 _ _ hl
    have bai : hid a b G8 ai = some (.lst (is.map V.int)) := E8 _ _ hai
    have bao : hid a b G8 ao = some (.lst (os.map V.int)) := E8 _ _ hao
    have btp : Ex (tps H) (tps G8) := tp5.trans (tps_mono e58)
    have hul : us.length = ss.length := hp.length_eq
    have PP : ∀ {G : Hp}, ExS a b G8 G → PtL K CW C G x wb lw li lo n us is os := fun e => (bP.ex e).ex hid_ex
    have mW : ∀ {σ : L2.St} {G : Hp} {Q : VK} {E : XK}, ExS a b G8 G → Q (.ref wb) G → ∃ (y dy : Addr) (fs : List (Str × V)), V.ref x = .ref y ∧ G y = some (.ins C dy fs) ∧ fs.lookup ("web" : Str) = none ∧ tNil σ G fun vs H2 => spPWeb K CW C (V.ref x :: (vs ++ [])) H2 Q E := fun e kq =>
      ⟨x, dxp, _, rfl, hid_ex _ _ (e _ _ bx), pf_no _ _ _ _ (by decide +kernel) (by decide +kernel) (by decide +kernel) (by decide +kernel), x, wb, lw, li, lo, n, us, is, os, rfl, PP e, kq⟩
    have mN : ∀ {σ : L2.St} {G : Hp} {Q : VK} {E : XK}, ExS a b G8 G → (∀ p, G p = none → Q (.ref p) (upd G p (.lst (is.map V.int)))) → ∃ (y dy : Addr) (fs : List (Str × V)), V.ref x = .ref y ∧ G y = some (.ins C dy fs) ∧ fs.lookup ("ins" : Str) = none ∧ tNil σ G fun vs H2 => spPIns K CW C (V.ref x :: (vs ++ [])) H2 Q E := fun e kq =>
      ⟨x, dxp, _, rfl, hid_ex _ _ (e _ _ bx), pf_no _ _ _ _ (by decide +kernel) (by decide +kernel) (by decide +kernel) (by decide +kernel), x, wb, lw, li, lo, n, us, is, os, rfl, PP e, kq⟩
    have mO : ∀ {σ : L2.St} {G : Hp} {Q : VK} {E : XK}, ExS a b G8 G → (∀ p, G p = none → Q (.ref p) (upd G p (.lst (os.map V.int)))) → ∃ (y dy : Addr) (fs : List (Str × V)), V.ref x = .ref y ∧ G y = some (.ins C dy fs) ∧ fs.lookup ("outs" : Str) = none ∧ tNil σ G fun vs H2 => spPOuts K CW C (V.ref x :: (vs ++ [])) H2 Q E := fun e kq =>
      ⟨x, dxp, _, rfl, hid_ex _ _ (e _ _ bx), pf_no _ _ _ _ (by decide +kernel) (by decide +kernel) (by decide +kernel) (by decide +kernel), x, wb, lw, li, lo, n, us, is, os, rfl, PP e, kq⟩
    have mP : ∀ {σ : L2.St} {G : Hp} {Q : VK} {E : XK}, ExS a b G8 G → Q (.int n) G → ∃ (y dy : Addr) (fs : List (Str × V)), V.ref wb = .ref y ∧ G y = some (.ins CW dy fs) ∧ fs.lookup ("places" : Str) = none ∧ tNil σ G fun vs H2 => spPlaces K CW (V.ref wb :: (vs ++ [])) H2 Q E := fun e kq =>
      ⟨wb, dxw, _, rfl, hid_ex _ _ (e _ _ bw), wf_no _ _ _ (by decide +kernel) (by decide +kernel) (by decide +kernel), wb, n, us, rfl, (PP e).w.at, kq⟩
    have mS : ∀ {σ : L2.St} {G : Hp} {Q : VK} {E : XK}, ExS a b G8 G → (∀ p ys, G p = none → DpAll K G ys (us.map stD) → Q (.ref p) (upd G p (.lst ys))) → ∃ (y dy : Addr) (fs : List (Str × V)), V.ref wb = .ref y ∧ G y = some (.ins CW dy fs) ∧ fs.lookup ("steps" : Str) = none ∧ tNil σ G fun vs H2 => spSteps K CW (V.ref wb :: (vs ++ [])) H2 Q E := fun e kq =>
      ⟨wb, dxw, _, rfl, hid_ex _ _ (e _ _ bw), wf_no _ _ _ (by decide +kernel) (by decide +kernel) (by decide +kernel), wb, n, us, rfl, (PP e).w.at, kq⟩
    have er : ExS a b G8 G8 := Ex.refl _
    have i2 := hdr.i2
    have o2 := hdr.o2
    -- found
    refine ⟨_, rfl, mW er (mP er ⟨_, rfl, mW er (mS er fun q qs hq hqs => ?_)⟩)⟩
    have y9 := Ex.new (o := .lst qs) hq
    have f9 : upd G8 q (.lst qs) q = some (.lst qs) := upd_same
    generalize upd G8 q (.lst qs) = G9 at y9 f9 ⊢
    refine ⟨_, rfl, mN (hid_mono y9) fun qi hqi => ?_⟩
    have y10 := Ex.new (o := .lst (is.map V.int)) hqi
    have f10 : upd G9 qi (.lst (is.map V.int)) qi = some (.lst (is.map V.int)) := upd_same
    generalize upd G9 qi (.lst (is.map V.int)) = G10 at y10 f10 ⊢
    refine ⟨_, rfl, mO (hid_mono (y9.trans y10)) fun qo hqo => ?_⟩
    have y11 := Ex.new (o := .lst (os.map V.int)) hqo
    have f11 : upd G10 qo (.lst (os.map V.int)) qo = some (.lst (os.map V.int)) := upd_same
    generalize upd G10 qo (.lst (os.map V.int)) = G11 at y11 f11 ⊢
    refine ⟨by show 4 ≤ sizeLine; decide, fun FD hFD => ?_⟩
    have y12 := Ex.new (o := .lst [V.int n, V.ref q, V.ref qi, V.ref qo]) hFD
    have f12 : upd G11 FD (.lst [V.int n, V.ref q, V.ref qi, V.ref qo]) FD = some (.lst [V.int n, V.ref q, V.ref qi, V.ref qo]) := upd_same
    generalize upd G11 FD (.lst [V.int n, V.ref q, V.ref qi, V.ref qo]) = G12 at y12 f12 ⊢
    have e912 := y9.trans (y10.trans (y11.trans y12))
    have k12 : ExS a b G8 G12 := hid_mono e912
    refine ⟨_, rfl, _, rfl, .ref FD, .ref D, rfl, same_4 f12 (hid_ex _ _ (k12 _ _ bD)) ((y10.trans (y11.trans y12)) _ _ f9) (dpa_ex e912 _ _ hqs) ((y11.trans y12) _ _ f10) (y12 _ _ f11) (hid_ex _ _ (k12 _ _ bls)) (dpa_ex (Ex.trans k12 hid_ex) _ _ bzs) (hid_ex _ _ (k12 _ _ bai)) (hid_ex _ _ (k12 _ _ bao)) (by omega) i2 o2, fun G13 e13 => ⟨_, rfl, iteF ?_⟩⟩
    have E13 := e912.trans e13
    have k13 : ExS a b G8 G13 := hid_mono E13
    have hD13 : DpAll K G13 vs0 (ss.map stD) := dpa_ex (btp.trans ((tps_mono E13).trans tps_le)) _ _ hD
    refine ⟨_, rfl, mW k13 ⟨_, rfl, _, rfl, fun x2 dx2 nx2 ndx2 nex2 => web_good nx2 ndx2 hWb.n1 rfl (.inl (SqL.of (hid_ex _ _ (k13 _ _ bl)))) (rdall_st hD13 hWb.ok) hWb.nd (by omega) fun G14 lw2 ts2 e14 w14 lw20 hp2 so2 => ⟨rfl, ?_⟩⟩⟩
    have ht2 : ts2 = us := srs_uniq so2 so (hp2.trans hp.symm)
    subst ht2
    have E14 := E13.trans e14
    have k14 : ExS a b G8 G14 := hid_mono E14
    obtain ⟨dxv, kd2, ws2, hx14, _⟩ := id w14
    refine ⟨wb, dxw, _, .ref CW, rfl, hid_ex _ _ (k14 _ _ bw), .ins hx14, by simp [PySem.W.notFirst], wb, .ref x2, n, ts2, rfl, (PP k14).w.at, .inr ⟨x2, n, ts2, rfl, w14.at, fun G15 e15 => ⟨_, rfl, _, rfl, ?_⟩⟩⟩
    rw [decide_eq_true rfl, decide_eq_true rfl]
    refine iteF ?_
    have E15 : Ex G8 G15 := E14.trans e15
    -- what it told is changed
    refine ⟨_, rfl, mN (hid_mono E15) fun q1 hq1 => ⟨.inl ⟨rfl, _, SqL.of upd_same⟩, q1, _, _, rfl, rfl, upd_same, by rw [List.length_map]; exact sz_m (by omega), ?_⟩⟩
    have E16 : Ex G8 (upd (upd G15 q1 (.lst (is.map V.int))) q1 (.lst (is.map V.int ++ [V.int 7]))) := E15.trans (Ex.mut (Ex.new hq1) hq1)
    generalize upd (upd G15 q1 (.lst (is.map V.int))) q1 (.lst (is.map V.int ++ [V.int 7])) = G16 at E16 ⊢
    refine ⟨_, rfl, mO (hid_mono E16) fun q2 hq2 => ⟨.inl ⟨rfl, _, SqL.of upd_same⟩, q2, _, rfl, rfl, upd_same, ?_⟩⟩
    have E17 : Ex G8 (upd (upd G16 q2 (.lst (os.map V.int))) q2 (.lst [])) := E16.trans (Ex.mut (Ex.new hq2) hq2)
    generalize upd (upd G16 q2 (.lst (os.map V.int))) q2 (.lst []) = G17 at E17 ⊢
    refine ⟨_, rfl, mW (hid_mono E17) (mS (hid_mono E17) fun q3 qs3 hq3 hqs3 => ⟨.inl ⟨rfl, _, SqL.of upd_same⟩, q3, _, rfl, rfl, upd_same, ?_⟩)⟩
    have E18 : Ex G8 (upd (upd G17 q3 (.lst qs3)) q3 (.lst [])) := E17.trans (Ex.mut (Ex.new hq3) hq3)
    generalize upd (upd G17 q3 (.lst qs3)) q3 (.lst []) = G18 at E18 ⊢
    -- told anew
    refine ⟨_, rfl, mW (hid_mono E18) (mS (hid_mono E18) fun q qs hq4 hqs => ?_)⟩
    have y9 := Ex.new (o := .lst qs) hq4
    have f9 : upd G18 q (.lst qs) q = some (.lst qs) := upd_same
    generalize upd G18 q (.lst qs) = G19 at y9 f9 ⊢
    refine ⟨_, rfl, mN (hid_mono (E18.trans y9)) fun qi hqi => ?_⟩
    have y10 := Ex.new (o := .lst (is.map V.int)) hqi
    have f10 : upd G19 qi (.lst (is.map V.int)) qi = some (.lst (is.map V.int)) := upd_same
    generalize upd G19 qi (.lst (is.map V.int)) = G20 at y10 f10 ⊢
    refine ⟨_, rfl, mO (hid_mono (E18.trans (y9.trans y10))) fun qo hqo => ?_⟩
    have y11 := Ex.new (o := .lst (os.map V.int)) hqo
    have f11 : upd G20 qo (.lst (os.map V.int)) qo = some (.lst (os.map V.int)) := upd_same
    generalize upd G20 qo (.lst (os.map V.int)) = G21 at y11 f11 ⊢
    refine ⟨by show 3 ≤ sizeLine; decide, fun FD hFD => ?_⟩
    have y12 := Ex.new (o := .lst [V.ref q, V.ref qi, V.ref qo]) hFD
    have f12 : upd G21 FD (.lst [V.ref q, V.ref qi, V.ref qo]) FD = some (.lst [V.ref q, V.ref qi, V.ref qo]) := upd_same
    generalize upd G21 FD (.lst [V.ref q, V.ref qi, V.ref qo]) = G22 at y12 f12 ⊢
    have y912 := y9.trans (y10.trans (y11.trans y12))
    have k22 : ExS a b G8 G22 := hid_mono (E18.trans y912)
    refine ⟨_, rfl, _, rfl, D, _, rfl, SqL.of (hid_ex _ _ (k22 _ _ bD)), fun D1 hD1 => ?_⟩
    have hc : cutV [V.int n, V.ref ls, V.ref ai, V.ref ao] (some 1) none = [V.ref ls, V.ref ai, V.ref ao] := cut_fr _ 1
    rw [hc]
    have y13 := Ex.new (o := .lst [V.ref ls, V.ref ai, V.ref ao]) hD1
    have f13 : upd G22 D1 (.lst [V.ref ls, V.ref ai, V.ref ao]) D1 = some (.lst [V.ref ls, V.ref ai, V.ref ao]) := upd_same
    generalize upd G22 D1 (.lst [V.ref ls, V.ref ai, V.ref ao]) = G23 at y13 f13 ⊢
    have E23 := E18.trans (y912.trans y13)
    have k23 : ExS a b G8 G23 := hid_mono E23
    refine ⟨.ref FD, .ref D1, rfl, same_3 (y13 _ _ f12) f13 ((y10.trans (y11.trans (y12.trans y13))) _ _ f9) (dpa_ex (y912.trans y13) _ _ hqs) ((y11.trans (y12.trans y13)) _ _ f10) ((y12.trans y13) _ _ f11) (hid_ex _ _ (k23 _ _ bls)) (dpa_ex (Ex.trans k23 hid_ex) _ _ bzs) (hid_ex _ _ (k23 _ _ bai)) (hid_ex _ _ (k23 _ _ bao)) (by omega) i2 o2, fun G24 e24 => ⟨_, rfl, iteF ?_⟩⟩
    have E24 := E23.trans e24
    have k24 : ExS a b G8 G24 := hid_mono E24
    -- its twin
    refine ⟨_, rfl, _, rfl, ao, _, rfl, .inl ⟨SqL.of (hid_ex _ _ (k24 _ _ bao)), fun T1 hT1 => ?_⟩⟩
    have z1 := Ex.new (o := .tup (os.map V.int)) hT1
    have g1 : upd G24 T1 (.tup (os.map V.int)) T1 = some (.tup (os.map V.int)) := upd_same
    generalize upd G24 T1 (.tup (os.map V.int)) = G25 at z1 g1 ⊢
    have k25 : ExS a b G8 G25 := hid_mono (E24.trans z1)
    refine ⟨_, rfl, ai, _, rfl, .inl ⟨SqL.of (hid_ex _ _ (k25 _ _ bai)), fun T2 hT2 => ?_⟩⟩
    have z2 := Ex.new (o := .tup (is.map V.int)) hT2
    have g2 : upd G25 T2 (.tup (is.map V.int)) T2 = some (.tup (is.map V.int)) := upd_same
    generalize upd G25 T2 (.tup (is.map V.int)) = G26 at z2 g2 ⊢
    have E26 := E24.trans (z1.trans z2)
    have k26 : ExS a b G8 G26 := hid_mono E26
    have s26 := s8.ex E26
    refine ⟨_, rfl, _, rfl, a, b, m + 8 * ss.length, l, vs0, rfl, s26, SqL.of (k26 _ _ bl), by omega, by omega, fun G27 p27 ys27 k27 s27 p270 hp27 perm => ⟨_, rfl, rfl, rfl, fun x3 dx3 nx3 ndx3 nex3 => ?_⟩⟩
    have K27 : ExS a b G8 G27 := k26.trans k27
    obtain ⟨ss9, hss9, hD9⟩ := dpa_perm perm hD
    have hD27 : DpAll K G27 ys27 (ss9.map stD) := dpa_ex (btp.trans ((tps_hid K27 s8).trans tps_le)) _ _ hD9
    have tk27 : Ex (tps G26) G27 := (tps_hid k27 s26).trans tps_le
    have hT1' : G27 T1 = some (.tup (os.map V.int)) := tk27 _ _ (tps_of (z2 _ _ g1))
    have hT2' : G27 T2 = some (.tup (is.map V.int)) := tk27 _ _ (tps_of g2)
    refine part_good nx3 ndx3 hWb.n1 (.inl (SqL.of hp27)) (rdall_st hD27 (hWb.perm hss9).ok) (hWb.perm hss9).nd (by rw [hss9.length_eq]; omega) (.inr (SqT.of hT2')) (.inr (SqT.of hT1')) hdr fun G28 wb3 lw3 li3 lo3 ts3 e28 p28 wb30 lw30 li30 lo30 hp3 so3 => ⟨rfl, ?_⟩
    have ht3 : ts3 = ts2 := srs_uniq so3 so (hp3.trans (hss9.trans hp.symm))
    subst ht3
    have k28 : ExS a b G8 G28 := K27.trans (hid_mono e28)
    obtain ⟨dxq, kdq, hx28⟩ := p28.o
    refine ⟨x, dxp, _, .ref C, rfl, hid_ex _ _ (k28 _ _ bx), .ins hx28, by simp [PySem.W.notFirst], x, .ref x3, n, ts3, is, os, rfl, (PP k28).at, .inr ⟨x3, n, ts3, is, os, rfl, p28.at, fun G29 e29 => ⟨_, rfl, ?_⟩⟩⟩
    rw [decide_eq_true (rfl : n = n), decide_eq_true (rfl : ts3 = ts3), decide_eq_true (rfl : is = is), decide_eq_true (rfl : os = os)]
    have e29' : Ex G28 G29 := e29
    rw [hlen] at s27
    exact k G29 (E8.trans (k28.trans (hid_mono e29'))) (((s27.ex e28).ex e29').mono (by omega))
end
end AA

set_option Elab.async false
set_option linter.all false
set_option maxRecDepth 100000
set_option maxHeartbeats 4000000
/-! _law_unlike_right. -/
namespace AA
open PySem PySem.Spec PyProof.Rows L2 Evl
theorem any_ints (ns : List Int) (i : Int) : ((ns.map PyData.int).any fun z => PyData.eqv z (.int i)) = decide (i ∈ ns) := by
  induction ns with
  | nil => rfl
  | cons t r ih =>
    rw [List.map_cons, List.any_cons, ih, show PyData.eqv (.int t) (.int i) = (t == i) from rfl, Bool.eq_iff_iff]
    simp
    exact or_congr eq_comm Iff.rfl
/-- a growing list at g, each thing in it as F says of the heap without it -/
def LsG (F : Hp → V → Prop) (g : Addr) (G : Hp) (N : Nat) : Prop := ∃ os : List V, G g = some (.lst os) ∧ (∀ o ∈ os, F (hid g g G) o) ∧ os.length ≤ N
theorem LsG.go {F : Hp → V → Prop} {g : Addr} {G G' : Hp} {N : Nat} (mF : MonF F) (h : LsG F g G N) (e : Ex G G') : LsG F g G' N := by
  obtain ⟨os, h1, h2, h3⟩ := h
  exact ⟨os, e _ _ h1, fun o ho => mF _ _ _ (hid_mono e) (h2 o ho), h3⟩
theorem LsG.add {F : Hp → V → Prop} {g : Addr} {G : Hp} {os ys : List V} {N M : Nat} (h2 : ∀ o ∈ os, F (hid g g G) o) (hl : os.length ≤ N) (hy : ∀ o ∈ ys, F (hid g g G) o) (hm : N + ys.length ≤ M) : LsG F g (upd G g (.lst (os ++ ys))) M := by
  refine ⟨_, upd_same, fun o ho => ?_, by rw [List.length_append]; omega⟩
  rw [hid_upda]
  exact (List.mem_append.mp ho).elim (h2 o) (hy o)
/-- a thing that is unlike the part -/
def OthP (K : PySem.W.Frag) (CW C : Addr) (n : Int) (ts : List St5) (is os : List Int) (G : Hp) (o : V) : Prop :=
  (∃ S : String, Ty6 G o (.type S) ∧ NwK K C (.type S)) ∨ (∃ (y lw : Addr) (m : Int) (us : List St5), o = .ref y ∧ WebL K CW G y lw m us) ∨
    ∃ (y wb lw li lo : Addr) (m : Int) (us : List St5) (js ps : List Int), o = .ref y ∧ PtL K CW C G y wb lw li lo m us js ps ∧ (n ≠ m ∨ ts ≠ us ∨ is ≠ js ∨ os ≠ ps)
theorem othP_mono {K : PySem.W.Frag} {CW C : Addr} {n : Int} {ts : List St5} {is os : List Int} : MonF (OthP K CW C n ts is os) := fun H H' o e h => by
  rcases h with ⟨S, h1, h2⟩ | ⟨y, lw, m, us, h1, h2⟩ | ⟨y, wb, lw, li, lo, m, us, js, ps, h1, h2, h3⟩
  · exact .inl ⟨S, h1.ex e, h2⟩
  · exact .inr (.inl ⟨y, lw, m, us, h1, h2.ex e⟩)
  · exact .inr (.inr ⟨y, wb, lw, li, lo, m, us, js, ps, h1, h2.ex e, h3⟩)
theorem othP_eq {K : PySem.W.Frag} {CW C x : Addr} {n : Int} {ts : List St5} {is os : List Int} {G : Hp} {o : V} {dx : Addr} {fs : List (Str × V)} {ng : Bool} {Q : VK} (IC : InsK K CW) (NC : NwK K C (.ref CW)) (h : OthP K CW C n ts is os G o) (hx : G x = some (.ins C dx fs)) (hW : PtAt K CW C G x n ts is os) (k : ∀ G', Ex G G' → Q (.bl (false ^^ ng)) G') : rCmpV K C (spPEq K CW C) ng (.ref x) o G Q := by
  rcases h with ⟨S, h1, h2, h3⟩ | ⟨y, lw, m, us, rfl, h2⟩ | ⟨y, wb, lw, li, lo, m, us, js, ps, rfl, h2, h3⟩
  · exact ⟨x, dx, fs, .type S, rfl, hx, h1, h2, x, o, n, ts, is, os, rfl, hW, .inl ⟨.type S, ty6_F h1, h3, false, rfl, k G (Ex.refl _)⟩⟩
  · obtain ⟨dy, kd, ys, g1, g2, g3⟩ := id h2
    exact ⟨x, dx, fs, .ref CW, rfl, hx, .ins g1, NC.1, x, .ref y, n, ts, is, os, rfl, hW, .inl ⟨.ref CW, .inl (.base (.ins g1 IC.cl IC.ha IC.hn IC.ht IC.hm)), NC.2, false, rfl, k G (Ex.refl _)⟩⟩
  · obtain ⟨dy, kd, g1⟩ := h2.o
    refine ⟨x, dx, fs, .ref C, rfl, hx, .ins g1, by simp [PySem.W.notFirst], x, .ref y, n, ts, is, os, rfl, hW, .inr ⟨y, m, us, js, ps, rfl, h2.at, fun G' e => ⟨_, rfl, ?_⟩⟩⟩
    have : ((decide (n = m) && decide (ts = us)) && (decide (is = js) && decide (os = ps))) = false := by
      rcases h3 with h3 | h3 | h3 | h3 <;> rw [decide_eq_false h3] <;> simp
    rw [this]
    exact k G' e
theorem dpa_drop {K : PySem.W.Frag} {H : Hp} : ∀ {xs : List V} {ds : List PyData} (j : Nat), DpAll K H xs ds → DpAll K H (xs.drop j) (ds.drop j)
  | [], _, j, h => by
    cases h
    rw [List.drop_nil, List.drop_nil]
    exact .nil
  | x :: xs, _, 0, h => by
    cases h with
    | cons h1 h2 => exact .cons h1 h2
  | x :: xs, _, j + 1, h => by
    cases h with
    | cons h1 h2 => exact dpa_drop j h2
theorem DrOk.swap {n : Int} {is os : List Int} (h : DrOk n is os) : DrOk n os is := by
  obtain ⟨a1, a2, a3⟩ := List.nodup_append.mp h.nd
  exact ⟨List.nodup_append.mpr ⟨a2, a1, fun x hx y hy e => a3 y hy x hx e.symm⟩, fun i hi => h.rg i ((List.mem_append.mp hi).elim (List.mem_append_right _) (List.mem_append_left _)), h.o1, h.i1, h.o2, h.i2⟩
theorem DrOk.succ {n : Int} {is os : List Int} (h : DrOk n is os) : DrOk (n + 1) is os := ⟨h.nd, fun i hi => by have := h.rg i hi; omega, h.i1, h.o1, h.i2, h.o2⟩
theorem DrOk.revI {n : Int} {is os : List Int} (h : DrOk n is os) : DrOk n is.reverse os := by
  obtain ⟨a1, a2, a3⟩ := List.nodup_append.mp h.nd
  exact ⟨List.nodup_append.mpr ⟨(List.reverse_perm is).symm.nodup a1, a2, fun x hx y hy e => a3 x (List.mem_reverse.mp hx) y hy e⟩, fun i hi => h.rg i ((List.mem_append.mp hi).elim (fun z => List.mem_append_left _ (List.mem_reverse.mp z)) (List.mem_append_right _)), fun z => h.i1 (List.reverse_eq_nil_iff.mp z), h.o1, by rw [List.length_reverse]; exact h.i2, h.o2⟩
theorem DrOk.revO {n : Int} {is os : List Int} (h : DrOk n is os) : DrOk n is os.reverse := h.swap.revI.swap
theorem DrOk.one {n f : Int} {is os : List Int} (h : DrOk n is os) (hf : 0 ≤ f ∧ f < n ∧ f ∉ os) : DrOk n [f] os := by
  obtain ⟨a1, a2, a3⟩ := List.nodup_append.mp h.nd
  exact ⟨List.nodup_append.mpr ⟨by simp, a2, fun x hx y hy e => by
    obtain rfl : x = f := by simpa using hx
    exact hf.2.2 (e ▸ hy)⟩, fun i hi => (List.mem_append.mp hi).elim (fun z => by
      obtain rfl : i = f := by simpa using z
      exact ⟨hf.1, hf.2.1⟩) (fun z => h.rg i (List.mem_append_right _ z)), by simp, h.o1, by show 1 ≤ 2; decide, h.o2⟩
theorem rev_ne {is : List Int} (nd : is.Nodup) (h1 : 1 < is.length) (h2 : is.length ≤ 2) : is ≠ is.reverse := by
  obtain ⟨x, y, rfl⟩ := two_ofl (show is.length = 2 by omega)
  intro e
  have e' : [x, y] = [y, x] := e
  injection e' with e1 _
  subst e1
  simp at nd
section
variable {P : Program} {w : World} {K : PySem.W.Frag} {mg : Str → Option Value} {base : Heap}
def spUnP (K : PySem.W.Frag) : Sp := fun vs H Q _ => ∃ (v0 : V) (n : Int) (l ai ao : Addr) (vs0 : List V) (ss : List St5) (is os : List Int), vs = [v0, .int n, .ref l, .ref ai, .ref ao] ∧ H l = some (.lst vs0) ∧ H ai = some (.lst (is.map V.int)) ∧ H ao = some (.lst (os.map V.int)) ∧ DpAll K H vs0 (ss.map stD) ∧ WbOk n ss ∧ ss.length ≤ 100 ∧ n ≤ 100 ∧ DrOk n is os ∧
  ∀ H', Ex H H' → Q (.bl true) H'
abbrev nmUnP : List Str := ["_law_stream_here", "_law_places", "_law_steps", "_law_ins", "_law_outs", "_law_made", "_law_free", "_law_others", "_law_place", "_law_other"]
theorem scUnP : FnScope nmUnP ["_law_stream_here", "_law_places", "_law_steps", "_law_ins", "_law_outs"] (defScope sUnlikeRight) := ⟨rfl, rfl, rfl, by decide +kernel, rfl, by decide +kernel, by decide +kernel⟩
theorem ok_unP {f CW C CP CS CI CO gI gW gN gO gE : Addr} {fd ddI ddW ddN ddO ddE : FuncData} (F : L2.Fun K "_law_unlike_right" "_law_unlike_right" sUnlikeRight f fd) (B : Bn mg) (hany : mg "any" = none) (IC : InsK K CW) (NC : NwK K C (.ref CW)) (NW : NwA K C) (Z : PtK P w K mg base CW C CP CS CI CO gI gW gN gO gE ddI ddW ddN ddO ddE) :
    FnOk P w K mg base CX0 10 f fd ["_law_stream_here", "_law_places", "_law_steps", "_law_ins", "_law_outs"] (spUnP K) := by
  refine F.ok scUnP (fun vs H Q E h => ?_) (fun cdv A outer s H vs Q E hr h => ?_)
  · obtain ⟨v0, n, l, ai, ao, vs0, ss, is, os, rfl, _⟩ := h
    rfl
  · obtain ⟨v0, n, l, ai, ao, vs0, ss, is, os, rfl, hl, hai, hao, hD, hWb, hsz, hn100, hdr, k⟩ := h
    have hr1 : Room 1 _ := hr.mono (by decide)
    have hr2 : Room 2 _ := hr.mono (by decide)
    have hr3 : Room 3 _ := hr.mono (by decide)
    have hr7 := hr.mono (show 8 ≤ 9 by decide)
    refine ⟨_, Evl.pss_cut (ps_asg (pe_tup (pa_cons (pe_make Z.M Z.GI hr7 (by rfl) Z.T.mgC Z.bI .nil pass0 (pa_cons (pv 1) (pa_cons (pv 2) (pa_cons (pv 3) (pa_cons (pv 4) pa_nil)))))
          (pa_cons (pe_lc (own := [("_law_place", 8)]) (g := gName 8) (by rfl) scUnP.nd (pi_range1 (by rfl) B.range (pa_cons (pv 1) pa_nil)) (blkOk_by (N := nmUnP) (sc := defScope sUnlikeRight) (by decide +kernel))
              (fun _ _ _ _ _ => pg_name (i := 8) scUnP.nd rfl (Or.inl rfl)) (fun _ _ _ _ _ => pts_one (pt_cmpR (r := rNotInD K) (op_notInD (Room.u65 hr)) (pv 8) (pe_op op_cat (pv 3) (pv 4)) (by rfl))) (fun _ _ _ _ _ => pv 8)) pa_nil)))
        (pg_tup (n := 2) rfl (pgs_cons (pg_name (i := 5) scUnP.nd rfl (Or.inr rfl)) (pgs_cons (pg_name (i := 6) scUnP.nd rfl (Or.inl rfl)) pgs_nil))))
      (Evl.pss_cut (ps_set (i := 7) scUnP.nd rfl (Or.inl rfl) (pe_lst (pa_cons pe_non (pa_cons (pe_meth0 (pv 5) Z.T.cl Z.mW Z.GW hr1 Z.bW .nil pass0) (pa_cons (pe_tup (pa_cons (pv 1) (pa_cons (pv 2) (pa_cons (pv 3) (pa_cons (pv 4) pa_nil))))) (pa_cons pe_str
          (pa_cons (pe_make Z.M Z.GI hr7 (by rfl) Z.T.mgC Z.bI .nil pass0 (pa_cons (pv 1) (pa_cons (pv 2) (pa_cons (pv 4) (pa_cons (pv 3) pa_nil))))) pa_nil)))))))
      (Evl.pss_cut (ps_expr (pe_bm PySem.F.plainAttrs_list PySem.F.slot_list_extend PySem.F.type_list_extend mt_extend (pv 7) (pa_cons (pe_ifExp (pt_cmpR op_lt (pv 1) pe_int (nomark _)) (pe_lst (pa_cons (pe_make Z.M Z.GI hr7 (by rfl) Z.T.mgC Z.bI .nil pass0 (pa_cons (pe_op op_add (pv 1) pe_int) (pa_cons (pv 2) (pa_cons (pv 3) (pa_cons (pv 4) pa_nil))))) pa_nil)) (pe_lst pa_nil)) pa_nil)))
      (Evl.pss_cut (ps_expr (pe_bm PySem.F.plainAttrs_list PySem.F.slot_list_extend PySem.F.type_list_extend mt_extend (pv 7) (pa_cons (pe_ifExp (pt_cmpR (op_neD hr.units) (pv 2) (pe_lst pa_nil) (nomark _)) (pe_lst (pa_cons (pe_make Z.M Z.GI hr7 (by rfl) Z.T.mgC Z.bI .nil pass0 (pa_cons (pv 1) (pa_cons (pe_slice sl_list (pv 2) (po_some pe_int) po_none) (pa_cons (pv 3) (pa_cons (pv 4) pa_nil))))) pa_nil)) (pe_lst pa_nil)) pa_nil)))
      (Evl.pss_cut (ps_expr (pe_bm PySem.F.plainAttrs_list PySem.F.slot_list_extend PySem.F.type_list_extend mt_extend (pv 7) (pa_cons (pe_ifExp (pt_cmpR op_gt (pe_callB call_len_seq (by rfl) B.len PySem.boot_len (pa_cons (pv 3) pa_nil)) pe_int (nomark _)) (pe_lst (pa_cons (pe_make Z.M Z.GI hr7 (by rfl) Z.T.mgC Z.bI .nil pass0 (pa_cons (pv 1) (pa_cons (pv 2) (pa_cons (pe_rev (pv 3) (pe_un un_neg pe_int)) (pa_cons (pv 4) pa_nil))))) pa_nil)) (pe_lst pa_nil)) pa_nil)))
      (Evl.pss_cut (ps_expr (pe_bm PySem.F.plainAttrs_list PySem.F.slot_list_extend PySem.F.type_list_extend mt_extend (pv 7) (pa_cons (pe_ifExp (pt_cmpR op_gt (pe_callB call_len_seq (by rfl) B.len PySem.boot_len (pa_cons (pv 4) pa_nil)) pe_int (nomark _)) (pe_lst (pa_cons (pe_make Z.M Z.GI hr7 (by rfl) Z.T.mgC Z.bI .nil pass0 (pa_cons (pv 1) (pa_cons (pv 2) (pa_cons (pv 3) (pa_cons (pe_rev (pv 4) (pe_un un_neg pe_int)) pa_nil)))))
          (pa_cons (pe_make Z.M Z.GI hr7 (by rfl) Z.T.mgC Z.bI .nil pass0 (pa_cons (pv 1) (pa_cons (pv 2) (pa_cons (pv 3) (pa_cons (pe_slice sl_list (pv 4) po_none (po_some pe_int)) pa_nil))))) pa_nil))) (pe_lst pa_nil)) pa_nil)))
      (Evl.pss_cut (ps_expr (pe_bm PySem.F.plainAttrs_list PySem.F.slot_list_extend PySem.F.type_list_extend mt_extend (pv 7) (pa_cons (pe_ifExp (pt_cmpR (op_neD hr.units) (pv 6) (pe_lst pa_nil) (nomark _)) (pe_lst (pa_cons (pe_make Z.M Z.GI hr7 (by rfl) Z.T.mgC Z.bI .nil pass0 (pa_cons (pv 1) (pa_cons (pv 2) (pa_cons (pe_slice sl_list (pv 6) po_none (po_some pe_int)) (pa_cons (pv 4) pa_nil)))))
          (pa_cons (pe_make Z.M Z.GI hr7 (by rfl) Z.T.mgC Z.bI .nil pass0 (pa_cons (pv 1) (pa_cons (pv 2) (pa_cons (pv 3) (pa_cons (pe_slice sl_list (pv 6) po_none (po_some pe_int)) pa_nil))))) pa_nil))) (pe_lst pa_nil)) pa_nil)))
      (pss_one (ps_ret (pe_and (pe_not (pe_callB (cr_any (by rfl)) (by rfl) hany boot_any (pa_cons (pe_lc (own := [("_law_other", 9)]) (g := gName 9) (tt := tYes) (by rfl) scUnP.nd (pi_list (pv 7)) (blkOk_by (N := nmUnP) (sc := defScope sUnlikeRight) (by decide +kernel))
              (fun _ _ _ _ _ => pg_name (i := 9) scUnP.nd rfl (Or.inl rfl)) (fun _ _ _ _ _ => pts_nil) (fun _ _ _ _ _ => pe_cmpR (r := rCmpV K C (spPEq K CW C) false) (op_eqV Z.GE Z.bE Z.hE Z.iE hr2) (pv 5) (pv 9) (nomark _))) pa_nil)))
          (pe_one (pe_callB (cr_all (by rfl)) (by rfl) B.all boot_all (pa_cons (pe_lc (own := [("_law_other", 9)]) (g := gName 9) (tt := tYes) (by rfl) scUnP.nd (pi_list (pv 7)) (blkOk_by (N := nmUnP) (sc := defScope sUnlikeRight) (by decide +kernel))
              (fun _ _ _ _ _ => pg_name (i := 9) scUnP.nd rfl (Or.inl rfl)) (fun _ _ _ _ _ => pts_nil) (fun _ _ _ _ _ => pe_cmpR (r := rCmpV K C (spPEq K CW C) true) (op_neV Z.GE Z.bE Z.hE Z.iE Z.hN Z.hm hr3) (pv 5) (pv 9) (nomark _))) pa_nil)))))))))))), ?_⟩
    have hlen := sts_len hD
    obtain ⟨nI, nO, nIO⟩ := List.nodup_append.mp hdr.nd
    have i2 := hdr.i2
    have o2 := hdr.o2
    have hn1 := hWb.n1
    obtain ⟨x0, xr, hx0⟩ : ∃ x0 xr, is = x0 :: xr := by
      cases is with
      | nil => exact absurd rfl hdr.i1
      | cons x r => exact ⟨x, r, rfl⟩
    have mx0 : x0 ∈ is := by rw [hx0]; exact List.mem_cons_self
    refine ⟨fun σ G => ∃ (x wb lw li lo F : Addr) (ts : List St5) (fr : List Int), σ = [some v0, some (.int n), some (.ref l), some (.ref ai), some (.ref ao), some (.ref x), some (.ref F), none, none, none] ∧ Ex H G ∧ PtL K CW C G x wb lw li lo n ts is os ∧ ts.Perm ss ∧ G F = some (.lst (fr.map V.int)) ∧ (∀ j ∈ fr, 0 ≤ j ∧ j < n ∧ j ∉ is ++ os) ∧ fr.length ≤ 100, ?_, ?_⟩
    · refine ⟨_, rfl, _, rfl, _, rfl, _, rfl, fun x dx nx ndx nex => part_good nx ndx hWb.n1 (.inl (SqL.of hl)) (rdall_st hD hWb.ok) hWb.nd (by omega) (.inl (SqL.of hai)) (.inl (SqL.of hao)) hdr fun G1 wb lw li lo ts e1 p1 wb0 lw0 li0 lo0 hp so => ⟨rfl, ?_⟩⟩
      refine ⟨_, rfl, n, rfl, by omega, by omega, fun D hD0 => ?_⟩
      refine lc_range (lo := 0) (n := n.toNat) (fun i G => Ex G1 G ∧ ∃ fr : List Int, G D = some (.lst (fr.map V.int)) ∧ (∀ j ∈ fr, 0 ≤ j ∧ j < n ∧ j ∉ is ++ os) ∧ fr.length ≤ i) ⟨Ex.new hD0, [], upd_same, (fun j hj => absurd hj (by simp)), Nat.le_refl _⟩ ?_ ?_
      · rintro i G hi ⟨q1, fr, q2, q3, q4⟩
        refine ⟨rfl, ?_⟩
        refine ⟨_, rfl, _, rfl, _, rfl, ai, ao, _, _, rfl, rfl, (e1.trans q1) _ _ hai, (e1.trans q1) _ _ hao, by rw [List.length_map, List.length_map]; exact sz_le (by omega), fun u hu => ?_⟩
        rw [← List.map_append]
        have y1 := Ex.new (o := .lst ((is ++ os).map V.int)) hu
        have f1 : upd G u (.lst ((is ++ os).map V.int)) u = some (.lst ((is ++ os).map V.int)) := upd_same
        generalize upd G u (.lst ((is ++ os).map V.int)) = G2 at y1 f1 ⊢
        refine ⟨.int (0 + i), (is ++ os).map PyData.int, .int _, .lst (SqL.of f1) (dp_ints _), rfl, shaped_ints _, _, rfl, ?_⟩
        rw [any_ints]
        by_cases hin : (0 + (i : Int)) ∈ is ++ os
        · rw [decide_eq_true hin]
          exact iteF ⟨q1.trans y1, fr, y1 _ _ q2, q3, by omega⟩
        · rw [decide_eq_false hin]
          refine iteT ⟨_, rfl, _, y1 _ _ q2, by rw [List.length_map]; exact sz_m (by omega), (q1.trans y1).mut hD0, fr ++ [0 + (i : Int)], by rw [upd_same, List.map_append]; rfl, fun j hj => ?_, by rw [List.length_append]; exact Nat.succ_le_succ q4⟩
          rcases List.mem_append.mp hj with hj | hj
          · exact q3 j hj
          · obtain rfl : j = 0 + (i : Int) := by simpa using hj
            exact ⟨by omega, by omega, hin⟩
      · rintro G ⟨q1, fr, q2, q3, q4⟩
        refine ⟨by show 2 ≤ sizeLine; decide, fun T hT => ⟨T, _, rfl, SqT.of upd_same, rfl, _, _, rfl, _, _, rfl, rfl, ?_⟩⟩
        have yT := Ex.new (o := .tup [V.ref x, V.ref D]) hT
        exact ⟨x, wb, lw, li, lo, D, ts, fr, rfl, (e1.trans q1).trans yT, p1.ex (q1.trans yT), hp, yT _ _ q2, q3, by omega⟩
    rintro σ G1 ⟨x, wb, lw, li, lo, F, ts, fr, rfl, e1, p1, hp, hF, hfr, hfrl⟩
    obtain ⟨dxp, kdp, hx1⟩ := p1.o
    have hl1 := e1 _ _ hl
    have hai1 := e1 _ _ hai
    have hao1 := e1 _ _ hao
    have hD1 := dpa_ex e1 _ _ hD
    have hts : ts.length = ss.length := hp.length_eq
    have mF : MonF (OthP K CW C n ts is os) := othP_mono
    have newP : ∀ {G : Hp} {x2 dx2 : Addr} {n' : Int} {l' ai' ao' : Addr} {vs' : List V} {ss' : List St5} {is' os' : List Int} {Q : VK}, G x2 = none → G dx2 = none → 1 ≤ n' → G l' = some (.lst vs') → DpAll K G vs' (ss'.map stD) → (∀ s ∈ ss', StOk n' s) → ss'.Nodup → ss'.length ≤ 1000000 → G ai' = some (.lst (is'.map V.int)) → G ao' = some (.lst (os'.map V.int)) → DrOk n' is' os' →
        (∀ us : List St5, us.Perm ss' → (n ≠ n' ∨ ts ≠ us ∨ is ≠ is' ∨ os ≠ os')) → (∀ G', Ex G G' → (∀ g zs, G g = some (.lst zs) → OthP K CW C n ts is os (hid g g G') (.ref x2)) → OthP K CW C n ts is os G' (.ref x2) → Q .non G') →
        spPtI0 K CW C CP CS CI CO [.ref x2, .int n', .ref l', .ref ai', .ref ao'] (upd (upd G dx2 (.own x2)) x2 (.ins C dx2 [])) Q E0 := fun nx ndx hn hl' hD' hok hnd hz hi ho hd hdiff k' =>
      part_good nx ndx hn (.inl (SqL.of hl')) (rdall_st hD' hok) hnd hz (.inl (SqL.of hi)) (.inl (SqL.of ho)) hd fun G' wb2 lw2 li2 lo2 us e p2 w0 l0 i0 o0 pr so => k' G' e (fun g zs hg => .inr (.inr ⟨_, wb2, lw2, li2, lo2, _, us, _, _, rfl, p2.hidp (e _ _ hg) (ne_of_none hg l0) (ne_of_none hg i0) (ne_of_none hg o0), hdiff us pr⟩)) (.inr (.inr ⟨_, wb2, lw2, li2, lo2, _, us, _, _, rfl, p2, hdiff us pr⟩))
    -- the first five
    refine ⟨fun σ G => ∃ g : Addr, σ = [some v0, some (.int n), some (.ref l), some (.ref ai), some (.ref ao), some (.ref x), some (.ref F), some (.ref g), none, none] ∧ Ex G1 G ∧ LsG (OthP K CW C n ts is os) g G 5 ∧ G1 g = none, ?_, ?_⟩
    · refine ⟨_, rfl, x, dxp, _, rfl, hx1, pf_no _ _ _ _ (by decide +kernel) (by decide +kernel) (by decide +kernel) (by decide +kernel), x, wb, lw, li, lo, n, ts, is, os, rfl, p1, _, rfl, _, rfl, _, rfl, _, rfl, by show 4 ≤ sizeLine; decide, fun t0 ht0 => ?_⟩
      have y1 := Ex.new (o := .tup [V.int n, V.ref l, V.ref ai, V.ref ao]) ht0
      have f1 : upd G1 t0 (.tup [V.int n, V.ref l, V.ref ai, V.ref ao]) t0 = some (.tup [V.int n, V.ref l, V.ref ai, V.ref ao]) := upd_same
      generalize upd G1 t0 (.tup [V.int n, V.ref l, V.ref ai, V.ref ao]) = G2 at y1 f1 ⊢
      refine ⟨_, rfl, _, rfl, _, rfl, _, rfl, fun x2 dx2 nx2 ndx2 nex2 => newP nx2 ndx2 hWb.n1 (y1 _ _ hl1) (dpa_ex y1 _ _ hD1) hWb.ok hWb.nd (by omega) (y1 _ _ hao1) (y1 _ _ hai1) hdr.swap (fun us pr => .inr (.inr (.inl fun e => nIO x0 mx0 x0 (e ▸ mx0) rfl))) fun G3 e3 o3 o3' => ⟨rfl, by show 5 ≤ sizeLine; decide, fun g hg => ?_⟩⟩
      have eg : Ex G3 (hid g g (upd G3 g (.lst [V.non, V.ref wb, V.ref t0, V.str "part", V.ref x2]))) := gh_ex hg (Ex.new hg)
      refine ⟨g, rfl, (y1.trans e3).trans (Ex.new hg), ⟨_, upd_same, fun o ho => ?_, Nat.le_refl _⟩, fresh_back (y1.trans e3) hg⟩
      simp only [List.mem_cons, List.not_mem_nil, or_false] at ho
      rcases ho with rfl | rfl | rfl | rfl | rfl
      · exact .inl ⟨_, .non, NW.non⟩
      · exact .inr (.inl ⟨wb, lw, n, ts, rfl, p1.w.ex (y1.trans (e3.trans eg))⟩)
      · exact .inl ⟨_, .tup (eg _ _ (e3 _ _ f1)), NW.tup⟩
      · exact .inl ⟨_, .str _, NW.str⟩
      · exact mF _ _ _ eg o3'
    rintro σ G2 ⟨g, rfl, e2, ho2, g0⟩
    have tail : ∀ {G G3 : Hp} {N M : Nat} {zs ys : List V} {u : Addr}, Ex G1 G → Ex G G3 → G g = some (.lst zs) → (∀ o ∈ zs, OthP K CW C n ts is os (hid g g G) o) → zs.length ≤ N → N ≤ 90 → ys.length ≤ 2 → N + ys.length ≤ M → (∀ o ∈ ys, OthP K CW C n ts is os (hid g g G3) o) → G3 u = none →
        upd G3 u (.lst ys) g = some (.lst zs) ∧ zs.length + ys.length ≤ sizeLine ∧ Ex G1 (upd (upd G3 u (.lst ys)) g (.lst (zs ++ ys))) ∧ LsG (OthP K CW C n ts is os) g (upd (upd G3 u (.lst ys)) g (.lst (zs ++ ys))) M := by
      intro G G3 N M zs ys u q1 q2 hg hz hl1 hl2 hy1 hy2 hy hu
      have yu := Ex.new (o := .lst ys) hu
      exact ⟨yu _ _ (q2 _ _ hg), sz_le (by omega), Ex.mut (q1.trans (q2.trans yu)) g0, LsG.add (fun o ho => mF _ _ _ (hid_mono (q2.trans yu)) (hz o ho)) hl1 (fun o ho => mF _ _ _ (hid_mono yu) (hy o ho)) hy2⟩
    -- a place more
    refine ⟨fun σ G => σ = [some v0, some (.int n), some (.ref l), some (.ref ai), some (.ref ao), some (.ref x), some (.ref F), some (.ref g), none, none] ∧ Ex G1 G ∧ LsG (OthP K CW C n ts is os) g G 6, ?_, ?_⟩
    · obtain ⟨zs, og, oz, ol⟩ := id ho2
      refine ⟨_, rfl, .inl ⟨rfl, _, SqL.of og⟩, _, rfl, _, _, rfl, rfl, _, rfl, ?_⟩
      refine dec_ite (fun _ => ?_) (fun _ => ?_)
      · refine ⟨_, rfl, _, _, rfl, rfl, _, rfl, _, rfl, _, rfl, fun x2 dx2 nx2 ndx2 nex2 => newP nx2 ndx2 (by have := hWb.n1; omega) (e2 _ _ hl1) (dpa_ex e2 _ _ hD1) (fun s hs => ⟨(hWb.ok s hs).o0, by have := (hWb.ok s hs).o1; omega, (hWb.ok s hs).t0, by have := (hWb.ok s hs).t1; omega, (hWb.ok s hs).k⟩) hWb.nd (by omega) (e2 _ _ hai1) (e2 _ _ hao1) hdr.succ (fun us pr => .inl (by omega)) fun G3 e3 o3 o3' => ⟨rfl, by show 1 ≤ sizeLine; decide, fun u hu => ?_⟩⟩
        obtain ⟨t1, t2, t3, t4⟩ := tail (M := 6) (ys := [V.ref x2]) e2 e3 og oz ol (by decide) (by show 1 ≤ 2; decide) (by show 5 + 1 ≤ 6; decide) (fun o ho => by rw [List.mem_singleton] at ho; subst ho; exact o3 g zs og) hu
        exact ⟨g, u, zs, _, rfl, rfl, t1, upd_same, t2, rfl, t3, t4⟩
      · refine ⟨Nat.zero_le _, fun u hu => ?_⟩
        obtain ⟨t1, t2, t3, t4⟩ := tail (M := 6) (ys := []) e2 (Ex.refl _) og oz ol (by decide) (by show 0 ≤ 2; decide) (by show 5 + 0 ≤ 6; decide) (fun o ho => absurd ho (by simp)) hu
        exact ⟨g, u, zs, [], rfl, rfl, t1, upd_same, t2, rfl, t3, t4⟩
    rintro σ G3 ⟨rfl, e3, ho3⟩
    -- a step less
    refine ⟨fun σ G => σ = [some v0, some (.int n), some (.ref l), some (.ref ai), some (.ref ao), some (.ref x), some (.ref F), some (.ref g), none, none] ∧ Ex G1 G ∧ LsG (OthP K CW C n ts is os) g G 7, ?_, ?_⟩
    · obtain ⟨zs, og, oz, ol⟩ := id ho3
      refine ⟨_, rfl, .inl ⟨rfl, _, SqL.of og⟩, _, rfl, Nat.zero_le _, fun L hL => ?_⟩
      have yL := Ex.new (o := .lst []) hL
      have fL : upd G3 L (.lst []) L = some (.lst []) := upd_same
      generalize upd G3 L (.lst []) = G4 at yL fL ⊢
      have e4 := e3.trans yL
      refine ⟨.list (ss.map stD), .list [], .lst (SqL.of (e4 _ _ hl1)) (dpa_ex e4 _ _ hD1), .lst (SqL.of fL) .nil, stDs_shaped ss, rfl, _, rfl, ?_⟩
      rw [eqv_nil_sts]
      cases hse : ss.isEmpty with
      | true =>
        refine iteF ⟨Nat.zero_le _, fun u hu => ?_⟩
        obtain ⟨t1, t2, t3, t4⟩ := tail (M := 7) (ys := []) e3 yL og oz ol (by decide) (by show 0 ≤ 2; decide) (by show 6 + 0 ≤ 7; decide) (fun o ho => absurd ho (by simp)) hu
        exact ⟨g, u, zs, [], rfl, rfl, t1, upd_same, t2, rfl, t3, t4⟩
      | false =>
        refine iteT ?_
        have hpos : 0 < ss.length := by
          cases ss with
          | nil => cases hse
          | cons => exact Nat.succ_pos _
        refine ⟨_, rfl, _, rfl, _, rfl, l, _, rfl, SqL.of (e4 _ _ hl1), fun l2 hl2 => ?_⟩
        rw [show (1 : Int) = ((1 : Nat) : Int) from rfl, cut_fr]
        have y5 := Ex.new (o := .lst (vs0.drop 1)) hl2
        have f5 : upd G4 l2 (.lst (vs0.drop 1)) l2 = some (.lst (vs0.drop 1)) := upd_same
        generalize upd G4 l2 (.lst (vs0.drop 1)) = G5 at y5 f5 ⊢
        have e5 := e4.trans y5
        refine ⟨_, rfl, _, rfl, fun x2 dx2 nx2 ndx2 nex2 => newP (ss' := ss.drop 1) nx2 ndx2 hWb.n1 f5 (by rw [List.map_drop]; exact dpa_drop 1 (dpa_ex e5 _ _ hD1)) (fun s hs => hWb.ok s (List.mem_of_mem_drop hs)) (hWb.nd.sublist (List.drop_sublist _ _)) (by rw [List.length_drop]; omega) (e5 _ _ hai1) (e5 _ _ hao1) hdr (fun us pr => .inr (.inl fun e => ?_)) fun G6 e6 o6 o6' => ⟨rfl, by show 1 ≤ sizeLine; decide, fun u hu => ?_⟩⟩
        · have := pr.length_eq
          rw [List.length_drop, ← e] at this
          omega
        · obtain ⟨t1, t2, t3, t4⟩ := tail (M := 7) (ys := [V.ref x2]) e3 ((yL.trans y5).trans e6) og oz ol (by decide) (by show 1 ≤ 2; decide) (by show 6 + 1 ≤ 7; decide) (fun o ho => by rw [List.mem_singleton] at ho; subst ho; exact o6 g zs ((yL.trans y5) _ _ og)) hu
          exact ⟨g, u, zs, _, rfl, rfl, t1, upd_same, t2, rfl, t3, t4⟩
    rintro σ G4 ⟨rfl, e4, ho4⟩
    -- in doors in the other order
    refine ⟨fun σ G => σ = [some v0, some (.int n), some (.ref l), some (.ref ai), some (.ref ao), some (.ref x), some (.ref F), some (.ref g), none, none] ∧ Ex G1 G ∧ LsG (OthP K CW C n ts is os) g G 8, ?_, ?_⟩
    · obtain ⟨zs, og, oz, ol⟩ := id ho4
      refine ⟨_, rfl, .inl ⟨rfl, _, SqL.of og⟩, _, rfl, ai, _, rfl, .inl (SqL.of (e4 _ _ hai1)), _, _, rfl, rfl, _, rfl, ?_⟩
      refine dec_ite (fun hz => ?_) (fun _ => ?_)
      · rw [List.length_map] at hz
        refine ⟨_, rfl, _, rfl, _, rfl, _, rfl, _, rfl, rfl, ai, _, rfl, SqL.of (e4 _ _ hai1), fun r hr0 => ?_⟩
        rw [← List.map_reverse]
        have y5 := Ex.new (o := .lst (is.reverse.map V.int)) hr0
        have f5 : upd G4 r (.lst (is.reverse.map V.int)) r = some (.lst (is.reverse.map V.int)) := upd_same
        generalize upd G4 r (.lst (is.reverse.map V.int)) = G5 at y5 f5 ⊢
        have e5 := e4.trans y5
        refine ⟨_, rfl, fun x2 dx2 nx2 ndx2 nex2 => newP nx2 ndx2 hWb.n1 (e5 _ _ hl1) (dpa_ex e5 _ _ hD1) hWb.ok hWb.nd (by omega) f5 (e5 _ _ hao1) hdr.revI (fun us pr => .inr (.inr (.inl (rev_ne nI (by omega) i2)))) fun G6 e6 o6 o6' => ⟨rfl, by show 1 ≤ sizeLine; decide, fun u hu => ?_⟩⟩
        obtain ⟨t1, t2, t3, t4⟩ := tail (M := 8) (ys := [V.ref x2]) e4 (y5.trans e6) og oz ol (by decide) (by show 1 ≤ 2; decide) (by show 7 + 1 ≤ 8; decide) (fun o ho => by rw [List.mem_singleton] at ho; subst ho; exact o6 g zs (y5 _ _ og)) hu
        exact ⟨g, u, zs, _, rfl, rfl, t1, upd_same, t2, rfl, t3, t4⟩
      · refine ⟨Nat.zero_le _, fun u hu => ?_⟩
        obtain ⟨t1, t2, t3, t4⟩ := tail (M := 8) (ys := []) e4 (Ex.refl _) og oz ol (by decide) (by show 0 ≤ 2; decide) (by show 7 + 0 ≤ 8; decide) (fun o ho => absurd ho (by simp)) hu
        exact ⟨g, u, zs, [], rfl, rfl, t1, upd_same, t2, rfl, t3, t4⟩
    rintro σ G5 ⟨rfl, e5, ho5⟩
    -- out doors in the other order, and fewer
    refine ⟨fun σ G => σ = [some v0, some (.int n), some (.ref l), some (.ref ai), some (.ref ao), some (.ref x), some (.ref F), some (.ref g), none, none] ∧ Ex G1 G ∧ LsG (OthP K CW C n ts is os) g G 10, ?_, ?_⟩
    · obtain ⟨zs, og, oz, ol⟩ := id ho5
      refine ⟨_, rfl, .inl ⟨rfl, _, SqL.of og⟩, _, rfl, ao, _, rfl, .inl (SqL.of (e5 _ _ hao1)), _, _, rfl, rfl, _, rfl, ?_⟩
      refine dec_ite (fun hz => ?_) (fun _ => ?_)
      · rw [List.length_map] at hz
        refine ⟨_, rfl, _, rfl, _, rfl, _, rfl, _, rfl, _, rfl, rfl, ao, _, rfl, SqL.of (e5 _ _ hao1), fun r hr0 => ?_⟩
        rw [← List.map_reverse]
        have y6 := Ex.new (o := .lst (os.reverse.map V.int)) hr0
        have f6 : upd G5 r (.lst (os.reverse.map V.int)) r = some (.lst (os.reverse.map V.int)) := upd_same
        generalize upd G5 r (.lst (os.reverse.map V.int)) = G6 at y6 f6 ⊢
        have e6 := e5.trans y6
        refine fun x2 dx2 nx2 ndx2 nex2 => newP nx2 ndx2 hWb.n1 (e6 _ _ hl1) (dpa_ex e6 _ _ hD1) hWb.ok hWb.nd (by omega) (e6 _ _ hai1) f6 hdr.revO (fun us pr => .inr (.inr (.inr (rev_ne nO (by omega) o2)))) fun G7 e7 o7 o7' => ⟨rfl, ?_⟩
        have e57 := e6.trans e7
        refine ⟨_, rfl, _, rfl, _, rfl, _, rfl, _, rfl, ao, _, rfl, SqL.of (e57 _ _ hao1), fun r2 hr2 => ?_⟩
        have hc : cutV (os.map V.int) none (some 1) = (os.take 1).map V.int := by rw [show (1 : Int) = ((1 : Nat) : Int) from rfl, cut_to, List.map_take]
        rw [hc]
        have y8 := Ex.new (o := .lst ((os.take 1).map V.int)) hr2
        have f8 : upd G7 r2 (.lst ((os.take 1).map V.int)) r2 = some (.lst ((os.take 1).map V.int)) := upd_same
        generalize upd G7 r2 (.lst ((os.take 1).map V.int)) = G8 at y8 f8 ⊢
        have e8 := e57.trans y8
        have hd8 : DrOk n is (os.take 1) := ⟨List.nodup_append.mpr ⟨nI, nO.sublist (List.take_sublist _ _), fun a ha b hb e => nIO a ha b (List.mem_of_mem_take hb) e⟩, fun i hi => hdr.rg i ((List.mem_append.mp hi).elim (List.mem_append_left _) (fun z => List.mem_append_right _ (List.mem_of_mem_take z))), hdr.i1, fun z => by
          have := congrArg List.length z
          rw [List.length_take, List.length_nil] at this
          omega, i2, by rw [List.length_take]; omega⟩
        refine fun x3 dx3 nx3 ndx3 nex3 => newP nx3 ndx3 hWb.n1 (e8 _ _ hl1) (dpa_ex e8 _ _ hD1) hWb.ok hWb.nd (by omega) (e8 _ _ hai1) f8 hd8 (fun us pr => .inr (.inr (.inr fun e => ?_))) fun G9 e9 o9 o9' => ⟨rfl, by show 2 ≤ sizeLine; decide, fun u hu => ?_⟩
        · have := congrArg List.length e
          rw [List.length_take] at this
          omega
        · have og8 := (y6.trans (e7.trans y8)) _ _ og
          obtain ⟨t1, t2, t3, t4⟩ := tail (M := 10) (ys := [V.ref x2, V.ref x3]) e5 (y6.trans (e7.trans (y8.trans e9))) og oz ol (by decide) (by show 2 ≤ 2; decide) (by show 8 + 2 ≤ 10; decide) (fun o ho => by
            simp only [List.mem_cons, List.not_mem_nil, or_false] at ho
            rcases ho with rfl | rfl
            · exact mF _ _ _ (hid_mono (y8.trans e9)) (o7 g zs (y6 _ _ og))
            · exact o9 g zs og8) hu
          exact ⟨g, u, zs, _, rfl, rfl, t1, upd_same, t2, rfl, t3, t4⟩
      · refine ⟨Nat.zero_le _, fun u hu => ?_⟩
        obtain ⟨t1, t2, t3, t4⟩ := tail (M := 10) (ys := []) e5 (Ex.refl _) og oz ol (by decide) (by show 0 ≤ 2; decide) (by show 8 + 0 ≤ 10; decide) (fun o ho => absurd ho (by simp)) hu
        exact ⟨g, u, zs, [], rfl, rfl, t1, upd_same, t2, rfl, t3, t4⟩
    rintro σ G6 ⟨rfl, e6, ho6⟩
    -- other doors
    refine ⟨fun σ G => σ = [some v0, some (.int n), some (.ref l), some (.ref ai), some (.ref ao), some (.ref x), some (.ref F), some (.ref g), none, none] ∧ Ex G1 G ∧ LsG (OthP K CW C n ts is os) g G 12, ?_, ?_⟩
    · obtain ⟨zs, og, oz, ol⟩ := id ho6
      refine ⟨_, rfl, .inl ⟨rfl, _, SqL.of og⟩, _, rfl, Nat.zero_le _, fun L hL => ?_⟩
      have yL := Ex.new (o := .lst []) hL
      have fL : upd G6 L (.lst []) L = some (.lst []) := upd_same
      generalize upd G6 L (.lst []) = G7 at yL fL ⊢
      have e7 := e6.trans yL
      refine ⟨.list (fr.map PyData.int), .list [], .lst (SqL.of (e7 _ _ hF)) (dp_ints fr), .lst (SqL.of fL) .nil, shaped_ints fr, rfl, _, rfl, ?_⟩
      rw [eqv_ints_nil]
      cases hfE : fr with
      | nil =>
        refine iteF ⟨Nat.zero_le _, fun u hu => ?_⟩
        obtain ⟨t1, t2, t3, t4⟩ := tail (M := 12) (ys := []) e6 yL og oz ol (by decide) (by show 0 ≤ 2; decide) (by show 10 + 0 ≤ 12; decide) (fun o ho => absurd ho (by simp)) hu
        exact ⟨g, u, zs, [], rfl, rfl, t1, upd_same, t2, rfl, t3, t4⟩
      | cons f0 fq =>
        refine iteT ?_
        obtain ⟨q1, q2, q3⟩ := hfr f0 (by rw [hfE]; exact List.mem_cons_self)
        have hc : cutV (fr.map V.int) none (some 1) = [f0].map V.int := by rw [show (1 : Int) = ((1 : Nat) : Int) from rfl, cut_to, hfE]; rfl
        have dI : DrOk n [f0] os := hdr.one ⟨q1, q2, fun z => q3 (List.mem_append_right _ z)⟩
        have dO : DrOk n is [f0] := (hdr.swap.one ⟨q1, q2, fun z => q3 (List.mem_append_left _ z)⟩).swap
        refine ⟨_, rfl, _, rfl, _, rfl, _, rfl, F, _, rfl, SqL.of (e7 _ _ hF), fun r hr0 => ?_⟩
        rw [hc]
        have y8 := Ex.new (o := .lst ([f0].map V.int)) hr0
        have f8 : upd G7 r (.lst ([f0].map V.int)) r = some (.lst ([f0].map V.int)) := upd_same
        generalize upd G7 r (.lst ([f0].map V.int)) = G8 at y8 f8 ⊢
        have e8 := e7.trans y8
        refine ⟨_, rfl, fun x2 dx2 nx2 ndx2 nex2 => newP nx2 ndx2 hWb.n1 (e8 _ _ hl1) (dpa_ex e8 _ _ hD1) hWb.ok hWb.nd (by omega) f8 (e8 _ _ hao1) dI (fun us pr => .inr (.inr (.inl fun e => q3 (List.mem_append_left _ (by rw [e]; exact List.mem_cons_self))))) fun G9 e9 o9 o9' => ⟨rfl, ?_⟩⟩
        have e79 := e8.trans e9
        refine ⟨_, rfl, _, rfl, _, rfl, _, rfl, _, rfl, F, _, rfl, SqL.of (e79 _ _ hF), fun r2 hr2 => ?_⟩
        rw [hc]
        have y10 := Ex.new (o := .lst ([f0].map V.int)) hr2
        have f10 : upd G9 r2 (.lst ([f0].map V.int)) r2 = some (.lst ([f0].map V.int)) := upd_same
        generalize upd G9 r2 (.lst ([f0].map V.int)) = G10 at y10 f10 ⊢
        have e10 := e79.trans y10
        refine fun x3 dx3 nx3 ndx3 nex3 => newP nx3 ndx3 hWb.n1 (e10 _ _ hl1) (dpa_ex e10 _ _ hD1) hWb.ok hWb.nd (by omega) (e10 _ _ hai1) f10 dO (fun us pr => .inr (.inr (.inr fun e => q3 (List.mem_append_right _ (by rw [e]; exact List.mem_cons_self))))) fun G11 e11 o11 o11' => ⟨rfl, by show 2 ≤ sizeLine; decide, fun u hu => ?_⟩
        have og10 := (yL.trans (y8.trans (e9.trans y10))) _ _ og
        obtain ⟨t1, t2, t3, t4⟩ := tail (M := 12) (ys := [V.ref x2, V.ref x3]) e6 (yL.trans (y8.trans (e9.trans (y10.trans e11)))) og oz ol (by decide) (by show 2 ≤ 2; decide) (by show 10 + 2 ≤ 12; decide) (fun o ho => by
          simp only [List.mem_cons, List.not_mem_nil, or_false] at ho
          rcases ho with rfl | rfl
          · exact mF _ _ _ (hid_mono (y10.trans e11)) (o9 g zs ((yL.trans y8) _ _ og))
          · exact o11 g zs og10) hu
        exact ⟨g, u, zs, _, rfl, rfl, t1, upd_same, t2, rfl, t3, t4⟩
    rintro σ G ⟨rfl, eG, os', hg, hos, hol⟩
    have turn : ∀ (ng : Bool) (G' : Hp) (i : Nat) (o : V) (Q' : VK), Ex G G' → os'[i]? = some o → (∀ G3, Ex G' G3 → Q' (.bl (false ^^ ng)) G3) → rCmpV K C (spPEq K CW C) ng (.ref x) o G' Q' := fun ng G' i o Q' e ho k' =>
      othP_eq IC NC (mF _ _ _ (hid_ex.trans e) (hos o (mem_of_get ho))) ((eG.trans e) _ _ hx1) ((p1.ex (eG.trans e)).at) k'
    refine ⟨_, rfl, g, rfl, ⟨os', SqL.of hg⟩, fun D1 hD1' => ?_⟩
    refine lc_list (xs := os') (fun i G' => Ex G G' ∧ G' D1 = some (.lst ((List.replicate i false).map V.bl))) ⟨Ex.new hD1', upd_same⟩ (fun i G' _ q => SqL.of (q.1 _ _ hg)) ?_ ?_
    · rintro i o G' ho ⟨q1, q2⟩
      have il := (List.getElem?_eq_some_iff.mp ho).1
      refine ⟨rfl, _, rfl, _, rfl, turn false G' i o _ q1 ho fun G3 e3 => ⟨_, e3 _ _ q2, by rw [List.length_map, List.length_replicate]; exact sz_m (by omega), Ex.mut (q1.trans e3) hD1', ?_⟩⟩
      rw [upd_same, List.replicate_succ', List.map_append]
      rfl
    rintro G' ⟨q1, q2⟩
    refine ⟨D1, List.replicate os'.length false, rfl, SqL.of q2, ?_⟩
    rw [any_false]
    refine ⟨_, rfl, _, rfl, iteT ?_⟩
    refine ⟨_, rfl, g, rfl, ⟨os', SqL.of (q1 _ _ hg)⟩, fun D2 hD2 => ?_⟩
    refine lc_list (xs := os') (fun i G3 => Ex G' G3 ∧ G3 D2 = some (.lst ((List.replicate i true).map V.bl))) ⟨Ex.new hD2, upd_same⟩ (fun i G3 _ q => SqL.of ((q1.trans q.1) _ _ hg)) ?_ ?_
    · rintro i o G3 ho ⟨r1, r2⟩
      have il := (List.getElem?_eq_some_iff.mp ho).1
      refine ⟨rfl, _, rfl, _, rfl, turn true G3 i o _ (q1.trans r1) ho fun G4 e4 => ⟨_, e4 _ _ r2, by rw [List.length_map, List.length_replicate]; exact sz_m (by omega), Ex.mut (r1.trans e4) hD2, ?_⟩⟩
      rw [upd_same, List.replicate_succ', List.map_append]
      rfl
    rintro G3 ⟨r1, r2⟩
    refine ⟨D2, List.replicate os'.length true, rfl, SqL.of r2, ?_⟩
    rw [all_true]
    exact k G3 (e1.trans (eG.trans (q1.trans r1)))
end
end AA

set_option Elab.async false
set_option linter.all false
set_option maxRecDepth 100000
set_option maxHeartbeats 4000000
/-! x != i, x of any kind. -/
namespace AA
open PySem PySem.Spec PyProof.Rows
theorem fl_ne : Slot "function" (cmpInfo .NotEq).2.1 "object.__ne__" :=
  .of (owner := "object") (n := "__ne__") (by rw [typeLookup_type, builtinLookup_eq_fast]; kernel_rfl)
    (by decide +kernel) (by decide +kernel) (by decide +kernel) (by first | exact .inl (by decide +kernel) | exact .inr (by decide +kernel))
    (by rw [isSubtype_type]; kernel_rfl)
theorem fn_sub : isSubtype (.type "int") (.type "function") = pure false := by rw [isSubtype_type]; kernel_rfl
theorem di_sub : isSubtype (.type "int") (.type "dict") = pure false := by rw [isSubtype_type]; kernel_rfl
theorem int_ne_dict (b : Int) (u : Tok) (l : Addr) (es : Array DictEntry) (n : Nat) (dd : Option Addr) (sl : Array (Option Value)) :
    Meets (Builtin.«int.__ne__» ⟨[.int b u, .ref l], []⟩) (fun _ R s => s.heap.get? l = some { cls := .type "dict", dict := dd, data := .dict es n, slots := sl } ∧ R (.ok (.ret .notImplemented)) s) :=
  .of_wp fun prog w A R s h => by obtain ⟨hp, g, d, tk, os⟩ := s; obtain ⟨hl, h⟩ := h; wp_walk using wpAny_loadPart' hl, wpAny_load hl; exact ⟨_, rfl, h⟩
theorem dict_ne_int (l : Addr) (es : Array DictEntry) (n : Nat) (dd : Option Addr) (sl : Array (Option Value)) (b : Int) (u : Tok) :
    Meets (Builtin.«dict.__ne__» ⟨[.ref l, .int b u], []⟩) (fun _ R s => s.heap.get? l = some { cls := .type "dict", dict := dd, data := .dict es n, slots := sl } ∧ R (.ok (.ret .notImplemented)) s) :=
  .of_wp fun prog w A R s h => by obtain ⟨hp, g, d, tk, os⟩ := s; obtain ⟨hl, h⟩ := h; have f1 := di_sub; wp_walk using wpAny_loadPart' hl; exact ⟨_, rfl, h⟩
theorem int_ne_fn (b : Int) (u : Tok) (l : Addr) (fd : FuncData) (dd : Option Addr) (sl : Array (Option Value)) :
    Meets (Builtin.«int.__ne__» ⟨[.int b u, .ref l], []⟩) (fun _ R s => s.heap.get? l = some { cls := .type "function", dict := dd, data := .func fd, slots := sl } ∧ R (.ok (.ret .notImplemented)) s) :=
  .of_wp fun prog w A R s h => by obtain ⟨hp, g, d, tk, os⟩ := s; obtain ⟨hl, h⟩ := h; wp_walk using wpAny_loadPart' hl, wpAny_load hl; exact ⟨_, rfl, h⟩
section
variable {prog : Program} {w : World} {A : Around} {E : Value → Shared → Prop} {s : Shared}
theorem fn_eq_entry {l : Addr} {b : Int} {u : Tok} {Q : PySem.Fin → Shared → Prop} (hq : Q (.done (.ret .notImplemented)) s) : wpAny (model prog w) A (Builtin.«object.__eq__» ⟨[.ref l, .int b u], []⟩) Q E s := by
  obtain ⟨hp, g, d, tk, os⟩ := s
  unfold Builtin.«object.__eq__»
  repeat (any_goals (first | assumption | wp_step))
theorem fn_ne_entry {l : Addr} {b : Int} {u : Tok} {Q : PySem.Fin → Shared → Prop} (hT : s.TypeIs (.ref l) "function") (hu : A.units < cLine) (hq : Q (.done (.ret .notImplemented)) s) :
    wpAny (model prog w) A (Builtin.«object.__ne__» ⟨[.ref l, .int b u], []⟩) Q E s := by
  have one : wpAny (model prog w) A (callSpecialIfBound? (.ref l) (Str.ofString "__eq__") [.int b u]) (fun r s' => r = some .notImplemented ∧ s' = s) E s :=
    wpAny_callSpecialIfBound?_slot hT fl_eq (wpAny_call_entry fl_eq hT F.cmpEntry_eq (fn_eq_entry ⟨_, rfl, rfl, rfl⟩) (F.cmpArgs_eq _ _))
  unfold Builtin.«object.__ne__»
  repeat (first
    | with_reducible refine wpAny_cRoomFor hu ?_
    | (refine wpAny_bind (m := callSpecialIfBound? (.ref l) (Str.ofString "__eq__") [.int b u]) (wpAny_mono one (fun v s' hr => by
          obtain ⟨rfl, rfl⟩ := hr
          repeat (first | exact hq | exact wpAny_pure hq | wp_step)) fun _ _ e => e))
    | wp_step)
theorem ne_fn {l : Addr} {o : Obj} {fd : FuncData} {b : Int} {u : Tok} {Q : Value → Shared → Prop} (hl : s.heap.get? l = some o) (hc : o.cls = .type "function") (hd : o.data = .func fd) (hu : A.units + 1 < cLine) (h : Q (.bool true) s) :
    wpAny (model prog w) A (richCompare .NotEq (.ref l) (.int b u)) Q E s := by
  obtain ⟨c, dd, dt, sl⟩ := o
  simp only at hc hd
  subst hc hd
  have hT : s.TypeIs (.ref l) "function" := ⟨_, hl, rfl⟩
  exact SeqAt.rc_ne_decline_or (k := false) hT (typeIs_int s b u) (by decide) fn_sub fl_ne F.slot_int_ne_refl
    (fun _ hq => wpAny_call_entry fl_ne hT F.cmpEntry_ne (fn_ne_entry (A := A.in1) hT hu ⟨_, rfl, hq⟩) (F.cmpArgs_ne _ _))
    (fun _ hq => call_meets F.slot_int_ne_refl (typeIs_int s b u) F.entry_int_ne (F.args_int_ne_2 _ _) (int_ne_fn b u l fd dd sl) ⟨hl, hq⟩)
    (fun _ hq => wpAny_of_eq (rfl : isSame (.ref l) (.int b u) = pure false) hq) (.inr (by omega)) h
theorem ne_dict {l : Addr} {o : Obj} {es : Array DictEntry} {n : Nat} {b : Int} {u : Tok} {Q : Value → Shared → Prop} (hl : s.heap.get? l = some o) (hc : o.cls = .type "dict") (hd : o.data = .dict es n) (hu : A.units + 1 < cLine) (h : Q (.bool true) s) :
    wpAny (model prog w) A (richCompare .NotEq (.ref l) (.int b u)) Q E s := by
  obtain ⟨c, dd, dt, sl⟩ := o
  simp only at hc hd
  subst hc hd
  have hT : s.TypeIs (.ref l) "dict" := ⟨_, hl, rfl⟩
  exact SeqAt.rc_ne_decline_or (k := false) hT (typeIs_int s b u) (by decide) di_sub F.slot_dict_ne F.slot_int_ne_refl
    (fun _ hq => call_meets F.slot_dict_ne hT F.entry_dict_ne (F.args_dict_ne_2 _ _) (dict_ne_int l es n dd sl b u) ⟨hl, hq⟩)
    (fun _ hq => call_meets F.slot_int_ne_refl (typeIs_int s b u) F.entry_int_ne (F.args_int_ne_2 _ _) (int_ne_dict b u l es n dd sl) ⟨hl, hq⟩)
    (fun _ hq => wpAny_of_eq (rfl : isSame (.ref l) (.int b u) = pure false) hq) (.inr (by omega)) h
end
section
open L2
variable {X : Cx}
def FnV (K : PySem.W.Frag) (f : Addr) : Prop := ∃ (od : Option Addr) (fd : FuncData) (osl : Array (Option Value)), K.lookup f = some ⟨.type "function", od, .func fd, osl⟩
/-- x != i, x a dict that is empty or a function of the module -/
def rNeF (K : PySem.W.Frag) : R2 := fun x y H Q => ∃ (f : Addr) (i : Int), x = .ref f ∧ y = .int i ∧ (FnV K f ∨ H f = some (.dK [])) ∧ Q (.bl true) H
theorem op_neF (hu : X.A.units + 1 < cLine) : OpR X (compareOp .NotEq) (rNeF X.K) := by
  intro pins s σ H x y v u Q I rx ry h
  obtain ⟨f, i, rfl, rfl, h1, q⟩ := h
  cases (show v = Value.ref f from rx)
  obtain ⟨tk, rfl⟩ := (show ∃ t, u = Value.int i t from ry)
  show wpAny _ _ (richCompare .NotEq (.ref f) (.int i tk)) _ _ s
  rcases h1 with ⟨od, fd, osl, h1⟩ | h1
  · exact ne_fn (I.kIn f _ h1) rfl rfl hu ⟨.bl true, H, I, rfl, q⟩
  · obtain ⟨_, _, vs, _, o, es, ep, h1, h2, h3, _⟩ := (show ObjOk X.prog X.w H s.heap _ (.dK []) from I.hok _ _ h1)
    exact ne_dict h1 h2.1 h3 hu ⟨.bl true, H, I, rfl, q⟩
end
end AA

set_option Elab.async false
set_option linter.all false
set_option maxRecDepth 100000
set_option maxHeartbeats 4000000
/-! _law_refused_right: what is told of bad parts. -/
namespace AA
open PySem PySem.Spec PyProof.Rows L2 Evl
section
variable {K : PySem.W.Frag}
/-- how a bad part is told -/
theorem part_tellP {CW C CP CS CI CO x dx : Addr} {G : Hp} {v u vi vo : V} {Q QN : VK} (nx : G x = none) (ndx : G dx = none) (h : NotI K G v ∨ ∃ n, v = .int n ∧ n < 1)
    (kq : ∀ G' p, Ex G G' → G' p = none → Q (.ref p) (upd G' p (.tup [.str "places", v]))) : spPtInit K CW C CP CS CI CO [.ref x, v, u, vi, vo] (upd (upd G dx (.own x)) x (.ins C dx [])) QN (TrE CP CS CI CO Q) := by
  have me := made_ex (o := .ins C dx []) nx ndx
  exact ⟨x, dx, v, u, vi, vo, rfl, upd_same, .inl ⟨h.imp (fun z => z.ex me) id, fun H' dd eH h0 h1 => .inl ⟨rfl, dd, _, rfl, h1, fun p hp => kq H' p (me.trans eH) hp⟩⟩⟩
theorem part_tellS {CW C CP CS CI CO x dx : Addr} {G : Hp} {n : Int} {u vi vo : V} {j : Nat} {Q QN : VK} (nx : G x = none) (ndx : G dx = none) (hn : 1 ≤ n) (h : StArg K n G u (fun i => i = j) (fun _ => False))
    (kq : ∀ G' p, Ex G G' → G' p = none → Q (.ref p) (upd G' p (.tup [.str "steps", .int (j : Nat)]))) : spPtInit K CW C CP CS CI CO [.ref x, .int n, u, vi, vo] (upd (upd G dx (.own x)) x (.ins C dx [])) QN (TrE CP CS CI CO Q) := by
  have me := made_ex (o := .ins C dx []) nx ndx
  refine ⟨x, dx, .int n, u, vi, vo, rfl, upd_same, .inr ⟨n, rfl, hn, (h.ex me).imp (fun i e => ?_) (fun ss z => z.elim)⟩⟩
  subst e
  exact fun H' dd eH h0 h1 => .inr (.inl ⟨rfl, dd, _, rfl, h1, fun p hp => kq H' p (me.trans eH) hp⟩)
theorem part_tellI {CW C CP CS CI CO x dx a : Addr} {G : Hp} {n : Int} {ss : List St5} {xs : List V} {vi vo : V} {j : Nat} {Q QN : VK} (nx : G x = none) (ndx : G dx = none) (hn : 1 ≤ n) (hs : SqA K G a xs) (hr : RdAll K n G xs ss) (nd : ss.Nodup) (hz : ss.length ≤ 1000000) (h : DrArg K n G vi [] (fun i => i = j) (fun _ => False))
    (kq : ∀ G' p, Ex G G' → G' p = none → Q (.ref p) (upd G' p (.tup [.str "ins", .int (j : Nat)]))) : spPtInit K CW C CP CS CI CO [.ref x, .int n, .ref a, vi, vo] (upd (upd G dx (.own x)) x (.ins C dx [])) QN (TrE CP CS CI CO Q) := by
  have me := made_ex (o := .ins C dx []) nx ndx
  refine ⟨x, dx, .int n, .ref a, vi, vo, rfl, upd_same, .inr ⟨n, rfl, hn, .inr ⟨a, xs, ss, rfl, hs.ex me, nd, hz, .inl ⟨hr.ex me, (h.ex me).imp (fun i e => ?_) (fun ds z => z.elim)⟩⟩⟩⟩
  subst e
  exact fun H' dd eH h0 h1 => .inr (.inr (.inl ⟨rfl, dd, _, rfl, h1, fun p hp => kq H' p (me.trans eH) hp⟩))
theorem part_tellO {CW C CP CS CI CO x dx a ai : Addr} {G : Hp} {n : Int} {ss : List St5} {xs : List V} {is os : List Int} {vo : V} {j : Nat} {Q QN : VK} (nx : G x = none) (ndx : G dx = none) (hn : 1 ≤ n) (hs : SqA K G a xs) (hr : RdAll K n G xs ss) (nd : ss.Nodup) (hz : ss.length ≤ 1000000) (hi : SqA K G ai (is.map V.int)) (hd : DrOk n is os) (h : DrArg K n G vo is (fun i => i = j) (fun _ => False))
    (kq : ∀ G' p, Ex G G' → G' p = none → Q (.ref p) (upd G' p (.tup [.str "outs", .int (j : Nat)]))) : spPtInit K CW C CP CS CI CO [.ref x, .int n, .ref a, .ref ai, vo] (upd (upd G dx (.own x)) x (.ins C dx [])) QN (TrE CP CS CI CO Q) := by
  have me := made_ex (o := .ins C dx []) nx ndx
  refine ⟨x, dx, .int n, .ref a, .ref ai, vo, rfl, upd_same, .inr ⟨n, rfl, hn, .inr ⟨a, xs, ss, rfl, hs.ex me, nd, hz, .inl ⟨hr.ex me, ?_⟩⟩⟩⟩
  refine dr_arg (hi.ex me) (by have := hd.i2; omega) (List.nodup_append.mp hd.nd).1 hd.iArg hd.i1 ((h.ex me).imp (fun i e => ?_) (fun ds z => z.elim))
  subst e
  exact fun H' dd eH h0 h1 => .inr (.inr (.inr ⟨rfl, dd, _, rfl, h1, fun p hp => kq H' p (me.trans eH) hp⟩))
/-! ### the stream and the tables stand -/
abbrev NXs (a b : Addr) (G G' : Hp) : Prop := Ex (nt (hid a b G)) (nt (hid a b G'))
theorem nxs_N {a b : Addr} {G G' : Hp} (e : LamX.ExtN G G') : NXs a b G G' := fun x o h => by
  obtain ⟨h1, h2⟩ := nt_some h
  obtain ⟨h3, h4, h5⟩ := hid_some h1
  exact nt_of (by rw [hid_ne h4 h5]; exact e _ _ h3 h2) h2
theorem sat_N {a b : Addr} {m : Nat} {G G' : Hp} (S : SAt G a b m) (e : LamX.ExtN G G') : SAt G' a b m := by
  obtain ⟨ns, c1, c2, c3, h1, h2, r⟩ := S
  exact ⟨ns, c1, c2, c3, e _ _ h1 (fun ps z => nomatch z), e _ _ h2 (fun ps z => nomatch z), r⟩
theorem tab_keep {T : List (Addr × Str)} {G G' : Hp} (t : LamX.Tabs T G) (e : ∀ x o, G x = some o → (∀ xs, o ≠ .lst xs) → G' x = some o) : LamX.Tabs T G' := fun p hp => by
  obtain ⟨ps, h1, h2, h3⟩ := t p hp
  refine ⟨ps, e _ _ h1 (fun xs z => nomatch z), h2, fun pos cv hc => ?_⟩
  obtain ⟨c, e1, e2⟩ := h3 pos cv hc
  exact ⟨c, e1, e _ _ e2 fun xs z => by
    unfold LamX.CodeO at z
    cases z⟩
theorem tabs_S {T : List (Addr × Str)} {a b : Addr} {m : Nat} {G G' : Hp} (t : LamX.Tabs T G) (S : SAt G a b m) (e : ExS a b G G') : LamX.Tabs T G' := tab_keep t fun x o h n => by
  obtain ⟨ns, c1, c2, c3, h1, h2, _⟩ := S
  exact e.at h (fun z => n _ (Option.some.inj (h.symm.trans (by rw [z]; exact h1)))) (fun z => n _ (Option.some.inj (h.symm.trans (by rw [z]; exact h2))))
theorem tabs_upd {T : List (Addr × Str)} {p : Addr} {G : Hp} {xs ys : List V} (t : LamX.Tabs T G) (hp : G p = some (.lst xs)) : LamX.Tabs T (upd G p (.lst ys)) := tab_keep t fun x o h n => by
  have : x ≠ p := fun z => n xs (Option.some.inj (h.symm.trans (by rw [z]; exact hp)))
  rw [upd_ne this]
  exact h
structure RS (T : List (Addr × Str)) (a b : Addr) (H : Hp) (m : Nat) (G : Hp) : Prop where
  e : NXs a b H G
  s : SAt G a b m
  t : LamX.Tabs T G
theorem RS.ex {T : List (Addr × Str)} {a b : Addr} {H G G' : Hp} {m : Nat} (r : RS T a b H m G) (e : Ex G G') : RS T a b H m G' := ⟨r.e.trans (nt_mono (hid_mono e)), r.s.ex e, r.t.ext e⟩
theorem RS.go {T : List (Addr × Str)} {a b : Addr} {H G G' : Hp} {m k : Nat} (r : RS T a b H m G) (e : ExS a b G G') (s : SAt G' a b k) : RS T a b H k G' := ⟨r.e.trans (nt_mono e), s, tabs_S r.t r.s e⟩
theorem RS.N {T : List (Addr × Str)} {a b : Addr} {H G G' : Hp} {m : Nat} (r : RS T a b H m G) (e : LamX.ExtN G G') (t : LamX.Tabs T G') : RS T a b H m G' := ⟨r.e.trans (nxs_N e), sat_N r.s e, t⟩
theorem RS.mut {T : List (Addr × Str)} {a b p : Addr} {H G : Hp} {m : Nat} {xs ys : List V} (r : RS T a b H m G) (hp : G p = some (.lst xs)) (fr : ∀ x o, nt (hid a b H) x = some o → x ≠ p) (pa : p ≠ a) (pb : p ≠ b) : RS T a b H m (upd G p (.lst ys)) :=
  ⟨fun x o h => by
    have n := fr x o h
    obtain ⟨h1, h2⟩ := nt_some (r.e _ _ h)
    refine nt_of ?_ h2
    rw [hid_upd pa pb, upd_ne n]
    exact h1, r.s.upd pa pb, tabs_upd r.t hp⟩
/-- what stands over the stream and beside the tables stands -/
theorem RS.at {T : List (Addr × Str)} {a b : Addr} {H G : Hp} {m : Nat} (r : RS T a b H m G) : Ex (nt (hid a b H)) G := r.e.trans (nt_le.trans hid_ex)
theorem tps_nt {H : Hp} : Ex (tps H) (nt (tps H)) := fun x o h => by
  obtain ⟨_, xs, rfl⟩ := tps_some h
  exact nt_of h fun ps z => nomatch z

/-! (x, k) -/
def pairD (x : Str) (k : Int) : PyData := .tuple [.str x, .int k]
theorem pairD_sh {x : Str} (h : PyData.strOk x = true) (k : Int) : SeqAt.shaped (pairD x k) = true := by
  show ((PyData.strOk x && (true && true)) && decide (PyData.depth (pairD x k) ≤ 64)) = true
  rw [h]
  rfl
theorem pairD_eq (x : Str) (k : Int) : PyData.eqv (pairD x k) (pairD x k) = true := by
  show (PyData.eqv (.str x) (.str x) && (PyData.eqv (.int k) (.int k) && true)) = true
  rw [str_eqv, show PyData.eqv (.int k) (.int k) = true from beq_self_eq_true k]
  rfl
theorem pairD_dp {G : Hp} {p : Addr} {x : Str} {k : Int} (h : G p = some (.tup [.str x, .int k])) : Dp K G (.ref p) (pairD x k) := .tup (SqT.of h) (.cons (.str _) (.cons (.int _) .nil))
def twoD : PyData := .list [pairD "ins" 0, pairD "outs" 0]
theorem twoD_sh : SeqAt.shaped twoD = true := by
  have h1 : PyData.strOk ("ins" : Str) = true := by decide +kernel
  have h2 : PyData.strOk ("outs" : Str) = true := by decide +kernel
  show (((PyData.strOk ("ins" : Str) && (true && true)) && ((PyData.strOk ("outs" : Str) && (true && true)) && true)) && decide (PyData.depth twoD ≤ 64)) = true
  rw [h1, h2]
  rfl
theorem twoD_eq : PyData.eqv twoD twoD = true := by
  show (PyData.eqv (pairD "ins" 0) (pairD "ins" 0) && (PyData.eqv (pairD "outs" 0) (pairD "outs" 0) && true)) = true
  rw [pairD_eq, pairD_eq]
  rfl
theorem twoD_dp {G : Hp} {l p q : Addr} (h : G l = some (.lst [.ref p, .ref q])) (h1 : G p = some (.tup [.str "ins", .int 0])) (h2 : G q = some (.tup [.str "outs", .int 0])) : Dp K G (.ref l) twoD := .lst (SqL.of h) (.cons (pairD_dp h1) (.cons (pairD_dp h2) .nil))
theorem ok_ins : PyData.strOk ("ins" : Str) = true := by decide +kernel
theorem ok_outs : PyData.strOk ("outs" : Str) = true := by decide +kernel
theorem ok_steps_ : PyData.strOk ("steps" : Str) = true := by decide +kernel
/-- a thing that is no number of places, and is itself -/
def OddP (K : PySem.W.Frag) (C : Addr) (R : Addr → Addr → Hp → Prop) (F : Hp) (o : V) : Prop := (NotI K F o ∨ ∃ j, o = .int j ∧ j < 1) ∧ ∀ G, Ex F G → Sm K C R G 6 o o
theorem oddp_dp {C : Addr} {R : Addr → Addr → Hp → Prop} {F : Hp} {o : V} {d : PyData} (h : Dp K F o d) (hi : isIntD d = false) (ho : dOk d = true) (hd : d.depth < 6) : OddP K C R F o := ⟨.inl (ni_dp h hi), fun G e => sm_two d o o 6 (dp_ex e _ _ h) (dp_ex e _ _ h) ho hd⟩
theorem oddp_int {C : Addr} {R : Addr → Addr → Hp → Prop} {F : Hp} {j : Int} (h : j < 1) : OddP K C R F (.int j) := ⟨.inr ⟨j, rfl, h⟩, fun G e => .inl ⟨rfl, rfl⟩⟩
theorem oddp_fn {C : Addr} {R : Addr → Addr → Hp → Prop} {F : Hp} {f : Addr} {o : Obj} (h1 : K.lookup f = some o) (h2 : o.cls = .type "function") : OddP K C R F (.ref f) := ⟨.inl (ni_fn h1 h2), fun G e => .inr (.inr (.inr (.inr (.inr ⟨f, o, rfl, rfl, h1, h2⟩))))⟩
theorem oddp_dict {C : Addr} {R : Addr → Addr → Hp → Prop} {F : Hp} {p : Addr} (h : F p = some (.dK [])) : OddP K C R F (.ref p) := ⟨.inl (ni_dict h), fun G e => .inr (.inr (.inr (.inl ⟨p, p, rfl, rfl, e _ _ h, e _ _ h, by decide⟩)))⟩
def qR : Str := (("_law_refused_right" : Str) ++ ".<locals>.") ++ "<lambda>"
end
/-- a def whose code object stands at c -/
structure FunC (K : PySem.W.Frag) (x : Str) (st : Stmt) (f : Addr) (fd : FuncData) (c : Addr) : Prop where
  ex : ∃ (oc : Value) (od : Option Addr) (kV doc pm : Value) (an : Option Addr) (ct : Value) (osl : Array (Option Value)), fd = PySem.W.fnOf x x (defArgs st) (defBody st) (defScope st) .none kV doc pm an (.ref c) ct ∧ K.lookup f = some ⟨oc, od, .func fd, osl⟩ ∧ PySem.W.codeIn K (.ref c) x = true
  kp : PySem.W.keepIn K (.ref f) = true

section
variable {P : Program} {w : World} {K : PySem.W.Frag} {mg : Str → Option Value} {base : Heap}
/-- what the top has written of _law_tried, and of the code that makes lambdas -/
structure TrP (K : PySem.W.Frag) (mg : Str → Option Value) (base : Heap) (CP CS CI CO g fP fS fI fO : Addr) (fdg : FuncData) (c PT : Addr) : Prop where
  F : L2.Fun K "_law_tried" "_law_tried" sTried g fdg
  m : mg "_law_tried" = some (.ref g)
  b : Binds K fdg ["_law_ask"] []
  TP : ExT K mg "BadPlaces" "places" CP fP
  TS : ExT K mg "BadSteps" "index" CS fS
  TI : ExT K mg "BadIns" "index" CI fI
  TO : ExT K mg "BadOuts" "index" CO fO
  ex : ExmK K CP CS CI CO
  TB : LamX.TabB base mg c PT
/-- _law_tried(lambda: Part(e1, e2, e3, e4)) -/
theorem pe_triedP {X : Cx} {CW C CP CS CI CO gI g fP fS fI fO c PT : Addr} {fdI fdg : FuncData} {t1 t2 t3 t4 : TE} {e1 e2 e3 e4 : Expr} {p1 p2 p3 p4 p5 : Pos} {ps : Arguments} {scope : Scope} (hXK : X.K = K) (hXm : X.mg = mg) (hXb : X.base = base) (hXP : X.prog = P) (hXw : X.w = w) (W : TrP K mg base CP CS CI CO g fP fS fI fO fdg c PT) (M : Mk K C gI) (hC : mg "Part" = some (.ref C)) (GX : FnOk P w K mg base (L2.CX P w) 7 gI fdI ["self", "places", "steps", "ins", "outs"] (spPtInit K CW C CP CS CI CO)) (bI : Binds K fdI ["self", "places", "steps", "ins", "outs"] [])
    (hg : Gl X "_law_tried") (hcode : X.env.code = .ref c) (hq : X.env.qual = ("_law_refused_right" : Str) ++ ".<locals>.") (hr : Room 10 X.A) (L : LamX.LamS X.env.scope scope) (hdef : defaultsOf ps X.env = ([], []))
    (hbind : ∀ (q : Str) (cl : List (Str × Addr)) (pm cv ctv : Value), bindArgs (PySem.W.kla_fn "<lambda>" q ps (.Call (.Name "Part" p1) [e1, e2, e3, e4] [] p2) scope cl pm cv ctv) ⟨[], []⟩ = pure [])
    (hlg : scope.names.lookup ("Part" : Str) = some NameKind.globalImplicit)
    (h1 : ∀ (A : Around) (outer : List Env) (s : Shared) (H : Hp) (E : XK) (f c' : Addr), PE (LamX.lamCx X A outer s H E scope f c') e1 t1) (h2 : ∀ (A : Around) (outer : List Env) (s : Shared) (H : Hp) (E : XK) (f c' : Addr), PE (LamX.lamCx X A outer s H E scope f c') e2 t2)
    (h3 : ∀ (A : Around) (outer : List Env) (s : Shared) (H : Hp) (E : XK) (f c' : Addr), PE (LamX.lamCx X A outer s H E scope f c') e3 t3) (h4 : ∀ (A : Around) (outer : List Env) (s : Shared) (H : Hp) (E : XK) (f c' : Addr), PE (LamX.lamCx X A outer s H E scope f c') e4 t4)
    (k1 : ∀ env, starEach [e1, e2, e3, e4] env = (false, eval e1 env) :: starEach [e2, e3, e4] env) (k2 : ∀ env, starEach [e2, e3, e4] env = (false, eval e2 env) :: starEach [e3, e4] env) (k3 : ∀ env, starEach [e3, e4] env = (false, eval e3 env) :: starEach [e4] env) (k4 : ∀ env, starEach [e4] env = (false, eval e4 env) :: starEach [] env) :
    PE X (.Call (.Name "_law_tried" p3) [.Lambda ps (.Call (.Name "Part" p1) [e1, e2, e3, e4] [] p2) scope p4] [] p5) (LamX.tLam [(PT, qR)] (TTried CP CS CI CO) (fun E => tMake C (spPtInit K CW C CP CS CI CO) [] E (tCons t1 (tCons t2 (tCons t3 (tCons t4 tNil)))))) := by
  subst hXK hXm hXb hXP hXw
  obtain ⟨oc, od, kV, doc, pm, an, cdv, ct, osl, rfl, lk, hcd⟩ := W.F.ex
  have eq : X.env.qual ++ "<lambda>" = qR := by
    rw [hq]
    rfl
  refine LamX.pe_lamcall (k := 8) (Ng := ["_law_ask", "e"]) (a := "_law_ask") hg W.m W.F.kp lk hcd W.b scTried rfl (.inl rfl) (tried_gives W.TP W.TS W.TI W.TO W.ex) W.TB hcode (by rw [eq]; exact List.mem_singleton.mpr rfl) (fun p hp _ => by rw [List.mem_singleton.mp hp, eq]) hr L hdef hbind (fun A outer s H E f c' hr' => ?_)
  exact pe_make (he := k1 _) (hpl := by rw [k2, k3, k4]; rfl) M GX hr' hlg hC bI .nil (passes_call (takes_of rfl rfl rfl rfl) fun _ _ _ _ z => z) (pa_cons (h1 A outer s H E f c') (pa_cons (h2 A outer s H E f c') (pa_cons (h3 A outer s H E f c') (pa_cons (h4 A outer s H E f c') pa_nil (k4 _)) (k3 _)) (k2 _)) (k1 _))
end
end AA

set_option Elab.async false
set_option linter.all false
set_option maxRecDepth 100000
set_option maxHeartbeats 4000000
/-! _law_refused_right, its text. -/
namespace AA
open PySem PySem.Spec PyProof.Rows L2 Evl
theorem NXs.mut {a b p : Addr} {B G : Hp} {xs ys : List V} (n : NXs a b B G) (fr : ∀ x o, nt (hid a b B) x = some o → x ≠ p) (pa : p ≠ a) (pb : p ≠ b) : NXs a b B (upd G p (.lst ys)) := fun x o h => by
  have z := fr x o h
  obtain ⟨h1, h2⟩ := nt_some (n _ _ h)
  refine nt_of ?_ h2
  rw [hid_upd pa pb, upd_ne z]
  exact h1
theorem NXs.at {a b : Addr} {B G : Hp} (n : NXs a b B G) : Ex (nt (hid a b B)) G := Ex.trans n (nt_le.trans hid_ex)
section
variable {K : PySem.W.Frag}
/-- a thing that is no in door beside x0 -/
def OddI (K : PySem.W.Frag) (n x0 : Int) (F : Hp) (o : V) : Prop := o = .int x0 ∨ ((NotI K F o ∨ ∃ i, o = .int i ∧ (i < 0 ∨ n ≤ i)) ∧ ((∃ d, Dp K F o d ∧ SeqAt.shaped d = true) ∨ ∃ f, o = .ref f ∧ (FnV K f ∨ F f = some (.dK []))))
theorem oddI_dp {n x0 : Int} {F : Hp} {o : V} {d : PyData} (h : Dp K F o d) (hi : isIntD d = false) (hs : SeqAt.shaped d = true) : OddI K n x0 F o := .inr ⟨.inl (ni_dp h hi), .inl ⟨d, h, hs⟩⟩
theorem oddI_int {n x0 i : Int} {F : Hp} (h : i < 0 ∨ n ≤ i) : OddI K n x0 F (.int i) := .inr ⟨.inr ⟨i, rfl, h⟩, .inl ⟨.int i, .int i, rfl⟩⟩
theorem ni_fnv {F : Hp} {f : Addr} (h : FnV K f) : NotI K F (.ref f) := by
  obtain ⟨od, fd, osl, h⟩ := h
  exact ni_fn h rfl
theorem lk_fnv {F : Hp} {f : Addr} (h : FnV K f) : Lk K F (.ref f) false := by
  obtain ⟨od, fd, osl, h⟩ := h
  exact lk_fn h rfl
theorem OddI.ndA {n x0 : Int} {F : Hp} {o : V} {is : List Int} (h : OddI K n x0 F o) (m : x0 ∈ is) : NoDoor K F n ([] ++ is) o := by
  rcases h with rfl | ⟨h | ⟨i, rfl, h⟩, _⟩
  · exact .inr ⟨x0, rfl, .inr (.inr m)⟩
  · exact .inl h
  · exact .inr ⟨i, rfl, h.imp id .inl⟩
/-- no list at all, or one of nothing -/
def OddN (K : PySem.W.Frag) (F : Hp) (o : V) : Prop := Lk K F o false ∨ ∃ p, o = .ref p ∧ SqA K F p []
theorem OddN.arg {n : Int} {F G : Hp} {o : V} {tk : List Int} (h : OddN K F o) (e : Ex F G) : DrArg K n G o tk (fun i => i = 0) (fun _ => False) := by
  rcases h with h | ⟨p, rfl, h⟩
  · exact .inl ⟨h.ex e, rfl⟩
  · exact .inr ⟨p, [], rfl, h.ex e, .inl ⟨rfl, rfl⟩⟩
end
section
variable {P : Program} {w : World} {K : PySem.W.Frag} {mg : Str → Option Value} {base : Heap}
def spRefP (K : PySem.W.Frag) (PT : Addr) : Sp := fun vs H Q _ => ∃ (a b : Addr) (m : Nat) (n : Int) (l ai ao : Addr) (vs0 : List V) (ss : List St5) (is os : List Int), vs = [.ref a, .int n, .ref l, .ref ai, .ref ao] ∧ m < 600000000 ∧ LamX.Tabs [(PT, qR)] H ∧ ArgP K a b m n l ai ao vs0 ss is os H ∧ WbOk n ss ∧ ss.length ≤ 100 ∧ DrOk n is os ∧
  ∀ H', SAt H' a b (m + 10) → LamX.Tabs [(PT, qR)] H' → Q (.bl true) H'
abbrev nmRefP : List Str := ["_law_stream_here", "_law_places", "_law_steps", "_law_ins", "_law_outs", "_law_found", "_law_at", "_law_bad", "_law_odd"]
theorem scRefP : FnScope nmRefP ["_law_stream_here", "_law_places", "_law_steps", "_law_ins", "_law_outs"] (defScope sRefusedRight) := ⟨rfl, rfl, rfl, by decide +kernel, rfl, by decide +kernel, by decide +kernel⟩
theorem ok_refP {f fD CW C CP CS CI CO gI gW gN gO gE g fP fS fI fO c PT : Addr} {fd ddI ddW ddN ddO ddE fdg : FuncData} (F : FunC K "_law_refused_right" sRefusedRight f fd c) (B : Bn mg) (Z : PtK P w K mg base CW C CP CS CI CO gI gW gN gO gE ddI ddW ddN ddO ddE) (GX : FnOk P w K mg base (L2.CX P w) 7 gI ddI ["self", "places", "steps", "ins", "outs"] (spPtInit K CW C CP CS CI CO))
    (TR : TrP K mg base CP CS CI CO g fP fS fI fO fdg c PT) (mD : mg "_law_draw" = some (.ref fD)) (vD : FnV K fD)
    (cP : C8.Cal P w K mg base 2 "_law_pick" (spPick K) []) (cD : C8.Cal P w K mg base 1 "_law_draw" spDraw [])
    {R : Addr → Addr → Hp → Prop} {CR : Addr} (cS : C8.Cal P w K mg base 9 "_law_same" (spSame K CR R 7) []) : FnOk P w K mg base CX0 11 f fd ["_law_stream_here", "_law_places", "_law_steps", "_law_ins", "_law_outs"] (spRefP K PT) := by
  obtain ⟨oc, od, kV, doc, pm, an, ct, osl, rfl, lk, hcd⟩ := F.ex
  refine fn_of lk hcd scRefP (fun vs H Q E h => ?_) fun A outer s H vs Q E hr h => ?_
  · obtain ⟨a, b, m, n, l, ai, ao, vs0, ss, is, os, rfl, _⟩ := h
    rfl
  suffices go : ∃ t, PSs (cxOf CX0 P w K mg base nmRefP "_law_refused_right" (defScope sRefusedRight) f (.ref c) A outer s H E).nox (defBody sRefusedRight) t ∧ t { nx := fun _ H' => Q .non H', rt := Q } (L2.start nmRefP vs) H from let ⟨t, h1, h2⟩ := go; ⟨t, h1.nox, h2⟩
  · obtain ⟨a, b, m, n, l, ai, ao, vs0, ss, is, os, rfl, hm, hT, ⟨hS, hl, hai, hao, hD⟩, hWb, hsz, hdr, k⟩ := h
    have hr10 : Room 10 (A.deeper (envOfC "_law_refused_right" (defScope sRefusedRight) s.heap.objs.size f (.ref c))) := hr.mono (by decide)
    have hun := hr.un
    have hu1 : (A.deeper (envOfC "_law_refused_right" (defScope sRefusedRight) s.heap.objs.size f (.ref c))).units + 1 < cLine := by omega
    refine ⟨_, Evl.pss_cut (ps_for PassesOwn.never rfl (pi_list (pe_lst (pa_cons pe_non (pa_cons (pe_un un_neg pe_int) (pa_cons (pv 1) (pa_cons pe_bl (pa_cons pe_str (pa_cons (pe_tup (pa_cons pe_int pa_nil)) (pa_cons (pe_lst pa_nil) (pa_cons pe_dnewK (pa_cons (pe_glob (v := .ref fD) (by rfl) mD rfl) (pa_cons (pe_ix ix_list (pv 3) pe_int (fun _ _ => rfl)) pa_nil)))))))))))) (pg_name (i := 8) scRefP.nd rfl (Or.inr rfl))
          (pss_cons (ps_set (i := 7) scRefP.nd rfl (Or.inr rfl) (pe_op op_cat (pv 3) (pe_lst (pa_cons (pv 8) (pa_cons pe_non pa_nil)))))
          (pss_cons (ps_if (pt_cmpR (op_neD hr.units) (pe_triedP rfl rfl rfl rfl rfl TR Z.M Z.T.mgC GX Z.bI (by rfl) rfl rfl hr10 (LamX.lamS_by (by rfl)) rfl (fun _ _ _ _ _ => rfl) rfl (fun _ _ _ _ _ _ _ => pv 1) (fun _ _ _ _ _ _ _ => pv 2) (fun _ _ _ _ _ _ _ => pv 7) (fun _ _ _ _ _ _ _ => pe_non) (fun _ => rfl) (fun _ => rfl) (fun _ => rfl) (fun _ => rfl))
              (pe_tup (pa_cons pe_str (pa_cons (pe_callB call_len_seq (by rfl) B.len PySem.boot_len (pa_cons (pv 3) pa_nil)) pa_nil))) (nomark _)) (pss_one (ps_ret pe_bl)) pss_nil)
          (pss_one (ps_if (PW.pt (pw_and (pt_cmpR (op_orR (op_neD hr.units) (op_neF hu1)) (pv 8) (pe_ix ix_list (pv 3) pe_int (fun _ _ => rfl)) (nomark _))
              (pw_and1 (pt_cmpR (op_neD hr.units) (pe_triedP rfl rfl rfl rfl rfl TR Z.M Z.T.mgC GX Z.bI (by rfl) rfl rfl hr10 (LamX.lamS_by (by rfl)) rfl (fun _ _ _ _ _ => rfl) rfl (fun _ _ _ _ _ _ _ => pv 1) (fun _ _ _ _ _ _ _ => pv 2) (fun _ _ _ _ _ _ _ => pe_op op_cat (pe_lst (pa_cons (pv 8) pa_nil)) (pv 3)) (fun _ _ _ _ _ _ _ => pe_non) (fun _ => rfl) (fun _ => rfl) (fun _ => rfl) (fun _ => rfl))
              (pe_tup (pa_cons pe_str (pa_cons pe_int pa_nil))) (nomark _))))) (pss_one (ps_ret pe_bl)) pss_nil)))))
      (Evl.pss_cut (ps_for PassesOwn.never rfl (pi_list (pe_lst (pa_cons pe_non (pa_cons (pe_un un_neg pe_int) (pa_cons (pv 1) (pa_cons pe_bl (pa_cons pe_str (pa_cons (pe_tup (pa_cons pe_int pa_nil)) (pa_cons (pe_lst pa_nil) (pa_cons pe_dnewK (pa_cons (pe_glob (v := .ref fD) (by rfl) mD rfl) (pa_cons (pe_ix ix_list (pv 4) pe_int (fun _ _ => rfl))
            (pa_cons (C8.pe_c cP hr (by decide) (by rfl) (pa_cons (pv 0) (pa_cons (pv 3) pa_nil))) pa_nil))))))))))))) (pg_name (i := 8) scRefP.nd rfl (Or.inr rfl))
          (pss_one (ps_if (pt_cmpR (op_neD hr.units) (pe_triedP rfl rfl rfl rfl rfl TR Z.M Z.T.mgC GX Z.bI (by rfl) rfl rfl hr10 (LamX.lamS_by (by rfl)) rfl (fun _ _ _ _ _ => rfl) rfl (fun _ _ _ _ _ _ _ => pv 1) (fun _ _ _ _ _ _ _ => pv 2) (fun _ _ _ _ _ _ _ => pv 3) (fun _ _ _ _ _ _ _ => pe_op op_cat (pv 4) (pe_lst (pa_cons (pv 8) (pa_cons pe_non pa_nil)))) (fun _ => rfl) (fun _ => rfl) (fun _ => rfl) (fun _ => rfl))
              (pe_tup (pa_cons pe_str (pa_cons (pe_callB call_len_seq (by rfl) B.len PySem.boot_len (pa_cons (pv 4) pa_nil)) pa_nil))) (nomark _)) (pss_one (ps_ret pe_bl)) pss_nil)))
      (Evl.pss_cut (ps_for PassesOwn.never rfl (pi_list (pe_lst (pa_cons pe_non (pa_cons pe_int (pa_cons pe_str (pa_cons (pe_lst pa_nil) (pa_cons (pe_tup pa_nil) (pa_cons pe_dnewK (pa_cons pe_bl (pa_cons (pe_glob (v := .ref fD) (by rfl) mD rfl) pa_nil)))))))))) (pg_name (i := 8) scRefP.nd rfl (Or.inr rfl))
          (pss_cons (ps_set (i := 5) scRefP.nd rfl (Or.inl rfl) (pe_lst (pa_cons (pe_triedP rfl rfl rfl rfl rfl TR Z.M Z.T.mgC GX Z.bI (by rfl) rfl rfl hr10 (LamX.lamS_by (by rfl)) rfl (fun _ _ _ _ _ => rfl) rfl (fun _ _ _ _ _ _ _ => pv 1) (fun _ _ _ _ _ _ _ => pv 2) (fun _ _ _ _ _ _ _ => pv 8) (fun _ _ _ _ _ _ _ => pe_non) (fun _ => rfl) (fun _ => rfl) (fun _ => rfl) (fun _ => rfl)) pa_nil)))
          (pss_cons (ps_expr (pe_bm PySem.F.plainAttrs_list PySem.F.slot_list_append PySem.F.type_list_append mt_append (pv 5) (pa_cons (pe_triedP rfl rfl rfl rfl rfl TR Z.M Z.T.mgC GX Z.bI (by rfl) rfl rfl hr10 (LamX.lamS_by (by rfl)) rfl (fun _ _ _ _ _ => rfl) rfl (fun _ _ _ _ _ _ _ => pv 1) (fun _ _ _ _ _ _ _ => pv 2) (fun _ _ _ _ _ _ _ => pv 3) (fun _ _ _ _ _ _ _ => pv 8) (fun _ => rfl) (fun _ => rfl) (fun _ => rfl) (fun _ => rfl)) pa_nil)))
          (pss_one (ps_if (pt_cmpR (op_neD hr.units) (pv 5) (pe_lst (pa_cons (pe_tup (pa_cons pe_str (pa_cons pe_int pa_nil))) (pa_cons (pe_tup (pa_cons pe_str (pa_cons pe_int pa_nil))) pa_nil))) (nomark _)) (pss_one (ps_ret pe_bl)) pss_nil)))))
      (Evl.pss_cut (ps_for PassesOwn.never rfl (pi_list (pe_lst (pa_cons pe_non (pa_cons pe_int (pa_cons (pe_un un_neg pe_int) (pa_cons pe_bl (pa_cons pe_str (pa_cons (pe_tup (pa_cons pe_int pa_nil)) (pa_cons pe_dnewK pa_nil))))))))) (pg_name (i := 8) scRefP.nd rfl (Or.inr rfl))
          (pss_one (ps_if (pt_not (pt_val (C8.pe_c cS hr (by decide) (by rfl) (pa_cons (pe_triedP rfl rfl rfl rfl rfl TR Z.M Z.T.mgC GX Z.bI (by rfl) rfl rfl hr10 (LamX.lamS_by (by rfl)) rfl (fun _ _ _ _ _ => rfl) rfl (fun _ _ _ _ _ _ _ => pv 8) (fun _ _ _ _ _ _ _ => pe_non) (fun _ _ _ _ _ _ _ => pe_non) (fun _ _ _ _ _ _ _ => pe_non) (fun _ => rfl) (fun _ => rfl) (fun _ => rfl) (fun _ => rfl))
              (pa_cons (pe_tup (pa_cons pe_str (pa_cons (pv 8) pa_nil))) pa_nil))))) (pss_one (ps_ret pe_bl)) pss_nil)))
      (pss_cons (ps_set (i := 6) scRefP.nd rfl (Or.inr rfl) (C8.pe_c cD hr (by decide) (by rfl) (pa_cons (pv 0) (pa_cons (pe_op op_add (pe_callB call_len_seq (by rfl) B.len PySem.boot_len (pa_cons (pv 2) pa_nil)) pe_int) pa_nil))))
      (pss_one (ps_ret (pe_cmpR (op_eqD hr.units) (pe_triedP rfl rfl rfl rfl rfl TR Z.M Z.T.mgC GX Z.bI (by rfl) rfl rfl hr10 (LamX.lamS_by (by rfl)) rfl (fun _ _ _ _ _ => rfl) rfl (fun _ _ _ _ _ _ _ => pv 1) (fun _ _ _ _ _ _ _ => pe_op op_cat (pe_op op_cat (pe_slice (r := rSlL K) sl_list (pv 2) po_none (po_some (pv 6))) (pe_lst (pa_cons pe_non pa_nil))) (pe_slice (r := rSlL K) sl_list (pv 2) (po_some (pv 6)) po_none)) (fun _ _ _ _ _ _ _ => pe_non) (fun _ _ _ _ _ _ _ => pe_non) (fun _ => rfl) (fun _ => rfl) (fun _ => rfl) (fun _ => rfl))
          (pe_tup (pa_cons pe_str (pa_cons (pv 6) pa_nil))) (nomark _)))))))), ?_⟩
    have hlen := sts_len hD
    obtain ⟨nI, nO, nIO⟩ := List.nodup_append.mp hdr.nd
    have i2 := hdr.i2
    have o2 := hdr.o2
    have hn1 := hWb.n1
    obtain ⟨x0, xr, hx0⟩ : ∃ x0 xr, is = x0 :: xr := by
      cases is with
      | nil => exact absurd rfl hdr.i1
      | cons x r => exact ⟨x, r, rfl⟩
    have mx0 : x0 ∈ is := by rw [hx0]; exact List.mem_cons_self
    obtain ⟨z0, zr, hz0⟩ : ∃ z0 zr, os = z0 :: zr := by
      cases os with
      | nil => exact absurd rfl hdr.o1
      | cons x r => exact ⟨x, r, rfl⟩
    have mz0 : z0 ∈ os := by rw [hz0]; exact List.mem_cons_self
    have i0at : atI (is.map V.int) 0 = some (.int x0) := by rw [hx0]; exact atI_nat (j := 0) rfl
    have o0at : atI (os.map V.int) 0 = some (.int z0) := by rw [hz0]; exact atI_nat (j := 0) rfl
    have hmi : (is.map V.int).length = is.length := List.length_map ..
    have hmo : (os.map V.int).length = os.length := List.length_map ..
    have bl : nt (hid a b H) l = some (.lst vs0) := nt_of hl fun ps z => nomatch z
    have bi : nt (hid a b H) ai = some (.lst (is.map V.int)) := nt_of hai fun ps z => nomatch z
    have bo : nt (hid a b H) ao = some (.lst (os.map V.int)) := nt_of hao fun ps z => nomatch z
    have bD : DpAll K (nt (hid a b H)) vs0 (ss.map stD) := dpa_nt _ _ (dpa_ex (tps_in hS) _ _ hD)
    have Gl : ∀ {k : Nat} {G : Hp}, RS [(PT, qR)] a b H k G → G l = some (.lst vs0) := fun r => r.at _ _ bl
    have Gi : ∀ {k : Nat} {G : Hp}, RS [(PT, qR)] a b H k G → G ai = some (.lst (is.map V.int)) := fun r => r.at _ _ bi
    have Go : ∀ {k : Nat} {G : Hp}, RS [(PT, qR)] a b H k G → G ao = some (.lst (os.map V.int)) := fun r => r.at _ _ bo
    have GD : ∀ {k : Nat} {G : Hp}, RS [(PT, qR)] a b H k G → DpAll K G vs0 (ss.map stD) := fun r => dpa_ex r.at _ _ bD
    have r0 : RS [(PT, qR)] a b H m H := ⟨Ex.refl _, hS, hT⟩
    -- in doors
    refine ⟨fun σ G => ∃ x7 x8, σ = [some (.ref a), some (.int n), some (.ref l), some (.ref ai), some (.ref ao), none, none, x7, x8] ∧ RS [(PT, qR)] a b H m G, ?_, ?_⟩
    · refine ⟨_, rfl, _, rfl, by show 1 ≤ sizeLine; decide, fun t5 ht5 => ⟨by show 0 ≤ sizeLine; decide, fun l5 hl5 => fun d5 hd5 => ?_⟩⟩
      have y1 := Ex.new (o := .tup [V.int 0]) ht5
      have j1 : upd H t5 (.tup [V.int 0]) t5 = some (.tup [V.int 0]) := upd_same
      generalize upd H t5 (.tup [V.int 0]) = A1 at y1 j1 hl5 hd5 ⊢
      have y2 := Ex.new (o := .lst []) hl5
      have j2 : upd A1 l5 (.lst []) l5 = some (.lst []) := upd_same
      generalize upd A1 l5 (.lst []) = A2 at y2 j2 hd5 ⊢
      have y3 := Ex.new (o := .dK []) hd5
      have j3 : upd A2 d5 (.dK []) d5 = some (.dK []) := upd_same
      generalize upd A2 d5 (.dK []) = A3 at y3 j3 ⊢
      have r3 := r0.ex (y1.trans (y2.trans y3))
      refine ⟨_, rfl, ai, _, 0, .int x0, rfl, rfl, SqL.of (Gi r3), i0at, by show 10 ≤ sizeLine; decide, fun u5 hu5 => ?_⟩
      generalize hLs : ([V.non, V.int (-1), V.int n, V.bl true, V.str "0", V.ref t5, V.ref l5, V.ref d5, V.ref fD, V.int x0] : List V) = Ls
      have y4 := Ex.new (o := .lst Ls) hu5
      have j4 : upd A3 u5 (.lst Ls) u5 = some (.lst Ls) := upd_same
      refine ⟨u5, rfl, ⟨_, SqL.of j4⟩, ?_⟩
      generalize upd A3 u5 (.lst Ls) = A4 at y4 j4 ⊢
      have r5 := r3.ex y4
      have put : ∀ {p : Addr} {o : HO}, H p = none → A4 p = some o → (∀ ps, o ≠ .tbl ps) → nt (hid a b A4) p = some o := fun h0 h nn => nt_of (by rw [hid_ne (hS.nea h0) (hS.neb h0)]; exact h) nn
      have bu5 := put (fresh_back (y1.trans (y2.trans y3)) hu5) j4 fun ps z => nomatch z
      have odd5 : ∀ o ∈ Ls, OddI K n x0 (nt (hid a b A4)) o := fun o ho => by
        rw [← hLs] at ho
        simp only [List.mem_cons, List.not_mem_nil, or_false] at ho
        rcases ho with rfl | rfl | rfl | rfl | rfl | rfl | rfl | rfl | rfl | rfl
        · exact oddI_dp (d := .none) .non rfl rfl
        · exact oddI_int (.inl (by decide))
        · exact oddI_int (.inr (Int.le_refl _))
        · exact oddI_dp (d := .bool true) (.bl true) rfl rfl
        · exact oddI_dp (d := .str _) (.str _) rfl (by decide +kernel)
        · exact oddI_dp (d := .tuple [.int 0]) (.tup (SqT.of (put ht5 ((y2.trans (y3.trans y4)) _ _ j1) fun ps z => nomatch z)) (.cons (.int 0) .nil)) rfl rfl
        · exact oddI_dp (d := .list []) (.lst (SqL.of (put (fresh_back y1 hl5) ((y3.trans y4) _ _ j2) fun ps z => nomatch z)) .nil) rfl rfl
        · have q := put (fresh_back (y1.trans y2) hd5) (y4 _ _ j3) fun ps z => nomatch z
          exact .inr ⟨.inl (ni_dict q), .inr ⟨d5, rfl, .inr q⟩⟩
        · exact .inr ⟨.inl (ni_fnv vD), .inr ⟨fD, rfl, .inl vD⟩⟩
        · exact .inl rfl
      refine for_list (K := K) (a := u5) (xs := Ls) (fun i σ G => ∃ x7 x8, σ = [some (.ref a), some (.int n), some (.ref l), some (.ref ai), some (.ref ao), none, none, x7, x8] ∧ RS [(PT, qR)] a b H m G ∧ NXs a b A4 G) ⟨_, _, rfl, r5, Ex.refl _⟩ (fun i σ G _ ⟨_, _, _, _, e⟩ => SqL.of (hid_ex _ _ (nt_le _ _ (e _ _ bu5)))) ?_ ?_
      · rintro i o σ G ho ⟨x7, x8, rfl, rG, nG⟩
        have oI := odd5 o (mem_of_get ho)
        refine ⟨_, rfl, _, rfl, by show 2 ≤ sizeLine; decide, fun p2 hp2 => ?_⟩
        have v1 := Ex.new (o := .lst [o, V.non]) hp2
        have i1 : upd G p2 (.lst [o, V.non]) p2 = some (.lst [o, V.non]) := upd_same
        generalize upd G p2 (.lst [o, V.non]) = B1 at v1 i1 ⊢
        have rB1 := rG.ex v1
        refine ⟨ai, p2, _, _, rfl, rfl, Gi rB1, i1, sz_le (by rw [hmi]; show _ + 2 ≤ _; omega), fun bd hbd => ?_⟩
        have v2 := Ex.new (o := .lst (is.map V.int ++ [o, V.non])) hbd
        have i3 : upd B1 bd (.lst (is.map V.int ++ [o, V.non])) bd = some (.lst (is.map V.int ++ [o, V.non])) := upd_same
        generalize upd B1 bd (.lst (is.map V.int ++ [o, V.non])) = B2 at v2 i3 ⊢
        have rB2 := rB1.ex v2
        refine ⟨rB2.t, fun B3 eN t3 => ?_⟩
        have r6 := rB2.N eN t3
        have n6 : NXs a b A4 B3 := Ex.trans (Ex.trans nG (nt_mono (hid_mono (v1.trans v2)))) (nxs_N eN)
        have drA : DrArg K n B3 (.ref bd) [] (fun i => i = is.length) (fun _ => False) :=
          .inr ⟨bd, _, rfl, .inl (SqL.of (eN _ _ i3 fun ps z => nomatch z)), .inr ⟨is, by omega, nI, hdr.iArg, .inr ⟨o, [V.non], rfl, (oI.ndA mx0).ex n6.at, rfl⟩⟩⟩
        refine ⟨_, rfl, _, rfl, _, rfl, fun x dx nx ndx nex => part_tellI nx ndx hn1 (.inl (SqL.of (Gl r6))) (rdall_st (GD r6) hWb.ok) hWb.nd (by omega) drA fun B4 p7 e7 hp7 => ?_⟩
        have v8 := Ex.new (o := .tup [V.str "ins", V.int (is.length : Int)]) hp7
        have i8 : upd B4 p7 (.tup [V.str "ins", V.int (is.length : Int)]) p7 = some (.tup [V.str "ins", V.int (is.length : Int)]) := upd_same
        generalize upd B4 p7 (.tup [V.str "ins", V.int (is.length : Int)]) = B5 at v8 i8 ⊢
        have r8 := r6.ex (e7.trans v8)
        refine ⟨_, rfl, ai, _, rfl, .inl (SqL.of (Gi r8)), by show 2 ≤ sizeLine; decide, fun p9 hp9 => ?_⟩
        rw [hmi]
        have v9 := Ex.new (o := .tup [V.str "ins", V.int (is.length : Int)]) hp9
        refine ⟨_, _, pairD_dp (v9 _ _ i8), pairD_dp upd_same, pairD_sh ok_ins _, pairD_sh ok_ins _, _, rfl, ?_⟩
        rw [pairD_eq]
        refine iteF ?_
        have r9 := r8.ex v9
        have n9 : NXs a b A4 (upd B5 p9 (.tup [V.str "ins", V.int (is.length : Int)])) := Ex.trans n6 (nt_mono (hid_mono ((e7.trans v8).trans v9)))
        generalize upd B5 p9 (.tup [V.str "ins", V.int (is.length : Int)]) = B6 at r9 n9 ⊢
        refine ⟨_, rfl, _, rfl, ai, _, 0, .int x0, rfl, rfl, SqL.of (Gi r9), i0at, ?_⟩
        rcases oI with eo | ⟨oN, hd⟩
        · subst eo
          refine .inl ⟨.int x0, .int x0, .int _, .int _, rfl, rfl, _, rfl, ?_⟩
          rw [show PyData.eqv (.int x0) (.int x0) = true from beq_self_eq_true x0]
          exact iteF ⟨_, _, rfl, r9, n9⟩
        have ndF : ∀ {F : Hp}, Ex (nt (hid a b A4)) F → NoDoor K F n ([] ++ []) o := fun e => oN.imp (fun z => z.ex e) (fun ⟨i, q1, q2⟩ => ⟨i, q1, q2.imp id .inl⟩)
        rcases hd with ⟨d, hd1, hd2⟩ | ⟨ff, ef, hf⟩
        case' inl =>
          refine .inl ⟨d, .int x0, dp_ex n9.at _ _ hd1, .int _, hd2, rfl, _, rfl, ?_⟩
          generalize (!PyData.eqv d (.int x0)) = bb
          cases bb
          · exact iteF ⟨_, _, rfl, r9, n9⟩
          refine iteT ?_
        case' inr => refine .inr ⟨ff, x0, ef, rfl, hf.imp id (n9.at _ _), _, rfl, iteT ?_⟩
        all_goals
          refine ⟨r9.t, fun C1 eM tM => ?_⟩
          have r10 := r9.N eM tM
          have n10 : NXs a b A4 C1 := Ex.trans n9 (nxs_N eM)
          refine ⟨_, rfl, _, rfl, _, rfl, by show 1 ≤ sizeLine; decide, fun q1 hq1 => ?_⟩
          have w1 := Ex.new (o := .lst [o]) hq1
          have g1 : upd C1 q1 (.lst [o]) q1 = some (.lst [o]) := upd_same
          generalize upd C1 q1 (.lst [o]) = C2 at w1 g1 ⊢
          refine ⟨_, rfl, q1, ai, _, _, rfl, rfl, g1, w1 _ _ (Gi r10), sz_le (by rw [hmi]; show 1 + _ ≤ _; omega), fun bd2 hbd2 => ?_⟩
          have w2 := Ex.new (o := .lst ([o] ++ is.map V.int)) hbd2
          have g2 : upd C2 bd2 (.lst ([o] ++ is.map V.int)) bd2 = some (.lst ([o] ++ is.map V.int)) := upd_same
          generalize upd C2 bd2 (.lst ([o] ++ is.map V.int)) = C3 at w2 g2 ⊢
          have r11 := r10.ex (w1.trans w2)
          have n11 : NXs a b A4 C3 := Ex.trans n10 (nt_mono (hid_mono (w1.trans w2)))
          have nd3 : NoDoor K C3 n ([] ++ []) o := ndF n11.at
          have drB : DrArg K n C3 (.ref bd2) [] (fun i => i = 0) (fun _ => False) :=
            .inr ⟨bd2, _, rfl, .inl (SqL.of g2), .inr ⟨[], by simp, List.nodup_nil, (fun i hi => absurd hi (by simp)), .inr ⟨o, is.map V.int, rfl, nd3, rfl⟩⟩⟩
          refine fun x dx nx ndx nex => part_tellI (j := 0) nx ndx hn1 (.inl (SqL.of (Gl r11))) (rdall_st (GD r11) hWb.ok) hWb.nd (by omega) drB fun C4 p11 e11 hp11 => ?_
          have w3 := Ex.new (o := .tup [V.str "ins", V.int ((0 : Nat) : Int)]) hp11
          have g3 : upd C4 p11 (.tup [V.str "ins", V.int ((0 : Nat) : Int)]) p11 = some (.tup [V.str "ins", V.int ((0 : Nat) : Int)]) := upd_same
          generalize upd C4 p11 (.tup [V.str "ins", V.int ((0 : Nat) : Int)]) = C5 at w3 g3 ⊢
          refine ⟨by show 2 ≤ sizeLine; decide, fun p12 hp12 => ?_⟩
          have w4 := Ex.new (o := .tup [V.str "ins", V.int 0]) hp12
          refine ⟨pairD "ins" 0, pairD "ins" 0, pairD_dp (w4 _ _ g3), pairD_dp upd_same, pairD_sh ok_ins _, pairD_sh ok_ins _, _, rfl, ?_⟩
          rw [pairD_eq]
          refine iteF ?_
          have e4 := e11.trans (w3.trans w4)
          exact ⟨_, _, rfl, r11.ex e4, Ex.trans n11 (nt_mono (hid_mono e4))⟩
      · rintro σ G ⟨x7, x8, rfl, rG, _⟩
        exact ⟨_, _, rfl, rG⟩
    rintro σ G1 ⟨x7, x8, rfl, r1⟩
    -- out doors
    refine ⟨fun σ G => ∃ x7 x8, σ = [some (.ref a), some (.int n), some (.ref l), some (.ref ai), some (.ref ao), none, none, x7, x8] ∧ RS [(PT, qR)] a b H (m + 1) G, ?_, ?_⟩
    · refine ⟨_, rfl, _, rfl, by show 1 ≤ sizeLine; decide, fun t5 ht5 => ⟨by show 0 ≤ sizeLine; decide, fun l5 hl5 => fun d5 hd5 => ?_⟩⟩
      have y1 := Ex.new (o := .tup [V.int 0]) ht5
      have j1 : upd G1 t5 (.tup [V.int 0]) t5 = some (.tup [V.int 0]) := upd_same
      generalize upd G1 t5 (.tup [V.int 0]) = A1 at y1 j1 hl5 hd5 ⊢
      have y2 := Ex.new (o := .lst []) hl5
      have j2 : upd A1 l5 (.lst []) l5 = some (.lst []) := upd_same
      generalize upd A1 l5 (.lst []) = A2 at y2 j2 hd5 ⊢
      have y3 := Ex.new (o := .dK []) hd5
      have j3 : upd A2 d5 (.dK []) d5 = some (.dK []) := upd_same
      generalize upd A2 d5 (.dK []) = A3 at y3 j3 ⊢
      have r3 := r1.ex (y1.trans (y2.trans y3))
      have put : ∀ {p : Addr} {o : HO}, G1 p = none → A3 p = some o → (∀ ps, o ≠ .tbl ps) → nt (hid a b A3) p = some o := fun h0 h nn => nt_of (by rw [hid_ne (r1.s.nea h0) (r1.s.neb h0)]; exact h) nn
      have bt5 := put ht5 ((y2.trans y3) _ _ j1) fun ps z => nomatch z
      have bl5 := put (fresh_back y1 hl5) (y3 _ _ j2) fun ps z => nomatch z
      have bd5 := put (fresh_back (y1.trans y2) hd5) j3 fun ps z => nomatch z
      refine ⟨_, rfl, ao, _, 0, .int z0, rfl, rfl, SqL.of (Go r3), o0at, ?_⟩
      refine ⟨_, rfl, _, rfl, a, b, m, ai, _, rfl, r3.s, by omega, SqL.of (nt_le _ _ (r3.e _ _ bi)), by rw [hmi, hx0]; exact Nat.succ_pos _, by rw [hmi]; omega, fun A4 ip xp e4 s4 hxp => ?_⟩
      obtain ⟨cp, hcp, rfl⟩ := get_ints hxp
      have r4 := r3.go e4 s4
      have n34 : NXs a b A3 A4 := nt_mono e4
      refine ⟨by show 11 ≤ sizeLine; decide, fun u5 hu5 => ?_⟩
      generalize hLs : ([V.non, V.int (-1), V.int n, V.bl true, V.str "0", V.ref t5, V.ref l5, V.ref d5, V.ref fD, V.int z0, V.int cp] : List V) = Ls
      have y4 := Ex.new (o := .lst Ls) hu5
      have j4 : upd A4 u5 (.lst Ls) u5 = some (.lst Ls) := upd_same
      have u5a := r4.s.nea hu5
      have u5b := r4.s.neb hu5
      refine ⟨u5, rfl, ⟨_, SqL.of j4⟩, ?_⟩
      generalize upd A4 u5 (.lst Ls) = A5 at y4 j4 ⊢
      have r5 := r4.ex y4
      have n35 : NXs a b A3 A5 := Ex.trans n34 (nt_mono (hid_mono y4))
      have bu5 : nt (hid a b A5) u5 = some (.lst Ls) := nt_of (by rw [hid_ne u5a u5b]; exact j4) fun ps z => nomatch z
      have odd5 : ∀ o ∈ Ls, NoDoor K (nt (hid a b A5)) n (is ++ os) o := fun o ho => by
        rw [← hLs] at ho
        simp only [List.mem_cons, List.not_mem_nil, or_false] at ho
        rcases ho with rfl | rfl | rfl | rfl | rfl | rfl | rfl | rfl | rfl | rfl | rfl
        · exact .inl (ni_dp (d := .none) .non rfl)
        · exact .inr ⟨_, rfl, .inl (by decide)⟩
        · exact .inr ⟨_, rfl, .inr (.inl (Int.le_refl _))⟩
        · exact .inl (ni_dp (d := .bool true) (.bl true) rfl)
        · exact .inl (ni_dp (d := .str _) (.str _) rfl)
        · exact .inl (ni_sq (.inr (SqT.of (n35 _ _ bt5))))
        · exact .inl (ni_sq (.inl (SqL.of (n35 _ _ bl5))))
        · exact .inl (ni_dict (n35 _ _ bd5))
        · exact .inl (ni_fnv vD)
        · exact .inr ⟨_, rfl, .inr (.inr (List.mem_append_right _ mz0))⟩
        · exact .inr ⟨_, rfl, .inr (.inr (List.mem_append_left _ (mem_of_get hcp)))⟩
      refine for_list (K := K) (a := u5) (xs := Ls) (fun i σ G => ∃ x7 x8, σ = [some (.ref a), some (.int n), some (.ref l), some (.ref ai), some (.ref ao), none, none, x7, x8] ∧ RS [(PT, qR)] a b H (m + 1) G ∧ NXs a b A5 G) ⟨_, _, rfl, r5, Ex.refl _⟩ (fun i σ G _ ⟨_, _, _, _, e⟩ => SqL.of (hid_ex _ _ (nt_le _ _ (e _ _ bu5)))) ?_ ?_
      · rintro i o σ G ho ⟨x7, x8, rfl, rG, nG⟩
        have oI := odd5 o (mem_of_get ho)
        refine ⟨rG.t, fun B3 eN t3 => ?_⟩
        have r6 := rG.N eN t3
        have n6 : NXs a b A5 B3 := Ex.trans nG (nxs_N eN)
        refine ⟨_, rfl, _, rfl, _, rfl, _, rfl, _, rfl, by show 2 ≤ sizeLine; decide, fun p2 hp2 => ?_⟩
        have v1 := Ex.new (o := .lst [o, V.non]) hp2
        have i1 : upd B3 p2 (.lst [o, V.non]) p2 = some (.lst [o, V.non]) := upd_same
        generalize upd B3 p2 (.lst [o, V.non]) = B1 at v1 i1 ⊢
        have rB1 := r6.ex v1
        refine ⟨ao, p2, _, _, rfl, rfl, Go rB1, i1, sz_le (by rw [hmo]; show _ + 2 ≤ _; omega), fun bd hbd => ?_⟩
        have v2 := Ex.new (o := .lst (os.map V.int ++ [o, V.non])) hbd
        have i3 : upd B1 bd (.lst (os.map V.int ++ [o, V.non])) bd = some (.lst (os.map V.int ++ [o, V.non])) := upd_same
        generalize upd B1 bd (.lst (os.map V.int ++ [o, V.non])) = B2 at v2 i3 ⊢
        have r7 := rB1.ex v2
        have n7 : NXs a b A5 B2 := Ex.trans n6 (nt_mono (hid_mono (v1.trans v2)))
        have drA : DrArg K n B2 (.ref bd) is (fun i => i = os.length) (fun _ => False) :=
          .inr ⟨bd, _, rfl, .inl (SqL.of i3), .inr ⟨os, by omega, nO, hdr.oArg, .inr ⟨o, [V.non], rfl, oI.ex n7.at, rfl⟩⟩⟩
        refine fun x dx nx ndx nex => part_tellO nx ndx hn1 (.inl (SqL.of (Gl r7))) (rdall_st (GD r7) hWb.ok) hWb.nd (by omega) (.inl (SqL.of (Gi r7))) hdr drA fun B4 p7 e7 hp7 => ?_
        have v8 := Ex.new (o := .tup [V.str "outs", V.int (os.length : Int)]) hp7
        have i8 : upd B4 p7 (.tup [V.str "outs", V.int (os.length : Int)]) p7 = some (.tup [V.str "outs", V.int (os.length : Int)]) := upd_same
        generalize upd B4 p7 (.tup [V.str "outs", V.int (os.length : Int)]) = B5 at v8 i8 ⊢
        have r8 := r7.ex (e7.trans v8)
        refine ⟨_, rfl, ao, _, rfl, .inl (SqL.of (Go r8)), by show 2 ≤ sizeLine; decide, fun p9 hp9 => ?_⟩
        rw [hmo]
        have v9 := Ex.new (o := .tup [V.str "outs", V.int (os.length : Int)]) hp9
        refine ⟨_, _, pairD_dp (v9 _ _ i8), pairD_dp upd_same, pairD_sh ok_outs _, pairD_sh ok_outs _, _, rfl, ?_⟩
        rw [pairD_eq]
        refine iteF ?_
        exact ⟨_, _, rfl, r8.ex v9, Ex.trans n7 (nt_mono (hid_mono ((e7.trans v8).trans v9)))⟩
      · rintro σ G ⟨x7, x8, rfl, rG, _⟩
        exact ⟨_, _, rfl, rG⟩
    rintro σ G2 ⟨x7', x8', rfl, r2⟩
    -- no doors at all
    refine ⟨fun σ G => ∃ x5 x7 x8, σ = [some (.ref a), some (.int n), some (.ref l), some (.ref ai), some (.ref ao), x5, none, x7, x8] ∧ RS [(PT, qR)] a b H (m + 1) G, ?_, ?_⟩
    · refine ⟨by show 0 ≤ sizeLine; decide, fun l5 hl5 => ⟨by show 0 ≤ sizeLine; decide, fun t5 ht5 => fun d5 hd5 => ⟨by show 8 ≤ sizeLine; decide, fun u5 hu5 => ?_⟩⟩⟩
      have y1 := Ex.new (o := .lst []) hl5
      have j1 : upd G2 l5 (.lst []) l5 = some (.lst []) := upd_same
      generalize upd G2 l5 (.lst []) = A1 at y1 j1 ht5 hd5 hu5 ⊢
      have y2 := Ex.new (o := .tup []) ht5
      have j2 : upd A1 t5 (.tup []) t5 = some (.tup []) := upd_same
      generalize upd A1 t5 (.tup []) = A2 at y2 j2 hd5 hu5 ⊢
      have y3 := Ex.new (o := .dK []) hd5
      have j3 : upd A2 d5 (.dK []) d5 = some (.dK []) := upd_same
      generalize upd A2 d5 (.dK []) = A3 at y3 j3 hu5 ⊢
      generalize hLs : ([V.non, V.int 5, V.str "01", V.ref l5, V.ref t5, V.ref d5, V.bl true, V.ref fD] : List V) = Ls
      have y4 := Ex.new (o := .lst Ls) hu5
      have j4 : upd A3 u5 (.lst Ls) u5 = some (.lst Ls) := upd_same
      refine ⟨u5, rfl, ⟨_, SqL.of j4⟩, ?_⟩
      generalize upd A3 u5 (.lst Ls) = A4 at y4 j4 ⊢
      have E4 := y1.trans (y2.trans (y3.trans y4))
      have r5 := r2.ex E4
      have put : ∀ {p : Addr} {o : HO}, G2 p = none → A4 p = some o → (∀ ps, o ≠ .tbl ps) → nt (hid a b A4) p = some o := fun h0 h nn => nt_of (by rw [hid_ne (r2.s.nea h0) (r2.s.neb h0)]; exact h) nn
      have bu5 := put (fresh_back (y1.trans (y2.trans y3)) hu5) j4 fun ps z => nomatch z
      have odd5 : ∀ o ∈ Ls, OddN K (nt (hid a b A4)) o := fun o ho => by
        rw [← hLs] at ho
        simp only [List.mem_cons, List.not_mem_nil, or_false] at ho
        rcases ho with rfl | rfl | rfl | rfl | rfl | rfl | rfl | rfl
        · exact .inl (lk_dp (d := .none) .non)
        · exact .inl (lk_dp (d := .int 5) (.int 5))
        · exact .inl (lk_dp (d := .str _) (.str _))
        · exact .inr ⟨l5, rfl, .inl (SqL.of (put hl5 ((y2.trans (y3.trans y4)) _ _ j1) fun ps z => nomatch z))⟩
        · exact .inr ⟨t5, rfl, .inr (SqT.of (put (fresh_back y1 ht5) ((y3.trans y4) _ _ j2) fun ps z => nomatch z))⟩
        · exact .inl (lk_dict (put (fresh_back (y1.trans y2) hd5) (y4 _ _ j3) fun ps z => nomatch z))
        · exact .inl (lk_dp (d := .bool true) (.bl true))
        · exact .inl (lk_fnv vD)
      refine for_list (K := K) (a := u5) (xs := Ls) (fun i σ G => ∃ x5 x7 x8, σ = [some (.ref a), some (.int n), some (.ref l), some (.ref ai), some (.ref ao), x5, none, x7, x8] ∧ RS [(PT, qR)] a b H (m + 1) G ∧ NXs a b A4 G) ⟨_, _, _, rfl, r5, Ex.refl _⟩ (fun i σ G _ ⟨_, _, _, _, _, e⟩ => SqL.of (hid_ex _ _ (nt_le _ _ (e _ _ bu5)))) ?_ ?_
      · rintro i o σ G ho ⟨x5, x7, x8, rfl, rG, nG⟩
        have oI := odd5 o (mem_of_get ho)
        refine ⟨rG.t, fun B3 eN t3 => ?_⟩
        have r6 := rG.N eN t3
        have n6 : NXs a b A4 B3 := Ex.trans nG (nxs_N eN)
        refine ⟨_, rfl, _, rfl, _, rfl, fun x dx nx ndx nex => part_tellI (j := 0) nx ndx hn1 (.inl (SqL.of (Gl r6))) (rdall_st (GD r6) hWb.ok) hWb.nd (by omega) (oI.arg n6.at) fun B4 p7 e7 hp7 => ?_⟩
        have v8 := Ex.new (o := .tup [V.str "ins", V.int ((0 : Nat) : Int)]) hp7
        have i8 : upd B4 p7 (.tup [V.str "ins", V.int ((0 : Nat) : Int)]) p7 = some (.tup [V.str "ins", V.int ((0 : Nat) : Int)]) := upd_same
        generalize upd B4 p7 (.tup [V.str "ins", V.int ((0 : Nat) : Int)]) = B5 at v8 i8 ⊢
        refine ⟨by show 1 ≤ sizeLine; decide, fun fl hfl => ?_⟩
        have v9 := Ex.new (o := .lst [V.ref p7]) hfl
        have i9 : upd B5 fl (.lst [V.ref p7]) fl = some (.lst [V.ref p7]) := upd_same
        have rB5 := r6.ex (e7.trans v8)
        have nB5 : NXs a b A4 B5 := Ex.trans n6 (nt_mono (hid_mono (e7.trans v8)))
        have fla := rB5.s.nea hfl
        have flb := rB5.s.neb hfl
        generalize upd B5 fl (.lst [V.ref p7]) = B6 at v9 i9 ⊢
        have r9 := rB5.ex v9
        have n9 : NXs a b A4 B6 := Ex.trans nB5 (nt_mono (hid_mono v9))
        have i89 := v9 _ _ i8
        refine ⟨_, rfl, .inl ⟨rfl, _, SqL.of i9⟩, r9.t, fun C1 eM tM => ?_⟩
        have r10 := r9.N eM tM
        have n10 : NXs a b A4 C1 := Ex.trans n9 (nxs_N eM)
        refine ⟨_, rfl, _, rfl, _, rfl, _, rfl, fun x2 dx2 nx2 ndx2 nex2 => part_tellO (j := 0) nx2 ndx2 hn1 (.inl (SqL.of (Gl r10))) (rdall_st (GD r10) hWb.ok) hWb.nd (by omega) (.inl (SqL.of (Gi r10))) hdr (oI.arg n10.at) fun C2 p11 e11 hp11 => ?_⟩
        have w1 := Ex.new (o := .tup [V.str "outs", V.int ((0 : Nat) : Int)]) hp11
        have g1 : upd C2 p11 (.tup [V.str "outs", V.int ((0 : Nat) : Int)]) p11 = some (.tup [V.str "outs", V.int ((0 : Nat) : Int)]) := upd_same
        generalize upd C2 p11 (.tup [V.str "outs", V.int ((0 : Nat) : Int)]) = C3 at w1 g1 ⊢
        have e13 := e11.trans w1
        have r11 := r10.ex e13
        have n11 : NXs a b A4 C3 := Ex.trans n10 (nt_mono (hid_mono e13))
        have gf : C3 fl = some (.lst [V.ref p7]) := e13 _ _ (eM _ _ i9 fun ps z => nomatch z)
        have gp : C3 p7 = some (.tup [V.str "ins", V.int ((0 : Nat) : Int)]) := e13 _ _ (eM _ _ i89 fun ps z => nomatch z)
        refine ⟨fl, [V.ref p7], _, rfl, rfl, gf, by show 1 < sizeLine; decide, ?_⟩
        have r12 := r11.mut (ys := [V.ref p7] ++ [V.ref p11]) gf (fun x o z => ne_of_none (rB5.at _ _ z) hfl) fla flb
        have n12 := n11.mut (xs := [V.ref p7]) (p := fl) (ys := [V.ref p7] ++ [V.ref p11]) (fun x o z => ne_of_none (nB5.at _ _ z) hfl) fla flb
        have f12 : upd C3 fl (.lst ([V.ref p7] ++ [V.ref p11])) fl = some (.lst ([V.ref p7] ++ [V.ref p11])) := upd_same
        have p7f : p7 ≠ fl := ne_of_none i8 hfl
        have p11f : p11 ≠ fl := fun z => by
          rw [z, gf] at g1
          cases g1
        have gp2 : upd C3 fl (.lst ([V.ref p7] ++ [V.ref p11])) p7 = some (.tup [V.str "ins", V.int ((0 : Nat) : Int)]) := by rw [upd_ne p7f]; exact gp
        have gp3 : upd C3 fl (.lst ([V.ref p7] ++ [V.ref p11])) p11 = some (.tup [V.str "outs", V.int ((0 : Nat) : Int)]) := by rw [upd_ne p11f]; exact g1
        generalize upd C3 fl (.lst ([V.ref p7] ++ [V.ref p11])) = C4 at r12 n12 f12 gp2 gp3 ⊢
        refine ⟨_, rfl, by show 2 ≤ sizeLine; decide, fun q1 hq1 => ⟨by show 2 ≤ sizeLine; decide, fun q2 hq2 => ⟨by show 2 ≤ sizeLine; decide, fun q3 hq3 => ?_⟩⟩⟩
        have z1 := Ex.new (o := .tup [V.str "ins", V.int 0]) hq1
        have h1 : upd C4 q1 (.tup [V.str "ins", V.int 0]) q1 = some (.tup [V.str "ins", V.int 0]) := upd_same
        generalize upd C4 q1 (.tup [V.str "ins", V.int 0]) = C5 at z1 h1 hq2 hq3 ⊢
        have z2 := Ex.new (o := .tup [V.str "outs", V.int 0]) hq2
        have h2 : upd C5 q2 (.tup [V.str "outs", V.int 0]) q2 = some (.tup [V.str "outs", V.int 0]) := upd_same
        generalize upd C5 q2 (.tup [V.str "outs", V.int 0]) = C6 at z2 h2 hq3 ⊢
        have z3 := Ex.new (o := .lst [V.ref q1, V.ref q2]) hq3
        have e6 := z1.trans (z2.trans z3)
        refine ⟨twoD, twoD, twoD_dp (e6 _ _ f12) (e6 _ _ gp2) (e6 _ _ gp3), twoD_dp upd_same ((z2.trans z3) _ _ h1) (z3 _ _ h2), twoD_sh, twoD_sh, _, rfl, ?_⟩
        rw [twoD_eq]
        refine iteF ?_
        exact ⟨_, _, _, rfl, r12.ex e6, Ex.trans n12 (nt_mono (hid_mono e6))⟩
      · rintro σ G ⟨x5, x7, x8, rfl, rG, _⟩
        exact ⟨_, _, _, rfl, rG⟩
    rintro σ G3 ⟨x5, x7, x8, rfl, r3⟩
    -- no number of places
    refine ⟨fun σ G => ∃ x5 x7 x8, σ = [some (.ref a), some (.int n), some (.ref l), some (.ref ai), some (.ref ao), x5, none, x7, x8] ∧ RS [(PT, qR)] a b H (m + 1) G, ?_, ?_⟩
    · refine ⟨_, rfl, by show 1 ≤ sizeLine; decide, fun t5 ht5 => fun d5 hd5 => ⟨by show 7 ≤ sizeLine; decide, fun u5 hu5 => ?_⟩⟩
      have y1 := Ex.new (o := .tup [V.int 1]) ht5
      have j1 : upd G3 t5 (.tup [V.int 1]) t5 = some (.tup [V.int 1]) := upd_same
      generalize upd G3 t5 (.tup [V.int 1]) = A1 at y1 j1 hd5 hu5 ⊢
      have y3 := Ex.new (o := .dK []) hd5
      have j3 : upd A1 d5 (.dK []) d5 = some (.dK []) := upd_same
      generalize upd A1 d5 (.dK []) = A3 at y3 j3 hu5 ⊢
      generalize hLs : ([V.non, V.int 0, V.int (-1), V.bl true, V.str "1", V.ref t5, V.ref d5] : List V) = Ls
      have y4 := Ex.new (o := .lst Ls) hu5
      have j4 : upd A3 u5 (.lst Ls) u5 = some (.lst Ls) := upd_same
      refine ⟨u5, rfl, ⟨_, SqL.of j4⟩, ?_⟩
      generalize upd A3 u5 (.lst Ls) = A4 at y4 j4 ⊢
      have E4 := y1.trans (y3.trans y4)
      have r5 := r3.ex E4
      have put : ∀ {p : Addr} {o : HO}, G3 p = none → A4 p = some o → (∀ ps, o ≠ .tbl ps) → nt (hid a b A4) p = some o := fun h0 h nn => nt_of (by rw [hid_ne (r3.s.nea h0) (r3.s.neb h0)]; exact h) nn
      have bu5 := put (fresh_back (y1.trans y3) hu5) j4 fun ps z => nomatch z
      have odd5 : ∀ o ∈ Ls, OddP K CR R (nt (hid a b A4)) o := fun o ho => by
        rw [← hLs] at ho
        simp only [List.mem_cons, List.not_mem_nil, or_false] at ho
        rcases ho with rfl | rfl | rfl | rfl | rfl | rfl | rfl
        · exact oddp_dp (d := .none) .non rfl rfl (by decide)
        · exact oddp_int (by decide)
        · exact oddp_int (by decide)
        · exact oddp_dp (d := .bool true) (.bl true) rfl rfl (by decide)
        · exact oddp_dp (d := .str _) (.str _) rfl (by decide +kernel) (by decide)
        · exact oddp_dp (d := .tuple [.int 1]) (.tup (SqT.of (put ht5 ((y3.trans y4) _ _ j1) fun ps z => nomatch z)) (.cons (.int 1) .nil)) rfl rfl (by decide)
        · exact oddp_dict (put (fresh_back y1 hd5) (y4 _ _ j3) fun ps z => nomatch z)
      refine for_list (K := K) (a := u5) (xs := Ls) (fun i σ G => ∃ x5 x7 x8, σ = [some (.ref a), some (.int n), some (.ref l), some (.ref ai), some (.ref ao), x5, none, x7, x8] ∧ RS [(PT, qR)] a b H (m + 1) G ∧ NXs a b A4 G) ⟨_, _, _, rfl, r5, Ex.refl _⟩ (fun i σ G _ ⟨_, _, _, _, _, e⟩ => SqL.of (hid_ex _ _ (nt_le _ _ (e _ _ bu5)))) ?_ ?_
      · rintro i o σ G ho ⟨x5, x7, x8, rfl, rG, nG⟩
        obtain ⟨ob, oS⟩ := odd5 o (mem_of_get ho)
        refine ⟨rG.t, fun A6 eN t6 => ?_⟩
        have r6 := rG.N eN t6
        have n6 : NXs a b A4 A6 := Ex.trans nG (nxs_N eN)
        refine ⟨_, rfl, fun x dx nx ndx nex => part_tellP nx ndx (ob.imp (fun z => z.ex n6.at) id) fun A8 p8 e8 hp8 => ?_⟩
        have v2 := Ex.new (o := .tup [V.str "places", o]) hp8
        have i2 : upd A8 p8 (.tup [V.str "places", o]) p8 = some (.tup [V.str "places", o]) := upd_same
        generalize upd A8 p8 (.tup [V.str "places", o]) = A9 at v2 i2 ⊢
        refine ⟨_, rfl, by show 2 ≤ sizeLine; decide, fun p10 hp10 => ?_⟩
        have v3 := Ex.new (o := .tup [V.str "places", o]) hp10
        have i3 : upd A9 p10 (.tup [V.str "places", o]) p10 = some (.tup [V.str "places", o]) := upd_same
        generalize upd A9 p10 (.tup [V.str "places", o]) = A10 at v3 i3 ⊢
        have e10 := e8.trans (v2.trans v3)
        have emb10 : Ex (nt (hid a b A4)) A10 := Ex.trans (Ex.trans n6 (nt_mono (hid_mono e10))) (nt_le.trans hid_ex)
        have sS : Sm K CR R A10 6 (.str "places") (.str "places") := .inl ⟨rfl, by decide +kernel⟩
        refine ⟨.ref p8, .ref p10, rfl, .inr (.inr (.inl ⟨p8, p10, _, _, rfl, rfl, SqT.of (v3 _ _ i2), SqT.of i3, .cons sS (.cons (oS _ emb10) .nil), by show 2 ≤ 1000000; decide⟩)), fun A11 e11 => ⟨_, rfl, iteF ?_⟩⟩
        exact ⟨_, _, _, rfl, r6.ex (e10.trans e11), Ex.trans n6 (nt_mono (hid_mono (e10.trans e11)))⟩
      · rintro σ G ⟨x5, x7, x8, rfl, rG, _⟩
        exact ⟨_, _, _, rfl, rG⟩
    rintro σ G4 ⟨x5', x7'', x8'', rfl, r4⟩
    -- no step among them
    refine ⟨_, rfl, _, rfl, l, vs0, rfl, .inl (SqL.of (Gl r4)), _, _, rfl, rfl, a, b, m + 1, _, rfl, r4.s, by omega, by omega, by omega, fun G5 at_ e5 s5 at0 at1 => ?_⟩
    have r5 := r4.go e5 s5
    obtain ⟨atn, rfl⟩ : ∃ j : Nat, at_ = (j : Int) := ⟨at_.toNat, by omega⟩
    have atl : atn ≤ ss.length := by omega
    refine ⟨r5.t, fun A0 eN t6 => ?_⟩
    have r6 := r5.N eN t6
    refine ⟨_, rfl, _, rfl, _, rfl, _, rfl, l, vs0, rfl, SqL.of (Gl r6), fun p1 hp1 => ?_⟩
    have hc1 : cutV vs0 none (some (atn : Int)) = vs0.take atn := cut_to vs0 atn
    have hc2 : cutV vs0 (some (atn : Int)) none = vs0.drop atn := cut_fr vs0 atn
    rw [hc1]
    have y1 := Ex.new (o := .lst (vs0.take atn)) hp1
    have j1 : upd A0 p1 (.lst (vs0.take atn)) p1 = some (.lst (vs0.take atn)) := upd_same
    generalize upd A0 p1 (.lst (vs0.take atn)) = A1 at y1 j1 ⊢
    refine ⟨by show 1 ≤ sizeLine; decide, fun p2 hp2 => ?_⟩
    have y2 := Ex.new (o := .lst [V.non]) hp2
    have j2 : upd A1 p2 (.lst [V.non]) p2 = some (.lst [V.non]) := upd_same
    generalize upd A1 p2 (.lst [V.non]) = A2 at y2 j2 ⊢
    have tl : (vs0.take atn).length ≤ 100 := by
      have := List.length_take_le' atn vs0
      omega
    have dl : (vs0.drop atn).length ≤ 100 := by
      rw [List.length_drop]
      omega
    refine ⟨p1, p2, _, _, rfl, rfl, y2 _ _ j1, j2, sz_le (by show _ + 1 ≤ _; omega), fun p3 hp3 => ?_⟩
    have y3 := Ex.new (o := .lst (vs0.take atn ++ [V.non])) hp3
    have j3 : upd A2 p3 (.lst (vs0.take atn ++ [V.non])) p3 = some (.lst (vs0.take atn ++ [V.non])) := upd_same
    generalize upd A2 p3 (.lst (vs0.take atn ++ [V.non])) = A3 at y3 j3 ⊢
    refine ⟨_, rfl, _, rfl, _, rfl, l, vs0, rfl, SqL.of ((y1.trans (y2.trans y3)) _ _ (Gl r6)), fun p4 hp4 => ?_⟩
    rw [hc2]
    have y4 := Ex.new (o := .lst (vs0.drop atn)) hp4
    have j4 : upd A3 p4 (.lst (vs0.drop atn)) p4 = some (.lst (vs0.drop atn)) := upd_same
    generalize upd A3 p4 (.lst (vs0.drop atn)) = A4 at y4 j4 ⊢
    refine ⟨p3, p4, _, _, rfl, rfl, y4 _ _ j3, j4, sz_le (by rw [List.length_append]; show _ + 1 + _ ≤ _; omega), fun bd hbd => ?_⟩
    have y5 := Ex.new (o := .lst ((vs0.take atn ++ [V.non]) ++ vs0.drop atn)) hbd
    have j5 : upd A4 bd (.lst ((vs0.take atn ++ [V.non]) ++ vs0.drop atn)) bd = some (.lst ((vs0.take atn ++ [V.non]) ++ vs0.drop atn)) := upd_same
    generalize upd A4 bd (.lst ((vs0.take atn ++ [V.non]) ++ vs0.drop atn)) = A5 at y5 j5 ⊢
    have r7 := r6.ex (y1.trans (y2.trans (y3.trans (y4.trans y5))))
    have stA : StArg K n A5 (.ref bd) (fun i => i = atn) (fun _ => False) := by
      refine .inr ⟨bd, _, ss.take atn, rfl, .inl (SqL.of j5), hWb.nd.sublist (List.take_sublist _ _), by have := List.length_take_le' atn ss; omega, .inr ⟨vs0.take atn, V.non, vs0.drop atn, by rw [List.append_assoc]; rfl, ?_, .inl (.inl (lk_dp (d := .none) .non)), by rw [List.length_take]; omega⟩⟩
      refine rdall_st ?_ fun t ht => hWb.ok t (List.mem_of_mem_take ht)
      have := dpa_take atn (GD r7)
      rw [← List.map_take] at this
      exact this
    refine fun x dx nx ndx nex => part_tellS nx ndx hn1 stA fun A7 p7 e7 hp7 => ?_
    have y8 := Ex.new (o := .tup [V.str "steps", V.int (atn : Int)]) hp7
    have j8 : upd A7 p7 (.tup [V.str "steps", V.int (atn : Int)]) p7 = some (.tup [V.str "steps", V.int (atn : Int)]) := upd_same
    generalize upd A7 p7 (.tup [V.str "steps", V.int (atn : Int)]) = A8 at y8 j8 ⊢
    refine ⟨_, rfl, by show 2 ≤ sizeLine; decide, fun p9 hp9 => ?_⟩
    have y9 := Ex.new (o := .tup [V.str "steps", V.int (atn : Int)]) hp9
    refine ⟨_, _, pairD_dp (y9 _ _ j8), pairD_dp upd_same, pairD_sh ok_steps_ _, pairD_sh ok_steps_ _, ?_⟩
    rw [pairD_eq]
    have r9 := r7.ex (e7.trans (y8.trans y9))
    exact k _ (r9.s.mono (by omega)) r9.t
end
end AA

set_option Elab.async false
set_option linter.all false
set_option maxRecDepth 100000
set_option maxHeartbeats 4000000
/-! law. -/
namespace AA
open PySem PySem.Spec PyProof.Rows L2 Evl
section
variable {P : Program} {w : World} {K : PySem.W.Frag} {mg : Str → Option Value} {base : Heap}
def spLaw09 (K : PySem.W.Frag) (PT : Addr) : Sp := fun vs H Q _ => ∃ (s : Addr) (ns : List Int), vs = [.ref s] ∧ SqL K H s (ns.map V.int) ∧ ns.length ≤ 63 ∧ LamX.Tabs [(PT, qR)] H ∧ ∀ H', Q (.bl true) H'
theorem scLaw : FnScope ["_law_script", "_law_stream_here", "_law_turn", "_law_places", "_law_steps", "_law_ins", "_law_outs"] ["_law_script"] (defScope sLaw) := ⟨rfl, rfl, rfl, by decide +kernel, rfl, by decide +kernel, by decide +kernel⟩
theorem ok_law {f PT : Addr} {fd : FuncData} (F : L2.Fun K "law" "law" sLaw f fd) (B : Bn mg)
    (cSt : C8.Cal P w K mg base 1 "_law_stream" (spStream K) []) (cD : C8.Cal P w K mg base 1 "_law_draw" spDraw []) (cW : C8.Cal P w K mg base 5 "_law_part" (spPart K) []) (cMd : C8.Cal P w K mg base 10 "_law_made_right" (spMadeP K) []) (cUn : C8.Cal P w K mg base 10 "_law_unlike_right" (spUnP K) []) (cRf : C8.Cal P w K mg base 11 "_law_refused_right" (spRefP K PT) []) :
    FnOk P w K mg base CX0 12 f fd ["_law_script"] (spLaw09 K PT) := by
  refine F.ok scLaw (fun vs H Q E h => ?_) (fun cdv A outer s H vs Q E hr h => ?_)
  · obtain ⟨s, ns, rfl, _⟩ := h
    rfl
  · obtain ⟨s0, ns, rfl, hS0, hns, hT, k⟩ := h
    refine ⟨_, pss_cons (ps_set (i := 1) scLaw.nd rfl (Or.inl rfl) (C8.pe_c cSt hr (by decide) (by rfl) (pa_cons (pv 0) pa_nil)))
      (pss_cons (ps_for PassesOwn.never rfl (pi_range1 (by rfl) B.range (pa_cons pe_int pa_nil)) (pg_name (i := 2) scLaw.nd rfl (Or.inl rfl))
        (pss_cons (ps_asg (C8.pe_c cW hr (by decide) (by rfl) (pa_cons (pv 1) (pa_cons pe_int (pa_cons pe_int (pa_cons (C8.pe_c cD hr (by decide) (by rfl) (pa_cons (pv 1) (pa_cons pe_int pa_nil))) pa_nil)))))
            (pg_tup (n := 4) rfl (pgs_cons (pg_name (i := 3) scLaw.nd rfl (Or.inl rfl)) (pgs_cons (pg_name (i := 4) scLaw.nd rfl (Or.inl rfl)) (pgs_cons (pg_name (i := 5) scLaw.nd rfl (Or.inl rfl)) (pgs_cons (pg_name (i := 6) scLaw.nd rfl (Or.inl rfl)) pgs_nil))))))
        (pss_cons (ps_if (pt_not (pt_val (C8.pe_c cMd hr (by decide) (by rfl) (pa_cons (pv 1) (pa_cons (pv 3) (pa_cons (pv 4) (pa_cons (pv 5) (pa_cons (pv 6) pa_nil)))))))) (pss_one (ps_ret pe_bl)) pss_nil)
        (pss_cons (ps_if (pt_not (pt_val (C8.pe_c cUn hr (by decide) (by rfl) (pa_cons (pv 1) (pa_cons (pv 3) (pa_cons (pv 4) (pa_cons (pv 5) (pa_cons (pv 6) pa_nil)))))))) (pss_one (ps_ret pe_bl)) pss_nil)
        (pss_one (ps_if (pt_not (pt_val (C8.pe_c cRf hr (by decide) (by rfl) (pa_cons (pv 1) (pa_cons (pv 3) (pa_cons (pv 4) (pa_cons (pv 5) (pa_cons (pv 6) pa_nil)))))))) (pss_one (ps_ret pe_bl)) pss_nil))))))
      (pss_one (ps_ret pe_bl))), ?_⟩
    refine ⟨_, rfl, s0, ns, rfl, hS0, hns, fun H0 a b e0 ha hb hst => ?_⟩
    refine ⟨(5 : Int), rfl, by decide, by decide, for_range (lo := 0) (n := ((5 : Int)).toNat) (fun i σ G => ∃ (x2 x3 x4 x5 x6 : Option V), σ = [some (.ref s0), some (.ref a), x2, x3, x4, x5, x6] ∧ ∃ m, m ≤ 40000 * i ∧ SAt G a b m ∧ LamX.Tabs [(PT, qR)] G) ?_ ?_ ?_⟩
    · exact ⟨none, none, none, none, none, rfl, 0, Nat.le_refl _, hst, hT.ext e0⟩
    · rintro i σ G hi ⟨x2, x3, x4, x5, x6, rfl, m, hm, hSG, hTG⟩
      have hi5 : i < 5 := hi
      refine ⟨_, rfl, _, rfl, a, b, m, 4, rfl, hSG, by omega, by decide, by decide, fun H1 y e1 s1 y0 y1 => ?_⟩
      have t1 := tabs_S hTG hSG e1
      refine ⟨a, b, m + 1, 6, 14, y, rfl, s1, by omega, by decide, by decide, by decide, by decide, fun H2 p l li lo kk vs ss is os e2 s2 hp0 hl0 hi0 ho0 hp hl hD hli hlo hWb hdr hk6 hlen => ?_⟩
      refine ⟨p, _, rfl, SqT.of hp, rfl, _, _, rfl, _, _, rfl, _, _, rfl, _, _, rfl, rfl, ?_⟩
      have t2 := tabs_S t1 s1 e2
      have bl : hid a b H2 l = some (.lst vs) := by
        rw [hid_ne (s1.nea hl0) (s1.neb hl0)]
        exact hl
      have bi : hid a b H2 li = some (.lst (is.map V.int)) := by
        rw [hid_ne (s1.nea hi0) (s1.neb hi0)]
        exact hli
      have bo : hid a b H2 lo = some (.lst (os.map V.int)) := by
        rw [hid_ne (s1.nea ho0) (s1.neb ho0)]
        exact hlo
      have hsz : ss.length ≤ 100 := by omega
      refine ⟨_, rfl, _, rfl, _, rfl, _, rfl, _, rfl, a, b, m + 1 + 20000, kk, l, li, lo, vs, ss, is, os, rfl, by omega, ⟨s2, bl, bi, bo, hD⟩, hWb, hsz, hdr, fun H3 e3 s3 => ⟨_, rfl, iteF ?_⟩⟩
      have t3 := tabs_S t2 s2 e3
      have hD3 : DpAll K (tps H3) vs (ss.map stD) := dpa_ex (tps_hid e3 s2) _ _ hD
      refine ⟨_, rfl, _, rfl, _, rfl, _, rfl, _, rfl, .ref a, kk, l, li, lo, vs, ss, is, os, rfl, hid_ex _ _ (e3 _ _ bl), hid_ex _ _ (e3 _ _ bi), hid_ex _ _ (e3 _ _ bo), dpa_ex tps_le _ _ hD3, hWb, hsz, by omega, hdr, fun H4 e4 => ⟨_, rfl, iteF ?_⟩⟩
      have k4 : ExS a b H2 H4 := e3.trans (hid_mono e4)
      refine ⟨_, rfl, _, rfl, _, rfl, _, rfl, _, rfl, a, b, m + 1 + 20000 + 10000, kk, l, li, lo, vs, ss, is, os, rfl, by omega, t3.ext e4, ⟨s3.ex e4, k4 _ _ bl, k4 _ _ bi, k4 _ _ bo, dpa_ex (tps_mono e4) _ _ hD3⟩, hWb, hsz, hdr, fun H5 s5 t5 => ⟨_, rfl, iteF ?_⟩⟩
      exact ⟨_, _, _, _, _, rfl, _, by omega, s5, t5⟩
    · rintro σ G ⟨x2, x3, x4, x5, x6, rfl, m, hm, hSG, hTG⟩
      exact k G
end
end AA

set_option Elab.async false
set_option linter.all false
set_option maxRecDepth 100000
set_option maxHeartbeats 4000000
namespace AA
open PySem PySem.Spec PyProof.Rows L2 Evl
/-- a def of the module as it stands behind the top -/
structure GFn (K : PySem.W.Frag) (x : Str) (st : Stmt) (f : Addr) (fd : FuncData) : Prop where
  a : PySem.W.nsIn K mainGlobals x = some (some (.ref f))
  F : L2.Fun K x x st f fd
theorem gfn {K : PySem.W.Frag} {x : Str} {st : Stmt} {f : Addr} {oc : Value} {od an : Option Addr} {osl : Array (Option Value)} {kV doc pm cdv ct : Value} (a : PySem.W.nsIn K mainGlobals x = some (some (.ref f)))
    (l : K.lookup f = some ⟨oc, od, .func (PySem.W.fnOf x x (defArgs st) (defBody st) (defScope st) .none kV doc pm an cdv ct), osl⟩) (c : PySem.W.codeIn K cdv x = true) (k : PySem.W.keepIn K (.ref f) = true) : ∃ f fd, GFn K x st f fd := ⟨_, _, a, fun_mk (st := st) l c k⟩
theorem gfnc {K : PySem.W.Frag} {x : Str} {st : Stmt} {f : Addr} {od an : Option Addr} {osl : Array (Option Value)} {kV doc pm cdv ct : Value} (a : PySem.W.nsIn K mainGlobals x = some (some (.ref f)))
    (l : K.lookup f = some ⟨.type "function", od, .func (PySem.W.fnOf x x (defArgs st) (defBody st) (defScope st) .none kV doc pm an cdv ct), osl⟩) (c : PySem.W.codeIn K cdv x = true) (k : PySem.W.keepIn K (.ref f) = true) : ∃ f fd, GFn K x st f fd ∧ FnV K f := ⟨_, _, ⟨a, fun_mk (st := st) l c k⟩, _, _, _, l⟩
structure MFn (K : PySem.W.Frag) (C : Addr) (x q : Str) (st : Stmt) (f : Addr) (fd : FuncData) : Prop where
  a : PySem.W.findIn K (.ref C) x = some (some (.ref f))
  i : PySem.W.isFn K (.ref f) = true
  F : L2.Fun K x q st f fd
theorem mfn {K : PySem.W.Frag} {C : Addr} {x q : Str} {st : Stmt} {f : Addr} {oc : Value} {od an : Option Addr} {osl : Array (Option Value)} {kV doc pm cdv ct : Value} (a : PySem.W.findIn K (.ref C) x = some (some (.ref f))) (i : PySem.W.isFn K (.ref f) = true)
    (l : K.lookup f = some ⟨oc, od, .func (PySem.W.fnOf x q (defArgs st) (defBody st) (defScope st) .none kV doc pm an cdv ct), osl⟩) (c : PySem.W.codeIn K cdv q = true) (k : PySem.W.keepIn K (.ref f) = true) : ∃ f fd, MFn K C x q st f fd := ⟨_, _, a, i, fun_mk (st := st) l c k⟩
structure BnK (K : PySem.W.Frag) : Prop where
  abs : PySem.W.nsIn K mainGlobals "abs" = some none
  int : PySem.W.nsIn K mainGlobals "int" = some none
  len : PySem.W.nsIn K mainGlobals "len" = some none
  list : PySem.W.nsIn K mainGlobals "list" = some none
  tuple : PySem.W.nsIn K mainGlobals "tuple" = some none
  dict : PySem.W.nsIn K mainGlobals "dict" = some none
  bool : PySem.W.nsIn K mainGlobals "bool" = some none
  range : PySem.W.nsIn K mainGlobals "range" = some none
  enumerate : PySem.W.nsIn K mainGlobals "enumerate" = some none
  isinstance : PySem.W.nsIn K mainGlobals "isinstance" = some none
  all : PySem.W.nsIn K mainGlobals "all" = some none
  zip : PySem.W.nsIn K mainGlobals "zip" = some none
  sorted : PySem.W.nsIn K mainGlobals "sorted" = some none
  max : PySem.W.nsIn K mainGlobals "max" = some none
  sum : PySem.W.nsIn K mainGlobals "sum" = some none
  repr : PySem.W.nsIn K mainGlobals "repr" = some none
  any : PySem.W.nsIn K mainGlobals "any" = some none
  min : PySem.W.nsIn K mainGlobals "min" = some none
/-- what stands of a class of the program -/
structure ClsK (K : PySem.W.Frag) (C : Addr) (nm : Str) : Prop where
  aC : PySem.W.nsIn K mainGlobals nm = some (some (.ref C))
  pg : PySem.W.plainGet K C Str.empty = true
  hd : PySem.W.hasDictIn K C = true
  po : PySem.W.plainOver K C = true
  sa : PySem.W.findIn K (.ref C) "__setattr__" = some (some (.builtin "object.__setattr__"))
  mkc : PySem.W.makesIn K C = true
  kc : PySem.W.keepIn K (.ref C) = true
  ha : PySem.W.findIn K (.ref C) "__class__" = some (some (.builtin "object.__class__"))
  hn : PySem.W.specialIn K (.builtin "object.__class__") "__get__" = some (some (.builtin "getset_descriptor.__get__"))
  ht : PySem.W.takesIn K (.builtin "object.__class__") = some true
  hm : PySem.W.mroIn K C (.type "object") = some true
  n1 : PySem.W.kitAny K (.ref C) [.type "list", .type "tuple"] = some false
  n2 : PySem.W.kitOne K (.ref C) (.type "dict") = some false
  n3 : PySem.W.kitOne K (.ref C) (.type "bool") = some false
  n4 : PySem.W.kitAny K (.ref C) [.type "list", .type "tuple", .type "dict"] = some false
  cc : PySem.W.kitOne K (.ref C) (.ref C) = some true
  ne : PySem.W.findIn K (.ref C) "__ne__" = some (some (.builtin "object.__ne__"))
structure WebN (K : PySem.W.Frag) (C : Addr) : Prop where
  nP : PySem.W.findIn K (.ref C) "_places" = some none
  nS : PySem.W.findIn K (.ref C) "_steps" = some none
  nK : PySem.W.findIn K (.ref C) "known" = some none
structure PtN (K : PySem.W.Frag) (CW C : Addr) : Prop where
  nW : PySem.W.findIn K (.ref C) "_web" = some none
  nI : PySem.W.findIn K (.ref C) "_ins" = some none
  nO : PySem.W.findIn K (.ref C) "_outs" = some none
  nK : PySem.W.findIn K (.ref C) "known" = some none
  f1 : PySem.W.notFirst K C (.type "NoneType") = true
  f2 : PySem.W.notFirst K C (.type "list") = true
  f3 : PySem.W.notFirst K C (.type "int") = true
  f4 : PySem.W.notFirst K C (.type "tuple") = true
  f5 : PySem.W.notFirst K C (.type "str") = true
  f6 : PySem.W.notFirst K C (.type "dict") = true
  f7 : PySem.W.notFirst K C (.ref CW) = true
  g1 : PySem.W.kitOne K (.type "NoneType") (.ref C) = some false
  g2 : PySem.W.kitOne K (.type "list") (.ref C) = some false
  g3 : PySem.W.kitOne K (.type "int") (.ref C) = some false
  g4 : PySem.W.kitOne K (.type "tuple") (.ref C) = some false
  g5 : PySem.W.kitOne K (.type "str") (.ref C) = some false
  g6 : PySem.W.kitOne K (.type "dict") (.ref C) = some false
  g7 : PySem.W.kitOne K (.ref CW) (.ref C) = some false
structure BadK (K : PySem.W.Frag) (x m : Str) (CB fI : Addr) : Prop where
  gC : PySem.W.nsIn K mainGlobals x = some (some (.ref CB))
  ox : OexC K CB
  xf : XfC K CB
  no : PySem.W.findIn K (.ref CB) m = some none
  tC : PySem.W.typeIn K (.ref fI) = some (.type "function")
theorem funC_mk {K : PySem.W.Frag} {x : Str} {st : Stmt} {f c : Addr} {oc : Value} {od an : Option Addr} {osl : Array (Option Value)} {kV doc pm ct : Value} (a : PySem.W.nsIn K mainGlobals x = some (some (.ref f)))
    (l : K.lookup f = some ⟨oc, od, .func (PySem.W.fnOf x x (defArgs st) (defBody st) (defScope st) .none kV doc pm an (.ref c) ct), osl⟩) (hc : PySem.W.codeIn K (.ref c) x = true) (k : PySem.W.keepIn K (.ref f) = true) : ∃ f fd c, PySem.W.nsIn K mainGlobals x = some (some (.ref f)) ∧ FunC K x st f fd c ∧ L2.Fun K x x st f fd :=
  ⟨_, _, _, a, ⟨⟨_, _, _, _, _, _, _, _, rfl, l, hc⟩, k⟩, fun_mk (st := st) l hc k⟩
theorem mg_base {base : Heap} {mg : Str → Option Value} {c PT : Addr} (C : PySem.W.CodeHd base c PT) (bm : base.BuiltinsAt mg PT) (n : mainGlobals ≠ PT) : LamX.TabB base mg c PT := ⟨C, bm, n⟩
theorem all_mk {l : PySem.W.OpenLaw} {w : World} {K : PySem.W.Frag} {h : Heap} {mg : Str → Option Value} {fa CW C CP CS CI CO PT : Addr} (X : K.In h) (G : h.Ns mainGlobals mg) (hfa : mg "law" = some (.ref fa)) (hPT : h.get? PT = some { cls := .none, data := .fields #[] }) (nPT : K.lookup PT = none)
    (bk : BnK K) (cw : ClsK K CW "Web") (cp : ClsK K C "Part") (wn : WebN K CW) (pn : PtN K CW C) (ex : ExmK K CP CS CI CO)
    (hsIsInteger : ∃ f fd, GFn K "is_integer" sIsInteger f fd)
    (hsIsList : ∃ f fd, GFn K "is_list" sIsList f fd)
    (hsReadStep : ∃ f fd, GFn K "read_step" sReadStep f fd)
    (hsReadSteps : ∃ f fd, GFn K "read_steps" sReadSteps f fd)
    (hsFirstWrong : ∃ f fd, GFn K "first_wrong" sFirstWrong f fd)
    (hsStream : ∃ f fd, GFn K "_law_stream" sStream f fd)
    (hsDraw : ∃ f fd, GFn K "_law_draw" sDraw f fd ∧ FnV K f)
    (hsPick : ∃ f fd, GFn K "_law_pick" sPick f fd)
    (hsMixed : ∃ f fd, GFn K "_law_mixed" sMixed f fd)
    (hsSame : ∃ f fd, GFn K "_law_same" sSame f fd)
    (hsLoose : ∃ f fd, GFn K "_law_loose" sLoose f fd)
    (hsAmounts : ∃ f fd, GFn K "_law_amounts" sAmounts f fd)
    (hsStep : ∃ f fd, GFn K "_law_step" sStep f fd)
    (hsPart : ∃ f fd, GFn K "_law_part" sPart f fd)
    (hsTried : ∃ f fd, GFn K "_law_tried" sTried f fd)
    (hsMadeRight : ∃ f fd, GFn K "_law_made_right" sMadeRight f fd)
    (hsUnlikeRight : ∃ f fd, GFn K "_law_unlike_right" sUnlikeRight f fd)
    (hsLaw : ∃ f fd, GFn K "law" sLaw f fd)
    (hRef : ∃ f fd c, PySem.W.nsIn K mainGlobals "_law_refused_right" = some (some (.ref f)) ∧ FunC K "_law_refused_right" sRefusedRight f fd c ∧ L2.Fun K "_law_refused_right" "_law_refused_right" sRefusedRight f fd ∧ PySem.W.codeHdIn K c PT = true)
    (hWi : ∃ f fd, MFn K CW "__init__" "Web.__init__" sWebInit f fd)
    (hWp : ∃ f fd, MFn K CW "places" "Web.places" sWebPlaces f fd)
    (hWs : ∃ f fd, MFn K CW "steps" "Web.steps" sWebSteps f fd)
    (hWe : ∃ f fd, MFn K CW "__eq__" "Web.__eq__" sWebEq f fd)
    (hPi : ∃ f fd, MFn K C "__init__" "Part.__init__" sPartInit f fd)
    (hPw : ∃ f fd, MFn K C "web" "Part.web" sPartWeb f fd)
    (hPn : ∃ f fd, MFn K C "ins" "Part.ins" sPartIns f fd)
    (hPo : ∃ f fd, MFn K C "outs" "Part.outs" sPartOuts f fd)
    (hPe : ∃ f fd, MFn K C "__eq__" "Part.__eq__" sPartEq f fd)
    (hBadP : ∃ f fd, MFn K CP "__init__" "BadPlaces.__init__" sBadPlInit f fd ∧ BadK K "BadPlaces" "places" CP f)
    (hBadS : ∃ f fd, MFn K CS "__init__" "BadSteps.__init__" sBadStInit f fd ∧ BadK K "BadSteps" "index" CS f)
    (hBadI : ∃ f fd, MFn K CI "__init__" "BadIns.__init__" sBadInInit f fd ∧ BadK K "BadIns" "index" CI f)
    (hBadO : ∃ f fd, MFn K CO "__init__" "BadOuts.__init__" sBadOuInit f fd ∧ BadK K "BadOuts" "index" CO f) :
    LamX.LawAtS l w K C8.CX0 12 63 "_law_script" mg fa h := by
  obtain ⟨f_sIsInteger, d_sIsInteger, g_sIsInteger⟩ := hsIsInteger
  have m_sIsInteger := PySem.W.mg_of X G g_sIsInteger.a
  have b_sIsInteger : Binds K d_sIsInteger ["thing"] [] := g_sIsInteger.F.binds fun _ _ _ _ _ _ us hl => match us, hl with | [_], _ => rfl
  obtain ⟨f_sIsList, d_sIsList, g_sIsList⟩ := hsIsList
  have m_sIsList := PySem.W.mg_of X G g_sIsList.a
  have b_sIsList : Binds K d_sIsList ["thing"] [] := g_sIsList.F.binds fun _ _ _ _ _ _ us hl => match us, hl with | [_], _ => rfl
  obtain ⟨f_sReadStep, d_sReadStep, g_sReadStep⟩ := hsReadStep
  have m_sReadStep := PySem.W.mg_of X G g_sReadStep.a
  have b_sReadStep : Binds K d_sReadStep ["places", "thing"] [] := g_sReadStep.F.binds fun _ _ _ _ _ _ us hl => match us, hl with | [_, _], _ => rfl
  obtain ⟨f_sReadSteps, d_sReadSteps, g_sReadSteps⟩ := hsReadSteps
  have m_sReadSteps := PySem.W.mg_of X G g_sReadSteps.a
  have b_sReadSteps : Binds K d_sReadSteps ["places", "things"] [] := g_sReadSteps.F.binds fun _ _ _ _ _ _ us hl => match us, hl with | [_, _], _ => rfl
  obtain ⟨f_sFirstWrong, d_sFirstWrong, g_sFirstWrong⟩ := hsFirstWrong
  have m_sFirstWrong := PySem.W.mg_of X G g_sFirstWrong.a
  have b_sFirstWrong : Binds K d_sFirstWrong ["places", "doors", "taken"] [] := g_sFirstWrong.F.binds fun _ _ _ _ _ _ us hl => match us, hl with | [_, _, _], _ => rfl
  obtain ⟨f_sStream, d_sStream, g_sStream⟩ := hsStream
  have m_sStream := PySem.W.mg_of X G g_sStream.a
  have b_sStream : Binds K d_sStream ["_law_script"] [] := g_sStream.F.binds fun _ _ _ _ _ _ us hl => match us, hl with | [_], _ => rfl
  obtain ⟨f_sDraw, d_sDraw, g_sDraw, vD⟩ := hsDraw
  have m_sDraw := PySem.W.mg_of X G g_sDraw.a
  have b_sDraw : Binds K d_sDraw ["_law_stream_here", "_law_many"] [] := g_sDraw.F.binds fun _ _ _ _ _ _ us hl => match us, hl with | [_, _], _ => rfl
  obtain ⟨f_sPick, d_sPick, g_sPick⟩ := hsPick
  have m_sPick := PySem.W.mg_of X G g_sPick.a
  have b_sPick : Binds K d_sPick ["_law_stream_here", "_law_things"] [] := g_sPick.F.binds fun _ _ _ _ _ _ us hl => match us, hl with | [_, _], _ => rfl
  obtain ⟨f_sMixed, d_sMixed, g_sMixed⟩ := hsMixed
  have m_sMixed := PySem.W.mg_of X G g_sMixed.a
  have b_sMixed : Binds K d_sMixed ["_law_stream_here", "_law_things"] [] := g_sMixed.F.binds fun _ _ _ _ _ _ us hl => match us, hl with | [_, _], _ => rfl
  obtain ⟨f_sSame, d_sSame, g_sSame⟩ := hsSame
  have m_sSame := PySem.W.mg_of X G g_sSame.a
  have b_sSame : Binds K d_sSame ["_law_found", "_law_due"] [] := g_sSame.F.binds fun _ _ _ _ _ _ us hl => match us, hl with | [_, _], _ => rfl
  obtain ⟨f_sLoose, d_sLoose, g_sLoose⟩ := hsLoose
  have m_sLoose := PySem.W.mg_of X G g_sLoose.a
  have b_sLoose : Binds K d_sLoose ["_law_stream_here", "_law_thing"] [] := g_sLoose.F.binds fun _ _ _ _ _ _ us hl => match us, hl with | [_, _], _ => rfl
  obtain ⟨f_sAmounts, d_sAmounts, g_sAmounts⟩ := hsAmounts
  have m_sAmounts := PySem.W.mg_of X G g_sAmounts.a
  have b_sAmounts : Binds K d_sAmounts ["_law_stream_here", "_law_way"] [] := g_sAmounts.F.binds fun _ _ _ _ _ _ us hl => match us, hl with | [_, _], _ => rfl
  obtain ⟨f_sStep, d_sStep, g_sStep⟩ := hsStep
  have m_sStep := PySem.W.mg_of X G g_sStep.a
  have b_sStep : Binds K d_sStep ["_law_stream_here", "_law_one", "_law_other", "_law_way"] [] := g_sStep.F.binds fun _ _ _ _ _ _ us hl => match us, hl with | [_, _, _, _], _ => rfl
  obtain ⟨f_sPart, d_sPart, g_sPart⟩ := hsPart
  have m_sPart := PySem.W.mg_of X G g_sPart.a
  have b_sPart : Binds K d_sPart ["_law_stream_here", "_law_most", "_law_many", "_law_way"] [] := g_sPart.F.binds fun _ _ _ _ _ _ us hl => match us, hl with | [_, _, _, _], _ => rfl
  obtain ⟨f_sTried, d_sTried, g_sTried⟩ := hsTried
  have m_sTried := PySem.W.mg_of X G g_sTried.a
  have b_sTried : Binds K d_sTried ["_law_ask"] [] := g_sTried.F.binds fun _ _ _ _ _ _ us hl => match us, hl with | [_], _ => rfl
  obtain ⟨f_sMadeRight, d_sMadeRight, g_sMadeRight⟩ := hsMadeRight
  have m_sMadeRight := PySem.W.mg_of X G g_sMadeRight.a
  have b_sMadeRight : Binds K d_sMadeRight ["_law_stream_here", "_law_places", "_law_steps", "_law_ins", "_law_outs"] [] := g_sMadeRight.F.binds fun _ _ _ _ _ _ us hl => match us, hl with | [_, _, _, _, _], _ => rfl
  obtain ⟨f_sUnlikeRight, d_sUnlikeRight, g_sUnlikeRight⟩ := hsUnlikeRight
  have m_sUnlikeRight := PySem.W.mg_of X G g_sUnlikeRight.a
  have b_sUnlikeRight : Binds K d_sUnlikeRight ["_law_stream_here", "_law_places", "_law_steps", "_law_ins", "_law_outs"] [] := g_sUnlikeRight.F.binds fun _ _ _ _ _ _ us hl => match us, hl with | [_, _, _, _, _], _ => rfl
  obtain ⟨f_sLaw, d_sLaw, g_sLaw⟩ := hsLaw
  have m_sLaw := PySem.W.mg_of X G g_sLaw.a
  have b_sLaw : Binds K d_sLaw ["_law_script"] [] := g_sLaw.F.binds fun _ _ _ _ _ _ us hl => match us, hl with | [_], _ => rfl
  obtain ⟨f_ref, d_ref, c, a_ref, FC_ref, F_ref, hcd⟩ := hRef
  have m_ref := PySem.W.mg_of X G a_ref
  have b_ref : Binds K d_ref ["_law_stream_here", "_law_places", "_law_steps", "_law_ins", "_law_outs"] [] := F_ref.binds fun _ _ _ _ _ _ us hl => match us, hl with | [_, _, _, _, _], _ => rfl
  obtain ⟨f_wi, d_wi, g_wi⟩ := hWi
  have b_wi : Binds K d_wi ["self", "places", "steps"] [] := g_wi.F.binds fun _ _ _ _ _ _ us hl => match us, hl with | [_, _, _], _ => rfl
  obtain ⟨f_wp, d_wp, g_wp⟩ := hWp
  have b_wp : Binds K d_wp ["self"] [] := g_wp.F.binds fun _ _ _ _ _ _ us hl => match us, hl with | [_], _ => rfl
  obtain ⟨f_ws, d_ws, g_ws⟩ := hWs
  have b_ws : Binds K d_ws ["self"] [] := g_ws.F.binds fun _ _ _ _ _ _ us hl => match us, hl with | [_], _ => rfl
  obtain ⟨f_we, d_we, g_we⟩ := hWe
  have b_we : Binds K d_we ["self", "other"] [] := g_we.F.binds fun _ _ _ _ _ _ us hl => match us, hl with | [_, _], _ => rfl
  obtain ⟨f_pi, d_pi, g_pi⟩ := hPi
  have b_pi : Binds K d_pi ["self", "places", "steps", "ins", "outs"] [] := g_pi.F.binds fun _ _ _ _ _ _ us hl => match us, hl with | [_, _, _, _, _], _ => rfl
  obtain ⟨f_pw, d_pw, g_pw⟩ := hPw
  have b_pw : Binds K d_pw ["self"] [] := g_pw.F.binds fun _ _ _ _ _ _ us hl => match us, hl with | [_], _ => rfl
  obtain ⟨f_pn, d_pn, g_pn⟩ := hPn
  have b_pn : Binds K d_pn ["self"] [] := g_pn.F.binds fun _ _ _ _ _ _ us hl => match us, hl with | [_], _ => rfl
  obtain ⟨f_po, d_po, g_po⟩ := hPo
  have b_po : Binds K d_po ["self"] [] := g_po.F.binds fun _ _ _ _ _ _ us hl => match us, hl with | [_], _ => rfl
  obtain ⟨f_pe, d_pe, g_pe⟩ := hPe
  have b_pe : Binds K d_pe ["self", "other"] [] := g_pe.F.binds fun _ _ _ _ _ _ us hl => match us, hl with | [_, _], _ => rfl
  obtain ⟨f_bp, d_bp, g_bp, k_bp⟩ := hBadP
  have b_bp : Binds K d_bp ["self", "places"] [] := g_bp.F.binds fun _ _ _ _ _ _ us hl => match us, hl with | [_, _], _ => rfl
  obtain ⟨f_bs, d_bs, g_bs, k_bs⟩ := hBadS
  have b_bs : Binds K d_bs ["self", "index"] [] := g_bs.F.binds fun _ _ _ _ _ _ us hl => match us, hl with | [_, _], _ => rfl
  obtain ⟨f_bi, d_bi, g_bi, k_bi⟩ := hBadI
  have b_bi : Binds K d_bi ["self", "index"] [] := g_bi.F.binds fun _ _ _ _ _ _ us hl => match us, hl with | [_, _], _ => rfl
  obtain ⟨f_bo, d_bo, g_bo, k_bo⟩ := hBadO
  have b_bo : Binds K d_bo ["self", "index"] [] := g_bo.F.binds fun _ _ _ _ _ _ us hl => match us, hl with | [_, _], _ => rfl
  have e := hfa.symm.trans m_sLaw
  cases e
  have B : Bn mg := { abs := PySem.W.mg_none_of X G bk.abs, int := PySem.W.mg_none_of X G bk.int, len := PySem.W.mg_none_of X G bk.len, list := PySem.W.mg_none_of X G bk.list, tuple := PySem.W.mg_none_of X G bk.tuple, dict := PySem.W.mg_none_of X G bk.dict, bool := PySem.W.mg_none_of X G bk.bool, range := PySem.W.mg_none_of X G bk.range, enumerate := PySem.W.mg_none_of X G bk.enumerate, isinstance := PySem.W.mg_none_of X G bk.isinstance, all := PySem.W.mg_none_of X G bk.all, zip := PySem.W.mg_none_of X G bk.zip, sorted := PySem.W.mg_none_of X G bk.sorted, max := PySem.W.mg_none_of X G bk.max, sum := PySem.W.mg_none_of X G bk.sum, repr := PySem.W.mg_none_of X G bk.repr }
  have clW : Cls K CW := ⟨cw.pg, cw.hd, cw.po, cw.sa⟩
  have clP : Cls K C := ⟨cp.pg, cp.hd, cp.po, cp.sa⟩
  have T : WebTxt K mg CW := ⟨clW, wn.nP, wn.nS, wn.nK, PySem.W.mg_of X G cw.aC⟩
  have TPt : PtTxt K mg C := ⟨clP, pn.nW, pn.nI, pn.nO, pn.nK, PySem.W.mg_of X G cp.aC⟩
  have ICW : InsK K CW := ⟨clW, cw.ha, cw.hn, cw.ht, cw.hm, cw.n1, cw.n2, cw.n3, cw.n4⟩
  have ICP : InsK K C := ⟨clP, cp.ha, cp.hn, cp.ht, cp.hm, cp.n1, cp.n2, cp.n3, cp.n4⟩
  have NW : NwA K C := ⟨⟨pn.f1, pn.g1⟩, ⟨pn.f2, pn.g2⟩, ⟨pn.f3, pn.g3⟩, ⟨pn.f4, pn.g4⟩, ⟨pn.f5, pn.g5⟩, ⟨pn.f6, pn.g6⟩⟩
  have TP : ExT K mg "BadPlaces" "places" CP f_bp := ⟨k_bp.ox, k_bp.xf, k_bp.no, PySem.W.mg_of X G k_bp.gC, g_bp.a, k_bp.tC⟩
  have TS : ExT K mg "BadSteps" "index" CS f_bs := ⟨k_bs.ox, k_bs.xf, k_bs.no, PySem.W.mg_of X G k_bs.gC, g_bs.a, k_bs.tC⟩
  have TI : ExT K mg "BadIns" "index" CI f_bi := ⟨k_bi.ox, k_bi.xf, k_bi.no, PySem.W.mg_of X G k_bi.gC, g_bi.a, k_bi.tC⟩
  have TO : ExT K mg "BadOuts" "index" CO f_bo := ⟨k_bo.ox, k_bo.xf, k_bo.no, PySem.W.mg_of X G k_bo.gC, g_bo.a, k_bo.tC⟩
  have kI : KBn K d_pi ["self", "places", "steps", "ins", "outs"] 1 ["outs", "ins", "steps", "places"] kwP kwP := by
    obtain ⟨_, _, _, _, _, _, _, _, _, eL, _, _⟩ := id g_pi.F.ex
    refine { to := fun s us ws _ hl hk => ?_, rel := fun h k => kwP_rel h k }
    match us, ws, hl, hk with
    | [x], [o1, i1, s1, p1], _, _ =>
      rw [eL]
      exact .of_eq rfl
  have bl : ∀ (s : Shared) (v : Value), BindsTo s d_sLaw ⟨[v], []⟩ [("_law_script", v)] := by
    obtain ⟨_, _, _, _, _, _, _, _, _, eL, _, _⟩ := id g_sLaw.F.ex
    intro s v
    rw [eL]
    exact .of_eq rfl
  refine ⟨d_sLaw, [(c, PT)], spLaw09 K PT, ?_, ?_, ?_, bl, ?_, fun base hb1 hb2 hTB => ?_⟩
  · rintro p hp
    rw [List.mem_singleton.mp hp]
    exact hPT
  · rintro p hp
    rw [List.mem_singleton.mp hp]
    exact nPT
  · rintro p hp
    rw [List.mem_singleton.mp hp]
    exact PySem.W.codeHd_of_K X hcd
  · intro H a ns hl _ hTab hS
    refine ⟨a, ns, rfl, hS, hl, fun p hp => ?_, fun _ => rfl⟩
    rw [List.mem_singleton.mp hp]
    exact LamX.TabS.nil (hTab _ (List.mem_singleton.mpr rfl))
  have TB := hTB (c, PT) (List.mem_singleton.mpr rfl)
  have c_sDraw := cal_of (P := l.prog) (w := w) (base := base) g_sDraw.F m_sDraw b_sDraw (ok_draw g_sDraw.F B)
  have c_sStream := cal_of (P := l.prog) (w := w) (base := base) g_sStream.F m_sStream b_sStream (ok_stream g_sStream.F B)
  have c_sPick := cal_of (P := l.prog) (w := w) (base := base) g_sPick.F m_sPick b_sPick (ok_pick g_sPick.F B c_sDraw)
  have c_sMixed := cal_of (P := l.prog) (w := w) (base := base) g_sMixed.F m_sMixed b_sMixed (ok_mixed g_sMixed.F B c_sDraw)
  have c_sAmounts := cal_of (P := l.prog) (w := w) (base := base) g_sAmounts.F m_sAmounts b_sAmounts (ok_amounts g_sAmounts.F B c_sDraw c_sPick)
  have c_sStep := cal_of (P := l.prog) (w := w) (base := base) g_sStep.F m_sStep b_sStep (ok_step g_sStep.F B c_sDraw c_sPick c_sAmounts)
  have c_sPart := cal_of (P := l.prog) (w := w) (base := base) g_sPart.F m_sPart b_sPart (ok_part g_sPart.F B (PySem.W.mg_none_of X G bk.min) c_sDraw c_sMixed c_sStep)
  have c_sLoose := cal_of (P := l.prog) (w := w) (base := base) g_sLoose.F m_sLoose b_sLoose (ok_loose g_sLoose.F B m_sLoose b_sLoose c_sDraw 6)
  have c_sIsInteger := cal_of (P := l.prog) (w := w) (base := base) g_sIsInteger.F m_sIsInteger b_sIsInteger (ok_isIntegerV g_sIsInteger.F B)
  have c_sIsList := cal_of (P := l.prog) (w := w) (base := base) g_sIsList.F m_sIsList b_sIsList (ok_isList g_sIsList.F B)
  have c_sReadStep := cal_of (P := l.prog) (w := w) (base := base) g_sReadStep.F m_sReadStep b_sReadStep (ok_readStep g_sReadStep.F B c_sIsList)
  have GBP := ok_badPl (P := l.prog) (w := w) (base := base) g_bp.F TP
  have GBS := ok_badSt (P := l.prog) (w := w) (base := base) g_bs.F TS
  have GR := ok_readSteps (P := l.prog) (w := w) (base := base) g_sReadSteps.F B TS GBS b_bs c_sReadStep c_sIsList
  have GX := ok_webInit (fS := f_bs) (P := l.prog) (w := w) (base := base) g_wi.F B T TP GBP b_bp c_sIsInteger GR m_sReadSteps g_sReadSteps.F.kp b_sReadSteps
  have GE := ok_webEqV (P := l.prog) (w := w) (base := base) g_we.F B T ICW cw.cc
  have MW : Mk K CW f_wi := ⟨cw.mkc, g_wi.a, g_wi.i, cw.kc⟩
  have W : WbK l.prog w K mg base CW CP CS f_wi f_wp f_ws f_we d_wi d_wp d_ws d_we := { T := T, M := MW, GI := fn_calm GX, bI := b_wi, GP := ok_places g_wp.F T, bP := b_wp, mP := ⟨g_wp.a, g_wp.i, g_wp.F.kp⟩, GS := ok_steps g_ws.F B T, bS := b_ws, mS := ⟨g_ws.a, g_ws.i, g_ws.F.kp⟩, GE := GE, bE := b_we, hE := g_we.a, iE := g_we.i, hN := cw.ne, hm := cw.hm }
  have GE1 : FnOk l.prog w K mg base CX0 1 f_we d_we ["self", "other"] (spEq fun _ _ _ => False) := ⟨fun vs H Q E h => by
    obtain ⟨_, _, _, z, _⟩ := h
    exact z.elim, fun A outer s H args us vs Q E _ _ _ _ h => by
    obtain ⟨_, _, _, z, _⟩ := h
    exact z.elim⟩
  have c_sSame := cal_of (P := l.prog) (w := w) (base := base) g_sSame.F m_sSame b_sSame (ok_same g_sSame.F B m_sSame b_sSame ICW (fun _ _ _ _ _ z => z) GE1 g_we.a g_we.i b_we 7)
  have c_first := cal_of (P := l.prog) (w := w) (base := base) g_sFirstWrong.F m_sFirstWrong b_sFirstWrong (ok_first g_sFirstWrong.F B c_sIsList c_sIsInteger)
  have GBI := ok_badIn (P := l.prog) (w := w) (base := base) g_bi.F TI
  have GBO := ok_badOu (P := l.prog) (w := w) (base := base) g_bo.F TO
  have GP := ok_ptInit (P := l.prog) (w := w) (base := base) g_pi.F B TPt T.mgC MW GX b_wi TI GBI b_bi TO GBO b_bo c_first
  have Z : PtK l.prog w K mg base CW C CP CS CI CO f_pi f_pw f_pn f_po f_pe d_pi d_pw d_pn d_po d_pe := { T := TPt, M := ⟨cp.mkc, g_pi.a, g_pi.i, cp.kc⟩, GI := fn_calm GP, bI := b_pi, kI := kI, GW := ok_pweb g_pw.F TPt, bW := b_pw, mW := ⟨g_pw.a, g_pw.i, g_pw.F.kp⟩, GN := ok_pins g_pn.F B TPt, bN := b_pn, mN := ⟨g_pn.a, g_pn.i, g_pn.F.kp⟩, GO := ok_pouts g_po.F B TPt, bO := b_po, mO := ⟨g_po.a, g_po.i, g_po.F.kp⟩, GE := ok_peq g_pe.F B TPt ICP cp.cc GE b_we g_we.a g_we.i, bE := b_pe, hE := g_pe.a, iE := g_pe.i, hN := cp.ne, hm := cp.hm }
  have c_made := cal_of (P := l.prog) (w := w) (base := base) g_sMadeRight.F m_sMadeRight b_sMadeRight (ok_madeP g_sMadeRight.F B W Z c_sLoose c_sMixed c_sSame)
  have c_un := cal_of (P := l.prog) (w := w) (base := base) g_sUnlikeRight.F m_sUnlikeRight b_sUnlikeRight (ok_unP g_sUnlikeRight.F B (PySem.W.mg_none_of X G bk.any) ICW ⟨pn.f7, pn.g7⟩ NW Z)
  have TR : TrP K mg base CP CS CI CO f_sTried f_bp f_bs f_bi f_bo d_sTried c PT := ⟨g_sTried.F, m_sTried, b_sTried, TP, TS, TI, TO, ex, TB⟩
  have c_ref := cal_of (P := l.prog) (w := w) (base := base) F_ref m_ref b_ref (ok_refP FC_ref B Z GP TR m_sDraw vD c_sPick c_sDraw c_sSame)
  exact ok_law g_sLaw.F B c_sStream c_sDraw c_sPart c_made c_un c_ref
end AA

set_option Elab.async false
set_option linter.all false
set_option maxRecDepth 100000
namespace AA
open PySem PySem.Spec PyProof.Rows L2 Evl
theorem bad_mk {K : PySem.W.Frag} {CB : Addr} {y m x q : Str} {st : Stmt} {f : Addr} {oc : Value} {od an : Option Addr} {osl : Array (Option Value)} {kV doc pm cdv ct : Value}
    {nm qn : Str} {N : Addr} {bs bm : List Value} {sn : List Str} {sub : List Value} {ab : Bool} {col : Option Bool} {dd : Option Addr} {k0 k1 k2 k3 k5 : Option Value}
    (a : PySem.W.findIn K (.ref CB) x = some (some (.ref f))) (i : PySem.W.isFn K (.ref f) = true)
    (l : K.lookup f = some ⟨oc, od, .func (PySem.W.fnOf x q (defArgs st) (defBody st) (defScope st) .none kV doc pm an cdv ct), osl⟩) (c : PySem.W.codeIn K cdv q = true) (k : PySem.W.keepIn K (.ref f) = true)
    (gC : PySem.W.nsIn K mainGlobals y = some (some (.ref CB)))
    (xL : K.lookup CB = some (excClassObj nm qn CB N bs bm true sn sub ab col dd k0 k1 k2 k3 k5 "ValueError.__new__")) (rv : PySem.HandSPX.refsVE bm = true)
    (sa : PySem.W.findIn K (.ref CB) "__setattr__" = some (some (.builtin "object.__setattr__")))
    (exC : PySem.W.subIn K (.ref CB) (.type "BaseException") = some true)
    (tyC : PySem.W.typeIn K (.ref CB) = some (.type "type")) (kC : PySem.W.keepIn K (.ref CB) = true)
    (ga : PySem.W.findIn K (.ref CB) "__getattribute__" = some (some (.builtin "BaseException.__getattribute__")))
    (gg : PySem.W.findIn K (.ref CB) "__getattr__" = some none) (hdC : PySem.W.hasDictIn K CB = true)
    (no : PySem.W.findIn K (.ref CB) m = some none) (tC : PySem.W.typeIn K (.ref f) = some (.type "function")) :
    ∃ f fd, MFn K CB x q st f fd ∧ BadK K y m CB f :=
  ⟨_, _, ⟨a, i, fun_mk (st := st) l c k⟩, ⟨gC, ⟨⟨_, _, _, _, _, _, _, _, _, _, _, _, _, _, _, xL, rv⟩, sa, exC, tyC, kC⟩, ⟨ga, gg, exC, hdC⟩, no, tC⟩⟩
theorem ref_mk {K : PySem.W.Frag} {x : Str} {st : Stmt} {f c PT : Addr} {oc : Value} {od an : Option Addr} {osl : Array (Option Value)} {kV doc pm ct : Value} (a : PySem.W.nsIn K mainGlobals x = some (some (.ref f)))
    (l : K.lookup f = some ⟨oc, od, .func (PySem.W.fnOf x x (defArgs st) (defBody st) (defScope st) .none kV doc pm an (.ref c) ct), osl⟩) (hc : PySem.W.codeIn K (.ref c) x = true) (k : PySem.W.keepIn K (.ref f) = true) (hd : PySem.W.codeHdIn K c PT = true) :
    ∃ f fd c, PySem.W.nsIn K mainGlobals x = some (some (.ref f)) ∧ FunC K x st f fd c ∧ L2.Fun K x x st f fd ∧ PySem.W.codeHdIn K c PT = true :=
  ⟨_, _, _, a, ⟨⟨_, _, _, _, _, _, _, _, rfl, l, hc⟩, k⟩, fun_mk (st := st) l hc k, hd⟩
end AA
open PySem PySem.W PyProof.Rows in
set_option maxRecDepth 100000 in
set_option maxHeartbeats 0 in
theorem PySem.Challenge.cw_anyaround_k09_parts_made_holds : PySem.Challenge.rw_anyaround_k09_parts_made.Holds := by
  w_on; o_law; km_head; (case hw => w_witness2)
  k_fill
  refine LamX.walk_ofTs (l := PySem.Challenge.rw_anyaround_k09_parts_made) (n := 63) (k := 12) (x := "_law_script") (CX := fun _ => C8.CX0) rfl (by decide) rfl ⟨rfl, by decide, by decide⟩ (fun w h Y => PySem.W.km_in_of Y) ?F (fun _ _ _ _ _ z => z)
  case F =>
    intro w mg fa h Y KX G hmg
    refine' AA.all_mk (PT := ?PT) (CP := ?CP) (CS := ?CS) (CI := ?CI) (CO := ?CO) (CW := ?CW) (C := ?C) KX G hmg ?hPT ?nPT ?bk ?cw ?cp ?wn ?pn ?ex ?f1 ?f2 ?f3 ?f4 ?f5 ?f6 ?f7 ?f8 ?f9 ?f10 ?f11 ?f12 ?f13 ?f14 ?f15 ?f16 ?f17 ?f18 ?ref ?m1 ?m2 ?m3 ?m4 ?m5 ?m6 ?m7 ?m8 ?m9 ?badP ?badS ?badI ?badO
    (case hPT => exact PySem.W.km_tabs_of Y 305 (by simp))
    (case nPT => kernel_rfl)
    (case bk => refine' ⟨?_, ?_, ?_, ?_, ?_, ?_, ?_, ?_, ?_, ?_, ?_, ?_, ?_, ?_, ?_, ?_, ?_, ?_⟩ <;> k_is)
    (case cw => refine' ⟨?cw_aC, ?cw_pg, ?cw_hd, ?cw_po, ?cw_sa, ?cw_mk, ?cw_kc, ?cw_ha, ?cw_hn, ?cw_ht, ?cw_hm, ?cw_n1, ?cw_n2, ?cw_n3, ?cw_n4, ?cw_cc, ?cw_ne⟩; (case cw_aC => k_is); (case cw_pg => k_is); (case cw_hd => k_is); (case cw_po => k_is); (case cw_sa => k_is); (case cw_mk => k_is); (case cw_kc => k_is); (case cw_ha => k_is); (case cw_hn => k_is); (case cw_ht => k_is); (case cw_hm => k_is); (case cw_n1 => kit_is); (case cw_n2 => kit_is); (case cw_n3 => kit_is); (case cw_n4 => kit_is); (case cw_cc => kit_is); (case cw_ne => k_is))
    (case cp => refine' ⟨?cp_aC, ?cp_pg, ?cp_hd, ?cp_po, ?cp_sa, ?cp_mk, ?cp_kc, ?cp_ha, ?cp_hn, ?cp_ht, ?cp_hm, ?cp_n1, ?cp_n2, ?cp_n3, ?cp_n4, ?cp_cc, ?cp_ne⟩; (case cp_aC => k_is); (case cp_pg => k_is); (case cp_hd => k_is); (case cp_po => k_is); (case cp_sa => k_is); (case cp_mk => k_is); (case cp_kc => k_is); (case cp_ha => k_is); (case cp_hn => k_is); (case cp_ht => k_is); (case cp_hm => k_is); (case cp_n1 => kit_is); (case cp_n2 => kit_is); (case cp_n3 => kit_is); (case cp_n4 => kit_is); (case cp_cc => kit_is); (case cp_ne => k_is))
    (case wn => refine' ⟨?wn_nP, ?wn_nS, ?wn_nK⟩; (case wn_nP => k_is); (case wn_nS => k_is); (case wn_nK => k_is))
    (case pn => refine' ⟨?pn_nW, ?pn_nI, ?pn_nO, ?pn_nK, ?pn_f1, ?pn_f2, ?pn_f3, ?pn_f4, ?pn_f5, ?pn_f6, ?pn_f7, ?pn_g1, ?pn_g2, ?pn_g3, ?pn_g4, ?pn_g5, ?pn_g6, ?pn_g7⟩; (case pn_nW => k_is); (case pn_nI => k_is); (case pn_nO => k_is); (case pn_nK => k_is); (case pn_f1 => k_is); (case pn_f2 => k_is); (case pn_f3 => k_is); (case pn_f4 => k_is); (case pn_f5 => k_is); (case pn_f6 => k_is); (case pn_f7 => k_is); (case pn_g1 => kit_is); (case pn_g2 => kit_is); (case pn_g3 => kit_is); (case pn_g4 => kit_is); (case pn_g5 => kit_is); (case pn_g6 => kit_is); (case pn_g7 => kit_is))
    (case f1 => refine' AA.gfn ?a ?l ?c ?k; (case a => k_is); (case l => k_is); (case c => k_is); (case k => k_is))
    (case f2 => refine' AA.gfn ?a ?l ?c ?k; (case a => k_is); (case l => k_is); (case c => k_is); (case k => k_is))
    (case f3 => refine' AA.gfn ?a ?l ?c ?k; (case a => k_is); (case l => k_is); (case c => k_is); (case k => k_is))
    (case f4 => refine' AA.gfn ?a ?l ?c ?k; (case a => k_is); (case l => k_is); (case c => k_is); (case k => k_is))
    (case f5 => refine' AA.gfn ?a ?l ?c ?k; (case a => k_is); (case l => k_is); (case c => k_is); (case k => k_is))
    (case f6 => refine' AA.gfn ?a ?l ?c ?k; (case a => k_is); (case l => k_is); (case c => k_is); (case k => k_is))
    (case f7 => refine' AA.gfnc ?a ?l ?c ?k; (case a => k_is); (case l => k_is); (case c => k_is); (case k => k_is))
    (case f8 => refine' AA.gfn ?a ?l ?c ?k; (case a => k_is); (case l => k_is); (case c => k_is); (case k => k_is))
    (case f9 => refine' AA.gfn ?a ?l ?c ?k; (case a => k_is); (case l => k_is); (case c => k_is); (case k => k_is))
    (case f10 => refine' AA.gfn ?a ?l ?c ?k; (case a => k_is); (case l => k_is); (case c => k_is); (case k => k_is))
    (case f11 => refine' AA.gfn ?a ?l ?c ?k; (case a => k_is); (case l => k_is); (case c => k_is); (case k => k_is))
    (case f12 => refine' AA.gfn ?a ?l ?c ?k; (case a => k_is); (case l => k_is); (case c => k_is); (case k => k_is))
    (case f13 => refine' AA.gfn ?a ?l ?c ?k; (case a => k_is); (case l => k_is); (case c => k_is); (case k => k_is))
    (case f14 => refine' AA.gfn ?a ?l ?c ?k; (case a => k_is); (case l => k_is); (case c => k_is); (case k => k_is))
    (case f15 => refine' AA.gfn ?a ?l ?c ?k; (case a => k_is); (case l => k_is); (case c => k_is); (case k => k_is))
    (case f16 => refine' AA.gfn ?a ?l ?c ?k; (case a => k_is); (case l => k_is); (case c => k_is); (case k => k_is))
    (case f17 => refine' AA.gfn ?a ?l ?c ?k; (case a => k_is); (case l => k_is); (case c => k_is); (case k => k_is))
    (case f18 => refine' AA.gfn ?a ?l ?c ?k; (case a => k_is); (case l => k_is); (case c => k_is); (case k => k_is))
    (case ref => refine' AA.ref_mk ?a ?l ?c ?k ?hd; (case a => k_is); (case l => k_is); (case c => k_is); (case k => k_is); (case hd => kernel_rfl))
    (case m1 => refine' AA.mfn ?a ?i ?l ?c ?k; (case a => k_is); (case i => k_is); (case l => k_is); (case c => k_is); (case k => k_is))
    (case m2 => refine' AA.mfn ?a ?i ?l ?c ?k; (case a => k_is); (case i => k_is); (case l => k_is); (case c => k_is); (case k => k_is))
    (case m3 => refine' AA.mfn ?a ?i ?l ?c ?k; (case a => k_is); (case i => k_is); (case l => k_is); (case c => k_is); (case k => k_is))
    (case m4 => refine' AA.mfn ?a ?i ?l ?c ?k; (case a => k_is); (case i => k_is); (case l => k_is); (case c => k_is); (case k => k_is))
    (case m5 => refine' AA.mfn ?a ?i ?l ?c ?k; (case a => k_is); (case i => k_is); (case l => k_is); (case c => k_is); (case k => k_is))
    (case m6 => refine' AA.mfn ?a ?i ?l ?c ?k; (case a => k_is); (case i => k_is); (case l => k_is); (case c => k_is); (case k => k_is))
    (case m7 => refine' AA.mfn ?a ?i ?l ?c ?k; (case a => k_is); (case i => k_is); (case l => k_is); (case c => k_is); (case k => k_is))
    (case m8 => refine' AA.mfn ?a ?i ?l ?c ?k; (case a => k_is); (case i => k_is); (case l => k_is); (case c => k_is); (case k => k_is))
    (case m9 => refine' AA.mfn ?a ?i ?l ?c ?k; (case a => k_is); (case i => k_is); (case l => k_is); (case c => k_is); (case k => k_is))
    (case badP => refine' AA.bad_mk ?a ?i ?l ?c ?k ?gC ?xL ?rv ?sa ?exC ?tyC ?kC ?ga ?gg ?hdC ?no ?tC; (case gC => k_is); (case a => k_is); (case i => k_is); (case l => k_is); (case c => k_is); (case k => k_is); (case xL => k_is); (case rv => decide +kernel); (case sa => k_is); (case exC => k_is); (case tyC => k_is); (case kC => k_is); (case ga => k_is); (case gg => k_is); (case hdC => k_is); (case no => k_is); (case tC => k_is))
    (case badS => refine' AA.bad_mk ?a ?i ?l ?c ?k ?gC ?xL ?rv ?sa ?exC ?tyC ?kC ?ga ?gg ?hdC ?no ?tC; (case gC => k_is); (case a => k_is); (case i => k_is); (case l => k_is); (case c => k_is); (case k => k_is); (case xL => k_is); (case rv => decide +kernel); (case sa => k_is); (case exC => k_is); (case tyC => k_is); (case kC => k_is); (case ga => k_is); (case gg => k_is); (case hdC => k_is); (case no => k_is); (case tC => k_is))
    (case badI => refine' AA.bad_mk ?a ?i ?l ?c ?k ?gC ?xL ?rv ?sa ?exC ?tyC ?kC ?ga ?gg ?hdC ?no ?tC; (case gC => k_is); (case a => k_is); (case i => k_is); (case l => k_is); (case c => k_is); (case k => k_is); (case xL => k_is); (case rv => decide +kernel); (case sa => k_is); (case exC => k_is); (case tyC => k_is); (case kC => k_is); (case ga => k_is); (case gg => k_is); (case hdC => k_is); (case no => k_is); (case tC => k_is))
    (case badO => refine' AA.bad_mk ?a ?i ?l ?c ?k ?gC ?xL ?rv ?sa ?exC ?tyC ?kC ?ga ?gg ?hdC ?no ?tC; (case gC => k_is); (case a => k_is); (case i => k_is); (case l => k_is); (case c => k_is); (case k => k_is); (case xL => k_is); (case rv => decide +kernel); (case sa => k_is); (case exC => k_is); (case tyC => k_is); (case kC => k_is); (case ga => k_is); (case gg => k_is); (case hdC => k_is); (case no => k_is); (case tC => k_is))
    (case ex => refine' ⟨?_, ?_, ?_, ?_, ?_, ?_, ?_, ?_, ?_, ?_⟩ <;> first | k_is | rfl)

