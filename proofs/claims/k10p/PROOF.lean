import PyProof.Rows.All
import Wide.All
import OpenK.AllK
import Wide.FinOn
import HandS.ForMost
import HandS.Wide
import HandS.ExcInit
import HandS.IsInst
import HandS.Deep
import HandS.Evl
import HandS.Conv
import HandS.NoneIn
import HandS.Codes
import HandS.OwnEq
import HandS.DictComp
import HandS.SortOrd
import HandS.SortRule
import HandS.RaiseMore
import HandS.TryOnly
import HandS.Lambda
import HandS.Zip
import HandS.ListItems
import KE.DatumIndex
import HandS.TryMany
import HandS.MakeKwOnly
import HandS.EndTab
import HandS.HeadWalk
import HandS.ExcField
import HandS.WordsExc
import PyProof.IsiNone
import PyProof.IsiH_set
import PyProof.InstEq
import PyProof.InstNe
import KE.KRevSl
import PySem.Challenge.RW_anyaround_k10_closed_and_passes
import KE.KeyNested
import KE.GoesMore
import HandS.TupSets
import KE.KNestM
set_option Elab.async false
set_option linter.all false
set_option maxRecDepth 100000
namespace AA
open PySem PySem.Spec PyProof.Rows L2
def top (i : Nat) : Stmt := PySem.Challenge.pw_anyaround_k10_closed_and_passes.main.body.getD i (.Pass ⟨0, 0, 0, 0⟩)
abbrev sIsInteger : Stmt := top 9
abbrev sIsList : Stmt := top 10
abbrev sReadStep : Stmt := top 13
abbrev sReadSteps : Stmt := top 14
abbrev sReadWalk : Stmt := top 15
abbrev sFirstWrong : Stmt := top 18
abbrev sCheckDoor : Stmt := top 19
abbrev sIsPass : Stmt := top 20
abbrev sReadWay : Stmt := top 21
abbrev sReadWays : Stmt := top 22
abbrev sClosedSteps : Stmt := top 23
abbrev sClosed : Stmt := top 24
abbrev sStream : Stmt := top 26
abbrev sDraw : Stmt := top 27
abbrev sPick : Stmt := top 28
abbrev sMixed : Stmt := top 29
abbrev sSame : Stmt := top 30
abbrev sLoose : Stmt := top 31
abbrev sAmounts : Stmt := top 32
abbrev sStep : Stmt := top 33
abbrev sPart : Stmt := top 34
abbrev sPasses : Stmt := top 35
abbrev sTried : Stmt := top 36
abbrev sIsWhole : Stmt := top 37
abbrev sStepOf : Stmt := top 38
abbrev sLIsPass : Stmt := top 39
abbrev sBent : Stmt := top 40
abbrev sPassesRight : Stmt := top 41
abbrev sWay : Stmt := top 42
abbrev sClosedRight : Stmt := top 43
abbrev sLaw : Stmt := top 44
abbrev sWebInit : Stmt := inClass (top 12) 0
abbrev sWebPlaces : Stmt := inClass (top 12) 1
abbrev sWebSteps : Stmt := inClass (top 12) 2
abbrev sWebEq : Stmt := inClass (top 12) 3
abbrev sPartInit : Stmt := inClass (top 17) 0
abbrev sPartWeb : Stmt := inClass (top 17) 1
abbrev sPartIns : Stmt := inClass (top 17) 2
abbrev sPartOuts : Stmt := inClass (top 17) 3
abbrev sPartEq : Stmt := inClass (top 17) 4
abbrev sBadPlInit : Stmt := inClass (top 2) 0
abbrev sBadStInit : Stmt := inClass (top 3) 0
abbrev sBadInInit : Stmt := inClass (top 4) 0
abbrev sBadOuInit : Stmt := inClass (top 5) 0
abbrev sBadDoInit : Stmt := inClass (top 6) 0
abbrev sBadWaInit : Stmt := inClass (top 7) 0
end AA

set_option Elab.async false
set_option linter.all false
set_option maxRecDepth 100000
set_option maxHeartbeats 4000000
namespace AA
open PySem PySem.Spec PyProof.Rows L2 Evl

/-- built-in names that the program's top leaves alone -/
structure Bn (mg : Str → Option Value) : Prop where
  abs : mg "abs" = none
  int : mg "int" = none
  len : mg "len" = none
  list : mg "list" = none
  tuple : mg "tuple" = none
  dict : mg "dict" = none
  bool : mg "bool" = none
  range : mg "range" = none
  enumerate : mg "enumerate" = none
  isinstance : mg "isinstance" = none
  all : mg "all" = none
  zip : mg "zip" = none
  sorted : mg "sorted" = none
  max : mg "max" = none
  sum : mg "sum" = none
  repr : mg "repr" = none

theorem cal_of {P : Program} {w : World} {K : PySem.W.Frag} {mg : Str → Option Value} {base : Heap} {k : Nat} {x : Str} {st : Stmt} {f : Addr} {fd : FuncData} {ps : List Str} {sp : Sp}
    (F : L2.Fun K x x st f fd) (hm : mg x = some (.ref f)) (b : Binds K fd ps []) (G : FnOk P w K mg base CX0 k f fd ps sp) : C8.Cal P w K mg base k x sp [] := ⟨f, fd, ps, [], G, hm, F.kp, b, .nil⟩

/-! ### the heap without the stream's two lists -/
def hid (a b : Addr) (H : Hp) : Hp := fun x => if x = a ∨ x = b then none else H x
theorem hid_some {a b x : Addr} {H : Hp} {o : HO} (h : hid a b H x = some o) : H x = some o ∧ x ≠ a ∧ x ≠ b := by
  unfold hid at h
  by_cases e : x = a ∨ x = b
  · rw [if_pos e] at h
    cases h
  · rw [if_neg e] at h
    exact ⟨h, fun z => e (.inl z), fun z => e (.inr z)⟩
theorem hid_ne {a b x : Addr} {H : Hp} (ha : x ≠ a) (hb : x ≠ b) : hid a b H x = H x := by
  unfold hid
  rw [if_neg (fun z => z.elim ha hb)]
theorem hid_ex {a b : Addr} {H : Hp} : Ex (hid a b H) H := fun x o h => (hid_some h).1
theorem hid_upda {a b : Addr} {H : Hp} {o : HO} : hid a b (upd H a o) = hid a b H := by
  funext x
  unfold hid upd
  by_cases e : x = a ∨ x = b
  · rw [if_pos e, if_pos e]
  · rw [if_neg e, if_neg e, if_neg (fun z => e (.inl z))]
theorem hid_updb {a b : Addr} {H : Hp} {o : HO} : hid a b (upd H b o) = hid a b H := by
  funext x
  unfold hid upd
  by_cases e : x = a ∨ x = b
  · rw [if_pos e, if_pos e]
  · rw [if_neg e, if_neg e, if_neg (fun z => e (.inr z))]
theorem hid_upd {a b p : Addr} {H : Hp} {o : HO} (ha : p ≠ a) (hb : p ≠ b) : hid a b (upd H p o) = upd (hid a b H) p o := by
  funext x
  unfold hid upd
  by_cases e : x = a ∨ x = b
  · rw [if_pos e]
    by_cases q : x = p
    · rcases e with e | e
      · exact absurd (q.symm.trans e) ha
      · exact absurd (q.symm.trans e) hb
    · rw [if_neg q]
      exact (if_pos e).symm
  · rw [if_neg e]
    by_cases q : x = p
    · rw [if_pos q, if_pos q]
    · rw [if_neg q, if_neg q]
      exact (if_neg e).symm
theorem hid_none {a b p : Addr} {H : Hp} (h : H p = none) : hid a b H p = none := by
  unfold hid
  split
  · rfl
  · exact h
theorem hid_mono {a b : Addr} {H H' : Hp} (e : Ex H H') : Ex (hid a b H) (hid a b H') := fun x o h => by
  obtain ⟨h1, h2, h3⟩ := hid_some h
  rw [hid_ne h2 h3]
  exact e x o h1

/-- the stream: its list of four at a, the rest of the script at b; at most n draws so far -/
def SAt (H : Hp) (a b : Addr) (n : Nat) : Prop :=
  ∃ (ns : List Int) (c1 c2 c3 : Int), H a = some (.lst [.ref b, .int c1, .int c2, .int c3]) ∧ H b = some (.lst (ns.map V.int)) ∧ ns.length ≤ 63 ∧ 0 ≤ c1 ∧ 0 ≤ c2 ∧ c2 ≤ n ∧ 0 ≤ c3 ∧ c3 < 2147483647
theorem SAt.mono {H : Hp} {a b : Addr} {n m : Nat} (h : SAt H a b n) (l : n ≤ m) : SAt H a b m := by
  obtain ⟨ns, c1, c2, c3, h1, h2, h3, h4, h5, h6, h7⟩ := h
  exact ⟨ns, c1, c2, c3, h1, h2, h3, h4, h5, by omega, h7⟩
theorem SAt.ne {H : Hp} {a b : Addr} {n : Nat} (h : SAt H a b n) : a ≠ b := by
  obtain ⟨ns, c1, c2, c3, h1, h2, _⟩ := h
  intro e
  subst e
  rw [h1] at h2
  have := HO.lst.inj (Option.some.inj h2)
  cases ns with
  | nil => cases this
  | cons x r => cases (List.cons.inj this).1
theorem SAt.nea {H : Hp} {a b p : Addr} {n : Nat} (h : SAt H a b n) (hp : H p = none) : p ≠ a := fun e => by
  obtain ⟨ns, c1, c2, c3, h1, _⟩ := h
  rw [e, h1] at hp
  cases hp
theorem SAt.neb {H : Hp} {a b p : Addr} {n : Nat} (h : SAt H a b n) (hp : H p = none) : p ≠ b := fun e => by
  obtain ⟨ns, c1, c2, c3, _, h1, _⟩ := h
  rw [e, h1] at hp
  cases hp
theorem SAt.ex {H H' : Hp} {a b : Addr} {n : Nat} (h : SAt H a b n) (e : Ex H H') : SAt H' a b n := by
  obtain ⟨ns, c1, c2, c3, h1, h2, r⟩ := h
  exact ⟨ns, c1, c2, c3, e _ _ h1, e _ _ h2, r⟩
theorem SAt.upd {H : Hp} {a b p : Addr} {n : Nat} {o : HO} (h : SAt H a b n) (ha : p ≠ a) (hb : p ≠ b) : SAt (upd H p o) a b n := by
  obtain ⟨ns, c1, c2, c3, h1, h2, r⟩ := h
  exact ⟨ns, c1, c2, c3, by rw [upd_ne ha.symm]; exact h1, by rw [upd_ne hb.symm]; exact h2, r⟩

/-- the promise's heaps: all but the stream stands as it stood -/
abbrev ExS (a b : Addr) (H H' : Hp) : Prop := Ex (hid a b H) (hid a b H')
theorem ExS.at {a b p : Addr} {H H' : Hp} {o : HO} (e : ExS a b H H') (h : H p = some o) (ha : p ≠ a) (hb : p ≠ b) : H' p = some o :=
  hid_ex _ _ (e p o (by rw [hid_ne ha hb]; exact h))

theorem ExS.upda {a b : Addr} {H H1 : Hp} {o : HO} (p : ExS a b H H1) : ExS a b H (L2.upd H1 a o) := by
  show Ex _ (hid a b (L2.upd H1 a o))
  rw [hid_upda]
  exact p
theorem ExS.updb {a b : Addr} {H H1 : Hp} {o : HO} (p : ExS a b H H1) : ExS a b H (L2.upd H1 b o) := by
  show Ex _ (hid a b (L2.upd H1 b o))
  rw [hid_updb]
  exact p
theorem ExS.new {a b c : Addr} {H H1 : Hp} {o : HO} (p : ExS a b H H1) (n : H1 c = none) : ExS a b H (L2.upd H1 c o) := p.trans (hid_mono (Ex.new n))
theorem ExS.own {a b p : Addr} {H H1 : Hp} {o : HO} (e : ExS a b H H1) (hp : H p = none) (pa : p ≠ a) (pb : p ≠ b) : ExS a b H (L2.upd H1 p o) := by
  show Ex _ (hid a b (L2.upd H1 p o))
  rw [hid_upd pa pb]
  exact e.mut (hid_none hp)
theorem sz_m {n : Nat} (h : n ≤ 1000000) : n < sizeLine := Nat.lt_of_le_of_lt h (by decide)
theorem sz_le {n : Nat} (h : n ≤ 1000000) : n ≤ sizeLine := Nat.le_of_lt (sz_m h)
theorem ExS.back {a b p : Addr} {H H' : Hp} {n : Nat} (e : ExS a b H H') (S' : SAt H' a b n) (h : H' p = none) : H p = none := by
  cases q : H p with
  | none => rfl
  | some o =>
    rw [e.at q (S'.nea h) (S'.neb h)] at h
    cases h
theorem get_ints {ns : List Int} {i : Nat} {x : V} (h : (ns.map V.int)[i]? = some x) : ∃ c, ns[i]? = some c ∧ x = .int c := by
  rw [List.getElem?_map] at h
  cases e : ns[i]? with
  | none =>
    rw [e] at h
    cases h
  | some c =>
    rw [e] at h
    exact ⟨c, rfl, (Option.some.inj h).symm⟩
theorem mem_of_get {α : Type} {l : List α} {i : Nat} {x : α} (h : l[i]? = some x) : x ∈ l := by
  obtain ⟨h1, h2⟩ := List.getElem?_eq_some_iff.mp h
  rw [← h2]
  exact List.getElem_mem h1
theorem ExS.rfl {a b : Addr} {H : Hp} : ExS a b H H := Ex.refl _

/-! ### what is new since H -/
def nw (H H' : Hp) : Hp := fun z => match H z with
  | none => H' z
  | some _ => none
theorem nw_some {H H' : Hp} {z : Addr} {o : HO} (h : nw H H' z = some o) : H z = none ∧ H' z = some o := by
  unfold nw at h
  split at h
  · rename_i e
    exact ⟨e, h⟩
  · cases h
theorem nw_of {H H' : Hp} {z : Addr} {o : HO} (h : H z = none) (h' : H' z = some o) : nw H H' z = some o := by
  unfold nw
  rw [h]
  exact h'
theorem nw_le {H H' : Hp} : Ex (nw H H') H' := fun z o h => (nw_some h).2
theorem nw_hid {a b : Addr} {n : Nat} {H H' : Hp} (s : SAt H a b n) : Ex (nw H H') (hid a b H') := fun z o h => by
  obtain ⟨h1, h2⟩ := nw_some h
  rw [hid_ne (s.nea h1) (s.neb h1)]
  exact h2
theorem nw_step {a b : Addr} {n : Nat} {H H1 H2 : Hp} (s : SAt H a b n) (e : ExS a b H1 H2) : Ex (nw H H1) (nw H H2) := fun z o h => by
  obtain ⟨h1, h2⟩ := nw_some h
  exact nw_of h1 (e.at h2 (s.nea h1) (s.neb h1))
/-- what is new since a later heap is new since the earlier one -/
theorem nw_base {a b : Addr} {m : Nat} {H H1 H2 : Hp} (e : ExS a b H H1) (s : SAt H1 a b m) : Ex (nw H1 H2) (nw H H2) := fun z o h => by
  obtain ⟨h1, h2⟩ := nw_some h
  exact nw_of (e.back s h1) h2

/-! ### the heap's tuples: they never change -/
def tps (H : Hp) : Hp := fun x => match H x with
  | some (.tup xs) => some (.tup xs)
  | _ => none
theorem tps_some {H : Hp} {x : Addr} {o : HO} (h : tps H x = some o) : H x = some o ∧ ∃ xs, o = .tup xs := by
  unfold tps at h
  split at h
  · rename_i xs e
    cases h
    exact ⟨e, xs, rfl⟩
  · cases h
theorem tps_of {H : Hp} {x : Addr} {xs : List V} (h : H x = some (.tup xs)) : tps H x = some (.tup xs) := by
  unfold tps
  rw [h]
theorem tps_le {H : Hp} : Ex (tps H) H := fun x o h => (tps_some h).1
theorem tps_mono {H H' : Hp} (e : Ex H H') : Ex (tps H) (tps H') := fun x o h => by
  obtain ⟨h1, xs, rfl⟩ := tps_some h
  exact tps_of (e _ _ h1)
theorem tps_hid {a b : Addr} {n : Nat} {H H' : Hp} (e : ExS a b H H') (s : SAt H a b n) : Ex (tps H) (tps H') := fun x o h => by
  obtain ⟨h1, xs, rfl⟩ := tps_some h
  obtain ⟨ns, c1, c2, c3, ha, hb, _⟩ := s
  have xa : x ≠ a := fun z => by
    rw [z, ha] at h1
    cases h1
  have xb : x ≠ b := fun z => by
    rw [z, hb] at h1
    cases h1
  exact tps_of (e.at h1 xa xb)
/-- no tuple stands at p -/
def NoTup (H : Hp) (p : Addr) : Prop := ∀ xs, H p ≠ some (.tup xs)
theorem NoTup.lst {H : Hp} {p : Addr} {xs : List V} (h : H p = some (.lst xs)) : NoTup H p := fun ys z => by
  rw [h] at z
  cases z
theorem NoTup.none {H : Hp} {p : Addr} (h : H p = none) : NoTup H p := fun ys z => by
  rw [h] at z
  cases z
theorem tps_upd {H : Hp} {p : Addr} {o : HO} (h : NoTup H p) : Ex (tps H) (tps (L2.upd H p o)) := fun x u hx => by
  obtain ⟨h1, xs, rfl⟩ := tps_some hx
  have xp : x ≠ p := fun z => h xs (by rw [← z]; exact h1)
  exact tps_of (by rw [upd_ne xp]; exact h1)
theorem tps_tup {H : Hp} {p : Addr} {xs : List V} : tps (L2.upd H p (.tup xs)) p = some (.tup xs) := tps_of upd_same

/-! ### data on the heap -/
mutual
theorem dp_ex {K : PySem.W.Frag} {H H' : Hp} (e : Ex H H') : ∀ (d : PyData) (v : V), Dp K H v d → Dp K H' v d
  | .none, _, h => by cases h; exact .non
  | .bool b, _, h => by cases h; exact .bl _
  | .int i, _, h => by cases h; exact .int _
  | .str x, _, h => by cases h; exact .str _
  | .list ds, _, h => by
    cases h with
    | lst h1 h2 => exact .lst (ex_l e h1) (dpa_ex e ds _ h2)
  | .tuple ds, _, h => by
    cases h with
    | tup h1 h2 => exact .tup (ex_t e h1) (dpa_ex e ds _ h2)
  | .dict _, _, h => by cases h
theorem dpa_ex {K : PySem.W.Frag} {H H' : Hp} (e : Ex H H') : ∀ (ds : List PyData) (vs : List V), DpAll K H vs ds → DpAll K H' vs ds
  | [], _, h => by cases h; exact .nil
  | d :: ds, _, h => by
    cases h with
    | cons h1 h2 => exact .cons (dp_ex e d _ h1) (dpa_ex e ds _ h2)
end
theorem dp_ints {K : PySem.W.Frag} {H : Hp} : ∀ ns : List Int, DpAll K H (ns.map V.int) (ns.map PyData.int)
  | [] => .nil
  | n :: r => .cons (.int n) (dp_ints r)
theorem lay_ints : ∀ ns : List Int, PyData.canLayAll0 (ns.map PyData.int) = true
  | [] => rfl
  | n :: r => by
    show (PyData.canLay0 (.int n) && PyData.canLayAll0 (r.map PyData.int)) = true
    rw [lay_ints r]
    rfl
theorem dep_ints : ∀ ns : List Int, PyData.depthAll (ns.map PyData.int) = 0
  | [] => rfl
  | n :: r => by
    show max (PyData.depth (.int n)) (PyData.depthAll (r.map PyData.int)) = 0
    rw [dep_ints r]
    rfl
theorem shaped_ints (ns : List Int) : SeqAt.shaped (.list (ns.map PyData.int)) = true := by
  show (PyData.canLayAll0 (ns.map PyData.int) && decide (PyData.depthAll (ns.map PyData.int) + 1 ≤ 64)) = true
  rw [lay_ints, dep_ints]
  rfl
theorem eqv_ints_nil : ∀ ns : List Int, PyData.eqv (.list (ns.map PyData.int)) (.list []) = ns.isEmpty
  | [] => rfl
  | n :: r => rfl
theorem dpa_len {K : PySem.W.Frag} {H : Hp} : ∀ {vs : List V} {ds : List PyData}, DpAll K H vs ds → vs.length = ds.length
  | [], _, h => by cases h; rfl
  | v :: vs, _, h => by
    cases h with
    | cons h1 h2 => rw [List.length_cons, List.length_cons, dpa_len h2]
theorem dpa_get {K : PySem.W.Frag} {H : Hp} : ∀ {vs : List V} {ds : List PyData} {i : Nat} {v : V}, DpAll K H vs ds → vs[i]? = some v → ∃ d, ds[i]? = some d ∧ Dp K H v d
  | [], _, _, _, _, e => by simp at e
  | v :: vs, _, 0, x, h, e => by
    cases h with
    | cons h1 h2 =>
      cases (Option.some.inj e)
      exact ⟨_, rfl, h1⟩
  | v :: vs, _, i + 1, x, h, e => by
    cases h with
    | cons h1 h2 => exact dpa_get (i := i) h2 e
theorem dpa_app {K : PySem.W.Frag} {H : Hp} : ∀ {vs ws : List V} {ds es : List PyData}, DpAll K H vs ds → DpAll K H ws es → DpAll K H (vs ++ ws) (ds ++ es)
  | [], _, _, _, h, k => by cases h; exact k
  | v :: vs, _, _, _, h, k => by
    cases h with
    | cons h1 h2 => exact .cons h1 (dpa_app h2 k)

theorem Room.u65 {k : Nat} {A : Around} (r : Room k A) : A.units + 65 < cLine := by
  have := r.un
  omega
/-! ### steps -/
structure St5 where
  one : Int
  other : Int
  p : Int
  q : Int
  ticks : Int
  change : Int
  deriving DecidableEq
def stD (s : St5) : PyData := .tuple [.int s.one, .int s.other, .tuple [.int s.p, .int s.q], .int s.ticks, .int s.change]
theorem stD_inv {K : PySem.W.Frag} {H : Hp} {v : V} {s : St5} (h : Dp K H v (stD s)) : ∃ t u : Addr, v = .ref t ∧ SqT K H t [.int s.one, .int s.other, .ref u, .int s.ticks, .int s.change] ∧ SqT K H u [.int s.p, .int s.q] := by
  unfold stD at h
  cases h with
  | tup h1 h2 =>
    cases h2 with
    | cons a1 h2 =>
      cases h2 with
      | cons a2 h2 =>
        cases h2 with
        | cons a3 h2 =>
          cases h2 with
          | cons a4 h2 =>
            cases h2 with
            | cons a5 h2 =>
              cases h2
              cases a1
              cases a2
              cases a4
              cases a5
              cases a3 with
              | tup b1 b2 =>
                cases b2 with
                | cons c1 b2 =>
                  cases b2 with
                  | cons c2 b2 =>
                    cases b2
                    cases c1
                    cases c2
                    exact ⟨_, _, rfl, h1, b1⟩
theorem stD_mk {K : PySem.W.Frag} {H : Hp} {t u : Addr} {s : St5} (h1 : SqT K H t [.int s.one, .int s.other, .ref u, .int s.ticks, .int s.change]) (h2 : SqT K H u [.int s.p, .int s.q]) : Dp K H (.ref t) (stD s) :=
  .tup h1 (.cons (.int _) (.cons (.int _) (.cons (.tup h2 (.cons (.int _) (.cons (.int _) .nil))) (.cons (.int _) (.cons (.int _) .nil)))))
theorem stD_eqv (s t : St5) : PyData.eqv (stD s) (stD t) = decide (s = t) := by
  have : PyData.eqv (stD s) (stD t) = ((s.one == t.one) && ((s.other == t.other) && (((s.p == t.p) && ((s.q == t.q) && true)) && ((s.ticks == t.ticks) && ((s.change == t.change) && true))))) := rfl
  rw [this]
  cases s
  cases t
  simp only [St5.mk.injEq]
  rw [Bool.eq_iff_iff]
  simp [and_assoc]
theorem stD_lay (s : St5) : (stD s).canLay0 = true := rfl
theorem stD_depth (s : St5) : (stD s).depth = 2 := rfl
theorem stDs_lay : ∀ ss : List St5, PyData.canLayAll0 (ss.map stD) = true
  | [] => rfl
  | s :: r => by
    show (PyData.canLay0 (stD s) && PyData.canLayAll0 (r.map stD)) = true
    rw [stDs_lay r]
    rfl
theorem stDs_depth : ∀ ss : List St5, PyData.depthAll (ss.map stD) ≤ 2
  | [] => by decide
  | s :: r => by
    have := stDs_depth r
    show max (PyData.depth (stD s)) (PyData.depthAll (r.map stD)) ≤ 2
    rw [stD_depth]
    omega
theorem stD_shaped (s : St5) : SeqAt.shaped (stD s) = true := rfl
theorem stDs_shaped (ss : List St5) : SeqAt.shaped (.list (ss.map stD)) = true := by
  have h : PyData.depth (.list (ss.map stD)) ≤ 64 := by
    have := stDs_depth ss
    show PyData.depthAll (ss.map stD) + 1 ≤ 64
    omega
  show (PyData.canLayAll0 (ss.map stD) && decide (PyData.depth (.list (ss.map stD)) ≤ 64)) = true
  rw [stDs_lay, decide_eq_true h]
  rfl
/-- a step between so many places -/
structure StOk (n : Int) (s : St5) : Prop where
  o0 : 0 ≤ s.one
  o1 : s.one < n
  t0 : 0 ≤ s.other
  t1 : s.other < n
  k : 1 ≤ s.ticks
/-- and small -/
structure StSm (s : St5) : Prop where
  p0 : -9 ≤ s.p
  p1 : s.p ≤ 9
  q0 : -9 ≤ s.q
  q1 : s.q ≤ 9
  k1 : s.ticks ≤ 6
  c0 : -9 ≤ s.change
  c1 : s.change ≤ 9
/-! ### loops over enumerate(list) -/
theorem for_enumL {K : PySem.W.Frag} {a : Addr} {xs : List V} {g : TG} {tb : TS} {D : Ends} {σ : L2.St} {H : Hp} (Pv : Nat → L2.St → Hp → Prop) (h0 : Pv 0 σ H) (hl : ∀ i σ H, i ≤ xs.length → Pv i σ H → SqL K H a xs)
    (hs : ∀ (i : Nat) (x : V) (σ : L2.St) (H : Hp) (T : Addr), xs[i]? = some x → Pv i σ H → H T = none → g (.ref T) σ (upd H T (.tup [.int (i : Nat), x])) fun σ2 H2 => tb { D with nx := Pv (i + 1), ct := Pv (i + 1), bk := D.nx } σ2 H2) (hd : ∀ σ H, Pv xs.length σ H → D.nx σ H) :
    ∃ W : Nat → Nat → L2.St → Hp → Prop, (∃ m, W 0 m σ H) ∧ ∀ i m σ H, W i m σ H →
      ((Ite K a).stop i H ∧ D.nx σ H) ∨ ((Ite K a).go i H ∧ ∃ N : L2.St → Hp → Prop, (∀ σ' H', N σ' H' → ∃ m', m' < m ∧ W (i + 1) m' σ' H') ∧ ∀ x H', (Ite K a).yld i H x H' → g x σ H' fun σ2 H2 => tb { D with nx := N, ct := N, bk := D.nx } σ2 H2) := by
  refine ⟨fun i m σ H => m = xs.length - i ∧ i ≤ xs.length ∧ Pv i σ H, ⟨xs.length, by simp, Nat.zero_le _, h0⟩, ?_⟩
  rintro i m σ H ⟨rfl, hi, p⟩
  have q := hl i σ H hi p
  by_cases hlt : i < xs.length
  · refine .inr ⟨⟨xs, xs[i], q, by simp [hlt]⟩, Pv (i + 1), fun σ' H' p' => ⟨xs.length - (i + 1), by omega, rfl, hlt, p'⟩, fun x H' y => ?_⟩
    obtain ⟨T, z, rfl, hT, rfl, e⟩ := y
    exact hs i z σ _ T (e xs q) p hT
  · have e : i = xs.length := by omega
    subst e
    exact .inl ⟨⟨xs, q, Nat.le_refl _⟩, hd σ H p⟩
theorem atI_back {α : Type} {xs : List α} {i : Nat} (h : i < xs.length) : ∃ y, atI xs ((i : Int) - 1) = some y ∧ y ∈ xs := by
  cases i with
  | zero =>
    have e : ixN xs.length (((0 : Nat) : Int) - 1) = some (xs.length - 1) := by
      unfold ixN
      rw [if_neg (by omega), if_pos (by omega)]
      congr 1
      omega
    have hl : xs.length - 1 < xs.length := by omega
    refine ⟨xs[xs.length - 1], ?_, List.getElem_mem hl⟩
    unfold atI
    rw [e]
    exact List.getElem?_eq_getElem hl
  | succ i =>
    have e : ((i + 1 : Nat) : Int) - 1 = (i : Int) := by omega
    rw [e]
    have hl : i < xs.length := by omega
    exact ⟨xs[i], atI_nat (List.getElem?_eq_getElem hl), List.getElem_mem hl⟩
end AA

set_option Elab.async false
set_option linter.all false
set_option maxRecDepth 100000
set_option maxHeartbeats 4000000
namespace AA
open PySem PySem.Spec PyProof.Rows L2 Evl

section
variable {P : Program} {w : World} {K : PySem.W.Frag} {mg : Str → Option Value} {base : Heap}
def spDraw : Sp := fun vs H Q _ => ∃ (a b : Addr) (n : Nat) (m : Int), vs = [.ref a, .int m] ∧ SAt H a b n ∧ n < 1000000000 ∧ 0 < m ∧ m < 1000000000 ∧
  ∀ (H' : Hp) (i : Int), ExS a b H H' → SAt H' a b (n + 1) → 0 ≤ i → i < m → Q (.int i) H'
theorem scDraw : FnScope ["_law_stream_here", "_law_many", "_law_cell", "_law_digit", "_law_mixed_here"] ["_law_stream_here", "_law_many"] (defScope sDraw) := ⟨rfl, rfl, rfl, by decide +kernel, rfl, by decide +kernel, by decide +kernel⟩

theorem ok_draw {f : Addr} {fd : FuncData} (F : L2.Fun K "_law_draw" "_law_draw" sDraw f fd) (T : Bn mg) : FnOk P w K mg base CX0 1 f fd ["_law_stream_here", "_law_many"] spDraw := by
  refine F.ok scDraw (fun vs H Q E h => ?_) (fun cdv A outer s H vs Q E hr h => ?_)
  · obtain ⟨a, b, n, m, rfl, _⟩ := h
    rfl
  · obtain ⟨a, b, n, m, rfl, hS, hn, hm0, hm1, k⟩ := h
    refine ⟨_, pss_cons (ps_asg (pe_op op_add (pe_ix ix_list (pv 0) pe_int (fun _ _ => rfl)) pe_int) (pg_sub (pv 0) pe_int set_list))
      (Evl.pss_cut (ps_while PassesOwn.never (PW.pt (pw_and (pt_cmpR op_eq (pe_ix ix_list (pv 0) pe_int (fun _ _ => rfl)) pe_int (nomark _))
            (pw_and1 (pt_cmpR (op_neD hr.units) (pe_ix ix_list (pv 0) pe_int (fun _ _ => rfl)) (pe_lst pa_nil) (nomark _)))))
          (pss_cons (ps_set (i := 2) scDraw.nd rfl (Or.inl rfl) (pe_callB call_abs (by rfl) T.abs boot_abs (pa_cons (pe_bm PySem.F.plainAttrs_list PySem.F.slot_list_pop PySem.F.type_list_pop mt_popAt (pe_ix ix_list (pv 0) pe_int (fun _ _ => rfl)) (pa_cons pe_int pa_nil)) pa_nil)))
          (pss_cons (ps_asg (pe_op op_mod (pe_callTy call_int1 (by rfl) T.int boot_int (pa_cons (pe_op op_add (pe_op op_add (pe_op op_mul (pe_ix ix_list (pv 0) pe_int (fun _ _ => rfl)) pe_int) (pv 2)) pe_int) pa_nil)) pe_int) (pg_sub (pv 0) pe_int set_list))
          (pss_one (ps_asg (pe_ifExp (pt_cmpR op_ge (pv 2) (pe_op op_pow pe_int pe_int) (nomark _)) (pv 2) pe_int) (pg_sub (pv 0) pe_int set_list))))))
      (pss_cons (ps_if (pt_cmpR op_gt (pe_ix ix_list (pv 0) pe_int (fun _ _ => rfl)) pe_int (nomark _))
          (pss_cons (ps_set (i := 3) scDraw.nd rfl (Or.inl rfl) (pe_op op_mod (pe_callTy call_int1 (by rfl) T.int boot_int (pa_cons (pe_ix ix_list (pv 0) pe_int (fun _ _ => rfl)) pa_nil)) (pv 1)))
          (pss_cons (ps_asg (pe_op op_fdiv (pe_ix ix_list (pv 0) pe_int (fun _ _ => rfl)) (pv 1)) (pg_sub (pv 0) pe_int set_list))
          (pss_one (ps_ret (pv 3)))))
          pss_nil)
      (pss_cons (ps_set (i := 4) scDraw.nd rfl (Or.inl rfl) (pe_op op_mod (pe_callTy call_int1 (by rfl) T.int boot_int (pa_cons (pe_op op_pow (pe_op op_add (pe_op op_add (pe_ix ix_list (pv 0) pe_int (fun _ _ => rfl)) (pe_op op_mul pe_int (pe_ix ix_list (pv 0) pe_int (fun _ _ => rfl)))) pe_int) pe_int) pa_nil)) pe_int))
      (pss_one (ps_ret (pe_op op_mod (pe_op op_mod (pe_callTy call_int1 (by rfl) T.int boot_int (pa_cons (pe_op op_pow (pe_op op_add (pe_op op_add (pe_op op_mul (pv 4) pe_int) (pe_op op_mul pe_int (pe_ix ix_list (pv 0) pe_int (fun _ _ => rfl)))) pe_int) pe_int) pa_nil)) pe_int) (pv 1))))))), ?_⟩
    have hab := hS.ne
    obtain ⟨ns, c1, c2, c3, hA, hB, hl, p1, p2, p2', p3, p3'⟩ := hS
    -- stream[2] = stream[2] + 1
    refine ⟨_, rfl, a, _, 2, .int c2, rfl, rfl, SqL.of hA, rfl, _, _, rfl, rfl, _, rfl, a, _, 2, 2, rfl, rfl, hA, rfl, ?_⟩
    have eA : upd H a (.lst [.ref b, .int c1, .int (c2 + 1), .int c3]) a = some (.lst [.ref b, .int c1, .int (c2 + 1), .int c3]) := upd_same
    refine ⟨fun σ H2 => ∃ (ms : List Int) (d1 d3 : Int) (x2 : Option V), σ = [some (.ref a), some (.int m), x2, none, none] ∧ ExS a b H H2 ∧ H2 a = some (.lst [.ref b, .int d1, .int (c2 + 1), .int d3]) ∧
        H2 b = some (.lst (ms.map V.int)) ∧ ms.length ≤ 63 ∧ 0 ≤ d1 ∧ 0 ≤ d3 ∧ d3 < 2147483647, ?_, ?_⟩
    · refine ⟨fun mm σ H1 => ∃ (ms : List Int) (d1 d3 : Int) (x2 : Option V), σ = [some (.ref a), some (.int m), x2, none, none] ∧ ExS a b H H1 ∧ H1 a = some (.lst [.ref b, .int d1, .int (c2 + 1), .int d3]) ∧
          H1 b = some (.lst (ms.map V.int)) ∧ ms.length ≤ 63 ∧ ms.length = mm ∧ 0 ≤ d1 ∧ 0 ≤ d3 ∧ d3 < 2147483647, ⟨ns.length, ns, c1, c3, none, rfl, (ExS.rfl (H := H)).upda, eA, by rw [upd_ne hab.symm]; exact hB, hl, rfl, p1, p3, p3'⟩, ?_⟩
      rintro mm σ H1 ⟨ms, d1, d3, x2, rfl, hX, hA1, hB1, hl1, rfl, q1, q3, q3'⟩
      refine ⟨_, rfl, a, _, 1, .int d1, rfl, rfl, SqL.of hA1, rfl, rfl, _, rfl, ?_⟩
      by_cases hd : d1 = 0
      · subst hd
        refine iteT ?_
        refine ⟨_, rfl, a, _, 0, .ref b, rfl, rfl, SqL.of hA1, rfl, Nat.zero_le _, fun l hl0 => ?_⟩
        have hbl : b ≠ l := ne_of_none hB1 hl0
        have hal : a ≠ l := ne_of_none hA1 hl0
        have hB2 : upd H1 l (.lst []) b = some (.lst (ms.map V.int)) := by rw [upd_ne hbl]; exact hB1
        have hA2 : upd H1 l (.lst []) a = some (.lst [.ref b, .int 0, .int (c2 + 1), .int d3]) := by rw [upd_ne hal]; exact hA1
        refine ⟨.list (ms.map PyData.int), .list [], .lst (SqL.of hB2) (dp_ints ms), .lst (SqL.of upd_same) .nil, shaped_ints ms, rfl, _, rfl, ?_⟩
        rw [eqv_ints_nil]
        cases ms with
        | nil =>
          refine iteF ?_
          exact ⟨[], 0, d3, x2, rfl, hX.new hl0, hA2, hB2, hl1, q1, q3, q3'⟩
        | cons c ms =>
          refine iteT ?_
          refine ⟨fun σ H3 => ∃ (d1 d3 : Int) (x2 : Option V), σ = [some (.ref a), some (.int m), x2, none, none] ∧ ExS a b H H3 ∧ H3 a = some (.lst [.ref b, .int d1, .int (c2 + 1), .int d3]) ∧
            H3 b = some (.lst (ms.map V.int)) ∧ 0 ≤ d1 ∧ 0 ≤ d3 ∧ d3 < 2147483647, ?_, ?_⟩
          · rintro σ' H' ⟨d1, d3, x2, e, z1, z2, z3, z4, z5, z6⟩
            exact ⟨ms.length, Nat.lt_succ_self _, ms, d1, d3, x2, e, z1, z2, z3, by have : (c :: ms).length ≤ 63 := hl1; rw [List.length_cons] at this; omega, rfl, z4, z5, z6⟩
          · -- cell = abs(stream[0].pop(0))
            refine ⟨_, rfl, a, _, 0, .ref b, rfl, rfl, SqL.of hA2, rfl, .inl ⟨rfl, _, SqL.of hB2⟩, b, _, 0, 0, .int c, rfl, rfl, hB2, by decide, by decide, seqIndex_of (k := 0) (by decide) (by show (0 : Int) < (((c :: ms).map V.int).length : Int); rw [List.length_map, List.length_cons]; omega), rfl, _, rfl, ?_⟩
            have hA3 : upd (upd H1 l (.lst [])) b (.lst (ms.map V.int)) a = some (.lst [.ref b, .int 0, .int (c2 + 1), .int d3]) := by rw [upd_ne hab]; exact hA2
            -- stream[3] = int(stream[3] * 8191 + cell + 3) % 2147483647
            generalize hcell : (if c < 0 then -c else c) = cell
            have hc0 : 0 ≤ cell := by rw [← hcell]; split <;> omega
            refine ⟨_, rfl, a, _, 3, .int d3, rfl, rfl, SqL.of hA3, rfl, _, _, rfl, rfl, .inr ⟨by decide, by decide⟩, _, rfl, _, _, rfl, rfl, _, _, rfl, rfl, .inl ⟨_, rfl, ?_⟩⟩
            refine ⟨_, _, rfl, rfl, (by show (0 : Int) < 2147483647; decide), _, rfl, a, _, 3, 3, rfl, rfl, hA3, rfl, ?_⟩
            -- stream[1] = cell if cell >= 10 ** 18 else 0
            refine ⟨_, rfl, _, _, rfl, rfl, ⟨by decide, by decide, by decide⟩, _, _, rfl, rfl, _, rfl, ?_⟩
            refine ite2 (fun _ => ?_) (fun _ => ?_)
            · refine ⟨_, rfl, _, rfl, a, _, 1, 1, rfl, rfl, upd_same, rfl, ?_⟩
              exact ⟨cell, _, _, rfl, (((hX.new hl0).updb).upda).upda, upd_same, by rw [upd_ne hab.symm, upd_ne hab.symm, upd_same]; rfl, hc0, Int.emod_nonneg _ (by decide), Int.emod_lt_of_pos _ (by decide)⟩
            · refine ⟨_, rfl, a, _, 1, 1, rfl, rfl, upd_same, rfl, ?_⟩
              exact ⟨0, _, _, rfl, (((hX.new hl0).updb).upda).upda, upd_same, by rw [upd_ne hab.symm, upd_ne hab.symm, upd_same]; rfl, Int.le_refl _, Int.emod_nonneg _ (by decide), Int.emod_lt_of_pos _ (by decide)⟩
      · have e : decide (V.int d1 = V.int 0) = false := decide_eq_false (fun e => hd (V.int.inj e))
        rw [e]
        refine iteF ?_
        refine iteF ?_
        exact ⟨ms, d1, d3, x2, rfl, hX, hA1, hB1, hl1, q1, q3, q3'⟩
    · rintro σ H2 ⟨ms, d1, d3, x2, rfl, hX, hA2, hB2, hl2, q1, q3, q3'⟩
      refine ⟨_, rfl, a, _, 1, .int d1, rfl, rfl, SqL.of hA2, rfl, _, _, rfl, rfl, _, rfl, ?_⟩
      refine ite2 (fun hp => ?_) (fun hp => ?_)
      · refine ⟨_, rfl, a, _, 1, .int d1, rfl, rfl, SqL.of hA2, rfl, .inl ⟨_, rfl, _, rfl, _, _, rfl, rfl, hm0, ?_⟩⟩
        refine ⟨_, rfl, a, _, 1, .int d1, rfl, rfl, SqL.of hA2, rfl, _, rfl, _, _, rfl, rfl, ⟨hm0, by omega⟩, _, rfl, a, _, 1, 1, rfl, rfl, hA2, rfl, ?_⟩
        refine ⟨_, rfl, ?_⟩
        refine k _ _ hX.upda ⟨ms, d1 / m, c2 + 1, d3, upd_same, by rw [upd_ne hab.symm]; exact hB2, hl2, Int.ediv_nonneg q1 (by omega), by omega, by omega, q3, q3'⟩ (Int.emod_nonneg _ (by omega)) (Int.emod_lt_of_pos _ hm0)
      · refine ⟨_, rfl, a, _, 3, .int d3, rfl, rfl, SqL.of hA2, rfl, _, rfl, a, _, 2, .int (c2 + 1), rfl, rfl, SqL.of hA2, rfl, _, _, rfl, rfl, .inl ⟨by decide, by decide⟩, _, _, rfl, rfl, _, _, rfl, rfl, _, _, rfl, rfl, ⟨by decide, by decide, ?_⟩, .inl ⟨_, rfl, ?_⟩⟩
        · have : (2:Nat) ^ 64 = 18446744073709551616 := by decide
          rw [this]
          omega
        refine ⟨_, _, rfl, rfl, (by show (0 : Int) < 2147483629; decide), ?_⟩
        generalize hmx : ((d3 + 7919 * (c2 + 1) + 104729) ^ (5 : Int).toNat % 2147483629 : Int) = mx
        have hx0 : 0 ≤ mx := by rw [← hmx]; exact Int.emod_nonneg _ (by decide)
        have hx1 : mx < 2147483629 := by rw [← hmx]; exact Int.emod_lt_of_pos _ (by decide)
        refine ⟨_, rfl, _, _, rfl, rfl, .inr ⟨by decide, by decide⟩, _, rfl, a, _, 2, .int (c2 + 1), rfl, rfl, SqL.of hA2, rfl, _, _, rfl, rfl, .inl ⟨by decide, by decide⟩, _, _, rfl, rfl, _, _, rfl, rfl, _, _, rfl, rfl, ⟨by decide, by decide, ?_⟩, .inl ⟨_, rfl, ?_⟩⟩
        · have : (2:Nat) ^ 64 = 18446744073709551616 := by decide
          rw [this]
          omega
        refine ⟨_, _, rfl, rfl, (by show (0 : Int) < 1000000007; decide), _, rfl, _, _, rfl, rfl, hm0, ?_⟩
        exact k _ _ hX ⟨ms, d1, c2 + 1, d3, hA2, hB2, hl2, q1, by omega, by omega, q3, q3'⟩ (Int.emod_nonneg _ (by omega)) (Int.emod_lt_of_pos _ hm0)
end
end AA

set_option Elab.async false
set_option linter.all false
set_option maxRecDepth 100000
set_option maxHeartbeats 4000000
namespace AA
open PySem PySem.Spec PyProof.Rows L2 Evl
section
variable {P : Program} {w : World} {K : PySem.W.Frag} {mg : Str → Option Value} {base : Heap}
/-! ### _law_stream -/
def spStream (K : PySem.W.Frag) : Sp := fun vs H Q _ => ∃ (s : Addr) (ns : List Int), vs = [.ref s] ∧ SqL K H s (ns.map V.int) ∧ ns.length ≤ 63 ∧
  ∀ (H' : Hp) (a b : Addr), Ex H H' → H a = none → H b = none → SAt H' a b 0 → Q (.ref a) H'
theorem scStream : FnScope ["_law_script"] ["_law_script"] (defScope sStream) := ⟨rfl, rfl, rfl, by decide +kernel, rfl, by decide +kernel, by decide +kernel⟩
theorem ok_stream {f : Addr} {fd : FuncData} (F : L2.Fun K "_law_stream" "_law_stream" sStream f fd) (T : Bn mg) : FnOk P w K mg base CX0 1 f fd ["_law_script"] (spStream K) := by
  refine F.ok scStream (fun vs H Q E h => ?_) (fun cdv A outer s H vs Q E hr h => ?_)
  · obtain ⟨a, ns, rfl, _⟩ := h
    rfl
  · obtain ⟨s0, ns, rfl, hS, hl, k⟩ := h
    refine ⟨_, pss_one (ps_ret (pe_lst (pa_cons (pe_callTy call_list_of (by rfl) T.list boot_list (pa_cons (pv 0) pa_nil)) (pa_cons pe_int (pa_cons pe_int (pa_cons pe_int pa_nil)))))), ?_⟩
    refine ⟨_, rfl, s0, _, rfl, .inl hS, fun b hb => ⟨by show 4 ≤ sizeLine; decide, fun a ha => ?_⟩⟩
    have hba : b ≠ a := ne_of_none upd_same ha
    have ha0 : H a = none := fresh_back (Ex.new hb) ha
    exact k _ a b ((Ex.new hb).trans (Ex.new ha)) ha0 hb ⟨ns, 0, 0, 17, upd_same, by rw [upd_ne hba]; exact upd_same, hl, by decide, by decide, by decide, by decide, by decide⟩

/-! ### _law_pick -/
def spPick (K : PySem.W.Frag) : Sp := fun vs H Q _ => ∃ (a b : Addr) (n : Nat) (t : Addr) (xs : List V), vs = [.ref a, .ref t] ∧ SAt H a b n ∧ n < 1000000000 ∧ SqL K (hid a b H) t xs ∧ 0 < xs.length ∧ xs.length < 1000000 ∧
  ∀ (H' : Hp) (i : Nat) (x : V), ExS a b H H' → SAt H' a b (n + 1) → xs[i]? = some x → Q x H'
theorem scPick : FnScope ["_law_stream_here", "_law_things"] ["_law_stream_here", "_law_things"] (defScope sPick) := ⟨rfl, rfl, rfl, by decide +kernel, rfl, by decide +kernel, by decide +kernel⟩
theorem ok_pick {f : Addr} {fd : FuncData} (F : L2.Fun K "_law_pick" "_law_pick" sPick f fd) (T : Bn mg) (cD : C8.Cal P w K mg base 1 "_law_draw" spDraw []) : FnOk P w K mg base CX0 2 f fd ["_law_stream_here", "_law_things"] (spPick K) := by
  refine F.ok scPick (fun vs H Q E h => ?_) (fun cdv A outer s H vs Q E hr h => ?_)
  · obtain ⟨a, b, n, t, xs, rfl, _⟩ := h
    rfl
  · obtain ⟨a, b, n, t, xs, rfl, hS, hn, hX, h0, h1, k⟩ := h
    refine ⟨_, pss_one (ps_ret (pe_ix ix_list (pv 1) (C8.pe_c cD hr (by decide) (by rfl) (pa_cons (pv 0) (pa_cons (pe_callB call_len_seq (by rfl) T.len PySem.boot_len (pa_cons (pv 1) pa_nil)) pa_nil))) (fun _ _ => rfl))), ?_⟩
    refine ⟨_, rfl, _, rfl, _, rfl, t, xs, rfl, .inl (ex_l hid_ex hX), a, b, n, _, rfl, hS, hn, by omega, by omega, fun H' i hE hS' i0 i1 => ?_⟩
    obtain ⟨j, rfl⟩ : ∃ j : Nat, i = (j : Int) := ⟨i.toNat, by omega⟩
    have hj : j < xs.length := by omega
    refine ⟨t, xs, (j : Int), xs[j], rfl, rfl, ex_l (hid_ex) (ex_l hE hX), atI_nat (List.getElem?_eq_getElem hj), ?_⟩
    exact k H' j _ hE hS' (List.getElem?_eq_getElem hj)

/-! ### _law_mixed -/
def spMixed (K : PySem.W.Frag) : Sp := fun vs H Q _ => ∃ (a b : Addr) (n : Nat) (t : Addr) (xs : List V), vs = [.ref a, .ref t] ∧ SAt H a b n ∧ SqL K (hid a b H) t xs ∧ n + xs.length < 1000000000 ∧ xs.length < 1000000 ∧
  ∀ (H' : Hp) (p : Addr) (ys : List V), ExS a b H H' → SAt H' a b (n + xs.length) → H p = none → H' p = some (.lst ys) → ys.Perm xs → Q (.ref p) H'
theorem scMixed : FnScope ["_law_stream_here", "_law_things", "_law_left", "_law_found", "_law_k"] ["_law_stream_here", "_law_things"] (defScope sMixed) := ⟨rfl, rfl, rfl, by decide +kernel, rfl, by decide +kernel, by decide +kernel⟩
theorem perm_erase {α : Type} : ∀ {l : List α} {i : Nat} {x : α}, l[i]? = some x → (x :: l.eraseIdx i).Perm l
  | [], _, _, h => by simp at h
  | y :: r, 0, x, h => by
    cases (Option.some.inj h)
    exact List.Perm.refl _
  | y :: r, i + 1, x, h => by
    have h' : r[i]? = some x := h
    have ih := perm_erase h'
    exact (List.Perm.swap y x _).trans (ih.cons y)
theorem ok_mixed {f : Addr} {fd : FuncData} (F : L2.Fun K "_law_mixed" "_law_mixed" sMixed f fd) (T : Bn mg) (cD : C8.Cal P w K mg base 1 "_law_draw" spDraw []) : FnOk P w K mg base CX0 2 f fd ["_law_stream_here", "_law_things"] (spMixed K) := by
  refine F.ok scMixed (fun vs H Q E h => ?_) (fun cdv A outer s H vs Q E hr h => ?_)
  · obtain ⟨a, b, n, t, xs, rfl, _⟩ := h
    rfl
  · obtain ⟨a, b, n, t, xs, rfl, hS, hX, hn, h1, k⟩ := h
    refine ⟨_, pss_cons (ps_par (i := 2) (j := 3) (by rfl) scMixed.nd rfl rfl (by decide) rfl rfl (pa_cons (pe_callTy call_list_of (by rfl) T.list boot_list (pa_cons (pv 1) pa_nil)) (pa_cons (pe_lst pa_nil) pa_nil)) (by rfl))
      (pss_cons (ps_for PassesOwn.never rfl (pi_range1 rfl T.range (pa_cons (pe_callB call_len_seq (by rfl) T.len PySem.boot_len (pa_cons (pv 2) pa_nil)) pa_nil)) (pg_name (i := 4) scMixed.nd rfl (Or.inl rfl))
        (pss_one (ps_expr (pe_bm PySem.F.plainAttrs_list PySem.F.slot_list_append PySem.F.type_list_append mt_append (pv 3)
          (pa_cons (pe_bm PySem.F.plainAttrs_list PySem.F.slot_list_pop PySem.F.type_list_pop mt_popAt (pv 2) (pa_cons (C8.pe_c cD hr (by decide) (by rfl) (pa_cons (pv 0) (pa_cons (pe_callB call_len_seq (by rfl) T.len PySem.boot_len (pa_cons (pv 2) pa_nil)) pa_nil))) pa_nil)) pa_nil)))))
      (pss_one (ps_ret (pv 3)))), ?_⟩
    refine ⟨_, rfl, t, xs, rfl, .inl (ex_l hid_ex hX), fun l hl => ⟨Nat.zero_le _, fun g hg => ?_⟩⟩
    have hlg : l ≠ g := ne_of_none upd_same hg
    have hg0 : H g = none := fresh_back (Ex.new hl) hg
    have ee : Ex H (upd (upd H l (.lst xs)) g (.lst [])) := (Ex.new hl).trans (Ex.new hg)
    have hL : upd (upd H l (.lst xs)) g (.lst []) l = some (.lst xs) := by rw [upd_ne hlg]; exact upd_same
    refine ⟨_, _, rfl, ?_⟩
    refine ⟨_, rfl, l, xs, rfl, .inl (SqL.of hL), (xs.length : Int), rfl, ?_, ?_, for_range (lo := 0) (n := ((xs.length : Int)).toNat) (fun i σ H1 => ∃ (zs ys : List V) (x4 : Option V), σ = [some (.ref a), some (.ref t), some (.ref l), some (.ref g), x4] ∧
        ExS a b H H1 ∧ SAt H1 a b (n + i) ∧ H1 l = some (.lst zs) ∧ H1 g = some (.lst ys) ∧ (ys ++ zs).Perm xs ∧ ys.length = i) ?_ ?_ ?_⟩
    · omega
    · omega
    · exact ⟨xs, [], none, rfl, hid_mono ee, hS.ex ee, hL, upd_same, List.Perm.refl _, rfl⟩
    · rintro i σ H1 hi ⟨zs, ys, x4, rfl, hE, hS1, hL1, hG1, hp, hy⟩
      have hlen := hp.length_eq
      rw [List.length_append] at hlen
      have hz : 0 < zs.length := by omega
      refine ⟨_, rfl, .inl ⟨rfl, _, SqL.of hG1⟩, _, rfl, .inl ⟨rfl, _, SqL.of hL1⟩, _, rfl, _, rfl, l, zs, rfl, .inl (SqL.of hL1), a, b, n + i, _, rfl, hS1, by omega, by omega, by omega, fun H2 j hE2 hS2 j0 j1 => ?_⟩
      obtain ⟨j, rfl⟩ : ∃ m : Nat, j = (m : Int) := ⟨j.toNat, by omega⟩
      have hj : j < zs.length := by omega
      have la := hS.nea hl
      have lb := hS.neb hl
      have ga := hS.nea hg0
      have gb := hS.neb hg0
      have hL2 := hE2.at hL1 la lb
      have hG2 := hE2.at hG1 ga gb
      refine ⟨l, zs, (j : Int), j, zs[j], rfl, rfl, hL2, by omega, by omega, by rw [seqIndex_of (by omega) (by omega)]; rfl, List.getElem?_eq_getElem hj, ?_⟩
      have hG3 : upd H2 l (.lst (zs.eraseIdx j)) g = some (.lst ys) := by rw [upd_ne hlg.symm]; exact hG2
      refine ⟨g, ys, _, rfl, rfl, hG3, by rw [hy]; exact sz_m (by omega), ?_⟩
      refine ⟨zs.eraseIdx j, ys ++ [zs[j]], _, rfl, ?_, ((hS2.upd la lb).upd ga gb), by rw [upd_ne hlg]; exact upd_same, upd_same, ?_, by rw [List.length_append, hy]; rfl⟩
      · exact ExS.own (ExS.own (hE.trans hE2) hl la lb) hg0 ga gb
      · have q := perm_erase (List.getElem?_eq_getElem hj)
        rw [List.append_assoc]
        exact (List.Perm.append_left ys q).trans hp
    · rintro σ H1 ⟨zs, ys, x4, rfl, hE, hS1, hL1, hG1, hp, hy⟩
      have e : (xs.length : Int).toNat = xs.length := by omega
      have hz : zs = [] := by
        have hlen := hp.length_eq
        rw [List.length_append] at hlen
        exact List.eq_nil_of_length_eq_zero (by omega)
      subst hz
      rw [List.append_nil] at hp
      rw [e] at hS1
      exact ⟨_, rfl, k H1 g ys hE hS1 hg0 hG1 hp⟩
end
end AA

set_option Elab.async false
set_option linter.all false
set_option maxRecDepth 100000
set_option maxHeartbeats 4000000
namespace AA
open PySem PySem.Spec PyProof.Rows L2 Evl
section
variable {P : Program} {w : World} {K : PySem.W.Frag} {mg : Str → Option Value} {base : Heap}
/-! ### _law_amounts -/
def spAmounts : Sp := fun vs H Q _ => ∃ (a b : Addr) (n : Nat) (m : Int), vs = [.ref a, .int m] ∧ SAt H a b n ∧ n < 900000000 ∧
  ∀ (H' : Hp) (p : Addr) (x y : Int), ExS a b H H' → SAt H' a b (n + 2) → H p = none → H' p = some (.tup [.int x, .int y]) → -9 ≤ x → x ≤ 9 → -9 ≤ y → y ≤ 9 → Q (.ref p) H'
theorem scAmounts : FnScope ["_law_stream_here", "_law_way_here"] ["_law_stream_here", "_law_way_here"] (defScope sAmounts) := ⟨rfl, rfl, rfl, by decide +kernel, rfl, by decide +kernel, by decide +kernel⟩
theorem dec_int {x y : Int} : decide (V.int x = V.int y) = decide (x = y) := by
  by_cases h : x = y
  · subst h
    rw [decide_eq_true rfl, decide_eq_true rfl]
  · rw [decide_eq_false h, decide_eq_false (fun e => h (V.int.inj e))]
theorem dec_ite {A B : Prop} {p : Prop} [Decidable p] (h1 : p → A) (h2 : ¬ p → B) : if decide p = true then A else B := by
  by_cases h : p
  · rw [if_pos (decide_eq_true h)]
    exact h1 h
  · rw [if_neg (by rw [decide_eq_false h]; exact Bool.false_ne_true)]
    exact h2 h
theorem ok_amounts {f : Addr} {fd : FuncData} (F : L2.Fun K "_law_amounts" "_law_amounts" sAmounts f fd) (T : Bn mg) (cD : C8.Cal P w K mg base 1 "_law_draw" spDraw []) (cP : C8.Cal P w K mg base 2 "_law_pick" (spPick K) []) :
    FnOk P w K mg base CX0 3 f fd ["_law_stream_here", "_law_way_here"] spAmounts := by
  refine F.ok scAmounts (fun vs H Q E h => ?_) (fun cdv A outer s H vs Q E hr h => ?_)
  · obtain ⟨a, b, n, m, rfl, _⟩ := h
    rfl
  · obtain ⟨a, b, n, m, rfl, hS, hn, k⟩ := h
    refine ⟨_, pss_cons (ps_if (pt_cmpR op_eq (pv 1) pe_int (nomark _)) (pss_one (ps_ret (pe_tup (pa_cons (C8.pe_c cD hr (by decide) (by rfl) (pa_cons (pv 0) (pa_cons pe_int pa_nil))) (pa_cons (C8.pe_c cD hr (by decide) (by rfl) (pa_cons (pv 0) (pa_cons pe_int pa_nil))) pa_nil))))) pss_nil)
      (pss_cons (ps_if (pt_cmpR op_eq (pv 1) pe_int (nomark _)) (pss_one (ps_ret (pe_tup (pa_cons (pe_op op_sub (C8.pe_c cD hr (by decide) (by rfl) (pa_cons (pv 0) (pa_cons pe_int pa_nil))) pe_int) (pa_cons (pe_op op_sub (C8.pe_c cD hr (by decide) (by rfl) (pa_cons (pv 0) (pa_cons pe_int pa_nil))) pe_int) pa_nil))))) pss_nil)
      (pss_cons (ps_if (pt_cmpR op_eq (pv 1) pe_int (nomark _)) (pss_one (ps_ret (pe_tup (pa_cons (pe_op op_sub (C8.pe_c cD hr (by decide) (by rfl) (pa_cons (pv 0) (pa_cons pe_int pa_nil))) pe_int) (pa_cons (pe_op op_sub (C8.pe_c cD hr (by decide) (by rfl) (pa_cons (pv 0) (pa_cons pe_int pa_nil))) pe_int) pa_nil))))) pss_nil)
      (pss_one (ps_ret (pe_tup (pa_cons (C8.pe_c cP hr (by decide) (by rfl) (pa_cons (pv 0) (pa_cons (pe_lst (pa_cons pe_int (pa_cons pe_int (pa_cons pe_int (pa_cons pe_int (pa_cons pe_int pa_nil)))))) pa_nil)))
        (pa_cons (C8.pe_c cP hr (by decide) (by rfl) (pa_cons (pv 0) (pa_cons (pe_lst (pa_cons pe_int (pa_cons pe_int (pa_cons pe_int (pa_cons pe_int (pa_cons pe_int pa_nil)))))) pa_nil))) pa_nil))))))), ?_⟩
    refine ⟨_, rfl, rfl, _, rfl, ?_⟩
    refine ite2 (fun _ => ?_) (fun _ => ?_)
    · refine ⟨_, rfl, a, b, n, _, rfl, hS, by omega, by decide, by decide, fun H1 x e1 s1 x0 x1 => ?_⟩
      refine ⟨_, rfl, a, b, n + 1, _, rfl, s1, by omega, by decide, by decide, fun H2 y e2 s2 y0 y1 => ?_⟩
      refine ⟨by show 2 ≤ sizeLine; decide, fun p hp => ?_⟩
      exact k _ p x y (ExS.new (e1.trans e2) hp) (s2.ex (Ex.new hp)) (ExS.back (e1.trans e2) s2 hp) upd_same (by omega) (by omega) (by omega) (by omega)
    · refine ⟨_, rfl, rfl, _, rfl, ?_⟩
      refine ite2 (fun _ => ?_) (fun _ => ?_)
      · refine ⟨_, rfl, a, b, n, _, rfl, hS, by omega, by decide, by decide, fun H1 x e1 s1 x0 x1 => ?_⟩
        refine ⟨_, _, rfl, rfl, _, rfl, a, b, n + 1, _, rfl, s1, by omega, by decide, by decide, fun H2 y e2 s2 y0 y1 => ?_⟩
        refine ⟨_, _, rfl, rfl, by show 2 ≤ sizeLine; decide, fun p hp => ?_⟩
        exact k _ p (x - 4) (y - 4) (ExS.new (e1.trans e2) hp) (s2.ex (Ex.new hp)) (ExS.back (e1.trans e2) s2 hp) upd_same (by omega) (by omega) (by omega) (by omega)
      · refine ⟨_, rfl, rfl, _, rfl, ?_⟩
        refine ite2 (fun _ => ?_) (fun _ => ?_)
        · refine ⟨_, rfl, a, b, n, _, rfl, hS, by omega, by decide, by decide, fun H1 x e1 s1 x0 x1 => ?_⟩
          refine ⟨_, _, rfl, rfl, _, rfl, a, b, n + 1, _, rfl, s1, by omega, by decide, by decide, fun H2 y e2 s2 y0 y1 => ?_⟩
          refine ⟨_, _, rfl, rfl, by show 2 ≤ sizeLine; decide, fun p hp => ?_⟩
          exact k _ p (x - 9) (y - 9) (ExS.new (e1.trans e2) hp) (s2.ex (Ex.new hp)) (ExS.back (e1.trans e2) s2 hp) upd_same (by omega) (by omega) (by omega) (by omega)
        · refine ⟨_, rfl, by show 5 ≤ sizeLine; decide, fun l hl => ?_⟩
          have la := hS.nea hl
          have lb := hS.neb hl
          refine ⟨a, b, n, l, _, rfl, hS.upd la lb, by omega, SqL.of (by rw [hid_ne la lb]; exact upd_same), by decide, by decide, fun H1 i x e1 s1 hi => ?_⟩
          obtain ⟨c, hc, rfl⟩ := get_ints (ns := [0, 0, 0, 1, 3]) hi
          have hc1 : ∀ z ∈ ([0, 0, 0, 1, 3] : List Int), -9 ≤ z ∧ z ≤ 9 := by decide
          have hcb := hc1 c (mem_of_get hc)
          refine ⟨_, rfl, by show 5 ≤ sizeLine; decide, fun l2 hl2 => ?_⟩
          have la2 := s1.nea hl2
          have lb2 := s1.neb hl2
          refine ⟨a, b, n + 1, l2, _, rfl, s1.upd la2 lb2, by omega, SqL.of (by rw [hid_ne la2 lb2]; exact upd_same), by decide, by decide, fun H2 i2 y e2 s2 hi2 => ?_⟩
          obtain ⟨d, hd, rfl⟩ := get_ints (ns := [0, 0, 0, 1, 2]) hi2
          have hd1 : ∀ z ∈ ([0, 0, 0, 1, 2] : List Int), -9 ≤ z ∧ z ≤ 9 := by decide
          have hdb := hd1 d (mem_of_get hd)
          have ee : ExS a b H H2 := (hid_mono (Ex.new hl)).trans (e1.trans ((hid_mono (Ex.new hl2)).trans e2))
          refine ⟨by show 2 ≤ sizeLine; decide, fun p hp => ?_⟩
          exact k _ p c d (ExS.new ee hp) (s2.ex (Ex.new hp)) (ExS.back ee s2 hp) upd_same hcb.1 hcb.2 hdb.1 hdb.2
end
end AA

set_option Elab.async false
set_option linter.all false
set_option maxRecDepth 100000
set_option maxHeartbeats 4000000
namespace AA
open PySem PySem.Spec PyProof.Rows L2 Evl
section
variable {P : Program} {w : World} {K : PySem.W.Frag} {mg : Str → Option Value} {base : Heap}
/-! ### _law_step -/
def spStep (K : PySem.W.Frag) : Sp := fun vs H Q _ => ∃ (a b : Addr) (n : Nat) (o t m : Int), vs = [.ref a, .int o, .int t, .int m] ∧ SAt H a b n ∧ n < 800000000 ∧
  ∀ (H' : Hp) (p : Addr) (s : St5), ExS a b H H' → SAt H' a b (n + 5) → H p = none → Dp K (tps H') (.ref p) (stD s) → s.one = o → s.other = t → 1 ≤ s.ticks → StSm s → Q (.ref p) H'
theorem scStep : FnScope ["_law_stream_here", "_law_one", "_law_other", "_law_way_here", "_law_ticks", "_law_change"] ["_law_stream_here", "_law_one", "_law_other", "_law_way_here"] (defScope sStep) := ⟨rfl, rfl, rfl, by decide +kernel, rfl, by decide +kernel, by decide +kernel⟩
theorem ok_step {f : Addr} {fd : FuncData} (F : L2.Fun K "_law_step" "_law_step" sStep f fd) (T : Bn mg) (cD : C8.Cal P w K mg base 1 "_law_draw" spDraw []) (cP : C8.Cal P w K mg base 2 "_law_pick" (spPick K) []) (cA : C8.Cal P w K mg base 3 "_law_amounts" spAmounts []) :
    FnOk P w K mg base CX0 4 f fd ["_law_stream_here", "_law_one", "_law_other", "_law_way_here"] (spStep K) := by
  refine F.ok scStep (fun vs H Q E h => ?_) (fun cdv A outer s H vs Q E hr h => ?_)
  · obtain ⟨a, b, n, o, t, m, rfl, _⟩ := h
    rfl
  · obtain ⟨a, b, n, o, t, m, rfl, hS, hn, k⟩ := h
    refine ⟨_, pss_cons (ps_set (i := 4) scStep.nd rfl (Or.inl rfl) (pe_op op_add pe_int (C8.pe_c cD hr (by decide) (by rfl) (pa_cons (pv 0) (pa_cons (C8.pe_c cP hr (by decide) (by rfl) (pa_cons (pv 0) (pa_cons (pe_lst (pa_cons pe_int (pa_cons pe_int (pa_cons pe_int pa_nil)))) pa_nil))) pa_nil)))))
      (pss_cons (ps_set (i := 5) scStep.nd rfl (Or.inl rfl) (C8.pe_c cP hr (by decide) (by rfl) (pa_cons (pv 0) (pa_cons (pe_lst (pa_cons pe_int (pa_cons pe_int (pa_cons pe_int (pa_cons (pe_un un_neg pe_int) (pa_cons pe_int (pa_cons (pe_un un_neg pe_int) (pa_cons pe_int (pa_cons (pe_un un_neg pe_int) (pa_cons pe_int pa_nil)))))))))) pa_nil))))
      (pss_one (ps_ret (pe_tup (pa_cons (pv 1) (pa_cons (pv 2) (pa_cons (C8.pe_c cA hr (by decide) (by rfl) (pa_cons (pv 0) (pa_cons (pv 3) pa_nil))) (pa_cons (pv 4) (pa_cons (pv 5) pa_nil))))))))), ?_⟩
    -- ticks
    refine ⟨_, rfl, _, rfl, by show 3 ≤ sizeLine; decide, fun l hl => ?_⟩
    have la := hS.nea hl
    have lb := hS.neb hl
    refine ⟨a, b, n, l, _, rfl, hS.upd la lb, by omega, SqL.of (by rw [hid_ne la lb]; exact upd_same), by decide, by decide, fun H1 i x e1 s1 hi => ?_⟩
    obtain ⟨c, hc, rfl⟩ := get_ints (ns := [1, 2, 6]) hi
    have hc1 : ∀ z ∈ ([1, 2, 6] : List Int), 1 ≤ z ∧ z ≤ 6 := by decide
    have hcb := hc1 c (mem_of_get hc)
    refine ⟨a, b, n + 1, c, rfl, s1, by omega, by omega, by omega, fun H2 d e2 s2 d0 d1 => ?_⟩
    refine ⟨_, _, rfl, rfl, ?_⟩
    -- change
    refine ⟨_, rfl, _, rfl, _, rfl, _, rfl, by show 9 ≤ sizeLine; decide, fun l2 hl2 => ?_⟩
    have la2 := s2.nea hl2
    have lb2 := s2.neb hl2
    refine ⟨a, b, n + 2, l2, _, rfl, s2.upd la2 lb2, by omega, SqL.of (by rw [hid_ne la2 lb2]; exact upd_same), by decide, by decide, fun H3 j y e3 s3 hj => ?_⟩
    obtain ⟨g, hg, rfl⟩ := get_ints (ns := [0, 0, 1, -1, 2, -3, 5, -9, 9]) hj
    have hg1 : ∀ z ∈ ([0, 0, 1, -1, 2, -3, 5, -9, 9] : List Int), -9 ≤ z ∧ z ≤ 9 := by decide
    have hgb := hg1 g (mem_of_get hg)
    have ee : ExS a b H H3 := (hid_mono (Ex.new hl)).trans (e1.trans (e2.trans ((hid_mono (Ex.new hl2)).trans e3)))
    refine ⟨_, rfl, _, rfl, _, rfl, _, rfl, a, b, n + 3, m, rfl, s3, by omega, fun H4 u x y e4 s4 hu hu4 x0 x1 y0 y1 => ?_⟩
    refine ⟨_, rfl, _, rfl, by show 5 ≤ sizeLine; decide, fun p hp => ?_⟩
    have hpu : u ≠ p := ne_of_none hu4 hp
    have hu0 := ExS.back ee s3 hu
    have ua := s3.nea hu
    have ub := s3.neb hu
    have hp0 := ExS.back (ee.trans e4) s4 hp
    have pa := s4.nea hp
    have pb := s4.neb hp
    refine k _ p ⟨o, t, x, y, 1 + d, g⟩ (ExS.new (ee.trans e4) hp) (s4.ex (Ex.new hp)) hp0 (stD_mk (u := u) (SqT.of tps_tup) (SqT.of (tps_of ?_))) rfl rfl (by show 1 ≤ 1 + d; omega) ⟨x0, x1, y0, y1, by show 1 + d ≤ 6; omega, hgb.1, hgb.2⟩
    rw [upd_ne hpu]
    exact hu4
end
end AA

set_option Elab.async false
set_option linter.all false
set_option maxRecDepth 100000
set_option maxHeartbeats 4000000
namespace AA
open PySem PySem.Spec PyProof.Rows L2 Evl
theorem cut_to (xs : List V) (j : Nat) : cutV xs none (some (j : Int)) = xs.take j := by
  unfold cutV
  rw [HT.sIx_none, HT.sIx_nat, List.drop_zero, Nat.sub_zero]
  by_cases h : j ≤ xs.length
  · rw [Nat.min_eq_left h]
  · rw [Nat.min_eq_right (by omega), List.take_of_length_le (by omega), List.take_of_length_le (by omega)]
theorem perm_ints {ys : List V} {ns : List Int} (h : ys.Perm (ns.map V.int)) : ∃ ms : List Int, ys = ms.map V.int ∧ ms.Perm ns := by
  have all : ∀ (ys : List V), (∀ y ∈ ys, ∃ i, y = V.int i) → ∃ ms : List Int, ys = ms.map V.int := by
    intro ys
    induction ys with
    | nil => exact fun _ => ⟨[], rfl⟩
    | cons y r ih =>
      intro q
      obtain ⟨i, rfl⟩ := q y List.mem_cons_self
      obtain ⟨ms, rfl⟩ := ih fun z hz => q z (List.mem_cons_of_mem _ hz)
      exact ⟨i :: ms, rfl⟩
  obtain ⟨ms, rfl⟩ := all ys fun y hy => by
    obtain ⟨i, _, e⟩ := List.mem_map.mp (h.mem_iff.mp hy)
    exact ⟨i, e.symm⟩
  refine ⟨ms, rfl, ?_⟩
  have key := h.map (fun v => match v with | V.int i => i | _ => 0)
  rw [List.map_map, List.map_map] at key
  have e : (fun v => match v with | V.int i => i | _ => (0 : Int)) ∘ V.int = id := rfl
  rw [e, List.map_id, List.map_id] at key
  exact key
theorem rgV_ints (n : Int) : rgV 0 n = ((List.range n.toNat).map (fun i : Nat => (i : Int))).map V.int := by
  unfold rgV
  rw [List.map_map]
  have e : (n - 0).toNat = n.toNat := by congr 1; omega
  rw [e]
  apply List.map_congr_left
  intro i _
  show V.int (0 + (i : Int)) = V.int (i : Int)
  rw [Int.zero_add]
theorem range_nodup (n : Nat) : ((List.range n).map (fun i : Nat => (i : Int))).Nodup := by
  have h : (List.range n).Nodup := List.nodup_range
  rw [List.Nodup, List.pairwise_map]
  exact h.imp fun {x y} q z => q (by omega)
/-- a web as the laws draw it: places, unlike steps between them, small -/
structure WbOk (n : Int) (ss : List St5) : Prop where
  n1 : 1 ≤ n
  ok : ∀ s ∈ ss, StOk n s
  sm : ∀ s ∈ ss, StSm s
  nd : ss.Nodup
theorem WbOk.perm {n : Int} {ss ts : List St5} (h : WbOk n ss) (p : ts.Perm ss) : WbOk n ts := ⟨h.n1, fun s hs => h.ok s (p.mem_iff.mp hs), fun s hs => h.sm s (p.mem_iff.mp hs), p.symm.nodup h.nd⟩
theorem any_eqv (ss : List St5) (s : St5) : ((ss.map stD).any fun z => PyData.eqv z (stD s)) = decide (s ∈ ss) := by
  induction ss with
  | nil => rfl
  | cons t r ih =>
    rw [List.map_cons, List.any_cons, ih, stD_eqv]
    by_cases h : t = s
    · subst h
      rw [decide_eq_true rfl, decide_eq_true List.mem_cons_self]
      rfl
    · rw [decide_eq_false h]
      by_cases q : s ∈ r
      · rw [decide_eq_true q, decide_eq_true (List.mem_cons_of_mem _ q)]
        rfl
      · rw [decide_eq_false q, decide_eq_false (fun z => (List.mem_cons.mp z).elim (fun e => h e.symm) q)]
        rfl
/-- a permutation of items goes with one of what they say -/
theorem dpa_perm {K : PySem.W.Frag} {H : Hp} {xs ys : List V} (p : ys.Perm xs) : ∀ {ss : List St5}, DpAll K H xs (ss.map stD) → ∃ ts : List St5, ts.Perm ss ∧ DpAll K H ys (ts.map stD) := by
  induction p with
  | nil => exact fun {ss} h => ⟨ss, List.Perm.refl _, h⟩
  | @cons x l1 l2 _ ih =>
    intro ss h
    cases ss with
    | nil => cases h
    | cons s r =>
      cases h with
      | cons h1 h2 =>
        obtain ⟨ts, q, k⟩ := ih h2
        exact ⟨s :: ts, q.cons s, .cons h1 k⟩
  | swap x y l =>
    intro ss h
    cases ss with
    | nil => cases h
    | cons s r =>
      cases r with
      | nil =>
        cases h with
        | cons h1 h2 => cases h2
      | cons t r =>
        cases h with
        | cons h1 h2 =>
          cases h2 with
          | cons h2 h3 => exact ⟨t :: s :: r, List.Perm.swap s t r, .cons h2 (.cons h1 h3)⟩
  | trans _ _ ih1 ih2 =>
    intro ss h
    obtain ⟨ts, q, k⟩ := ih2 h
    obtain ⟨us, q2, k2⟩ := ih1 k
    exact ⟨us, q2.trans q, k2⟩
section
variable {P : Program} {w : World} {K : PySem.W.Frag} {mg : Str → Option Value} {base : Heap}
end
end AA

set_option Elab.async false
set_option linter.all false
set_option maxRecDepth 100000
set_option maxHeartbeats 4000000
namespace AA
open PySem PySem.Spec PyProof.Rows L2 Evl
/-! ### lists for tuples, tuples for lists -/
mutual
inductive Ls : PyData → PyData → Prop
  | int (i : Int) : Ls (.int i) (.int i)
  | ll {xs ys : List PyData} : LsA xs ys → Ls (.list xs) (.list ys)
  | lt {xs ys : List PyData} : LsA xs ys → Ls (.list xs) (.tuple ys)
  | tl {xs ys : List PyData} : LsA xs ys → Ls (.tuple xs) (.list ys)
  | tt {xs ys : List PyData} : LsA xs ys → Ls (.tuple xs) (.tuple ys)
inductive LsA : List PyData → List PyData → Prop
  | nil : LsA [] []
  | cons {x y : PyData} {xs ys : List PyData} : Ls x y → LsA xs ys → LsA (x :: xs) (y :: ys)
end
theorem LsA.app : ∀ {xs ys us vs : List PyData}, LsA xs ys → LsA us vs → LsA (xs ++ us) (ys ++ vs)
  | [], _, _, _, h, k => by
    cases h
    exact k
  | x :: xs, _, _, _, h, k => by
    cases h with
    | cons h1 h2 => exact .cons h1 (LsA.app h2 k)
mutual
/-- allI in lists and tuples alone -/
def allI : PyData → Bool
  | .int _ => true
  | .list xs => allIA xs
  | .tuple xs => allIA xs
  | _ => false
def allIA : List PyData → Bool
  | [] => true
  | x :: xs => allI x && allIA xs
end
mutual
def cnt : PyData → Nat
  | .list xs => cntA xs + 1
  | .tuple xs => cntA xs + 1
  | _ => 1
def cntA : List PyData → Nat
  | [] => 0
  | x :: xs => cnt x + cntA xs
end
theorem cnt_pos : ∀ d : PyData, 1 ≤ cnt d
  | .none => Nat.le_refl _
  | .bool _ => Nat.le_refl _
  | .int _ => Nat.le_refl _
  | .str _ => Nat.le_refl _
  | .list xs => Nat.le_add_left _ _
  | .tuple xs => Nat.le_add_left _ _
  | .dict _ => Nat.le_refl _
theorem cntA_len : ∀ ds : List PyData, ds.length ≤ cntA ds
  | [] => Nat.le_refl _
  | d :: r => by
    have h1 := cnt_pos d
    have h2 := cntA_len r
    show r.length + 1 ≤ cnt d + cntA r
    omega
theorem cntA_app : ∀ (ds es : List PyData), cntA (ds ++ es) = cntA ds + cntA es
  | [], es => (Nat.zero_add _).symm
  | d :: r, es => by
    show cnt d + cntA (r ++ es) = cnt d + cntA r + cntA es
    rw [cntA_app r es, Nat.add_assoc]
theorem cntA_get {ds : List PyData} {i : Nat} {d : PyData} (h : ds[i]? = some d) : cntA (ds.take (i + 1)) = cntA (ds.take i) + cnt d := by
  rw [List.take_add_one, h]
  show cntA (ds.take i ++ [d]) = _
  rw [cntA_app]
  rfl
theorem cntA_take_le (ds : List PyData) (i : Nat) : cntA (ds.take i) ≤ cntA ds := by
  have : cntA ds = cntA (ds.take i ++ ds.drop i) := by rw [List.take_append_drop]
  rw [this, cntA_app]
  omega
theorem allIA_get : ∀ {ds : List PyData} {i : Nat} {d : PyData}, allIA ds = true → ds[i]? = some d → allI d = true
  | [], _, _, _, e => by simp at e
  | x :: xs, 0, d, h, e => by
    cases (Option.some.inj e)
    exact (Bool.and_eq_true_iff.mp h).1
  | x :: xs, i + 1, d, h, e => allIA_get (i := i) (Bool.and_eq_true_iff.mp h).2 e
theorem depthA_get : ∀ {ds : List PyData} {i : Nat} {d : PyData}, ds[i]? = some d → d.depth ≤ PyData.depthAll ds
  | [], _, _, e => by simp at e
  | x :: xs, 0, d, e => by
    cases (Option.some.inj e)
    show _ ≤ max _ _
    omega
  | x :: xs, i + 1, d, e => by
    have := depthA_get (ds := xs) (i := i) e
    show _ ≤ max _ _
    omega
theorem LsA.len : ∀ {xs ys : List PyData}, LsA xs ys → xs.length = ys.length
  | [], _, h => by
    cases h
    rfl
  | x :: xs, _, h => by
    cases h with
    | cons h1 h2 =>
      rw [List.length_cons, List.length_cons, LsA.len h2]
/-- a walk that is a list's or a tuple's -/
theorem pi_or {X : Cx} {tg l : Expr} {t1 t2 : TI} (h1 : PI X tg l t1) (h2 : PI X tg l t2) : PI X tg l (fun σ H R => t1 σ H R ∨ t2 σ H R) :=
  ⟨fun pins s σ H R I h => h.elim (h1.run pins s σ H R I) (h2.run pins s σ H R I)⟩
theorem ty_l {K : PySem.W.Frag} {H : Hp} {a : Addr} {xs : List V} (h : SqL K H a xs) : TyX K H (.ref a) (.type "list") := by
  rcases h with (h | ⟨o, h⟩) | ⟨o, its, n, h1, h2, _⟩
  · exact .base (.lst h)
  · exact .base (.frz h)
  · exact .kList h1 h2
theorem ty_t {K : PySem.W.Frag} {H : Hp} {a : Addr} {xs : List V} (h : SqT K H a xs) : TyX K H (.ref a) (.type "tuple") := by
  rcases h with (h | ⟨o, h⟩) | ⟨o, its, n, h1, h2, _⟩
  · exact .base (.tup h)
  · exact .fTuple h
  · exact .kTuple h1 h2
theorem seq_yes_l {K : PySem.W.Frag} : PySem.W.kitAny K (.type "list") [.type "list", .type "tuple"] = some true := kitAny_cons (b := true) (kit_ty (by decide +kernel)) (fun z => nomatch z) (fun _ => rfl)
theorem seq_yes_t {K : PySem.W.Frag} : PySem.W.kitAny K (.type "tuple") [.type "list", .type "tuple"] = some true :=
  kitAny_cons (b := false) (kit_ty (by decide +kernel)) (fun _ => kitAny_cons (b := true) (kit_ty (by decide +kernel)) (fun z => nomatch z) (fun _ => rfl)) (fun z => nomatch z)
theorem seq_no_i {K : PySem.W.Frag} : PySem.W.kitAny K (.type "int") [.type "list", .type "tuple"] = some false :=
  kitAny_cons (b := false) (kit_ty (by decide +kernel)) (fun _ => kitAny_cons (b := false) (kit_ty (by decide +kernel)) (fun _ => kitAny_nil) (fun z => nomatch z)) (fun z => nomatch z)
section
variable {P : Program} {w : World} {K : PySem.W.Frag} {mg : Str → Option Value} {base : Heap}
/-! ### _law_loose -/
def spLoose (K : PySem.W.Frag) (D : Nat) : Sp := fun vs H Q _ => ∃ (a b : Addr) (n : Nat) (v : V) (d : PyData), vs = [.ref a, v] ∧ SAt H a b n ∧ Dp K (hid a b H) v d ∧ allI d = true ∧ d.depth < D ∧ n + cnt d < 900000000 ∧ cnt d < 1000000 ∧
  ∀ (H' : Hp) (v' : V) (d' : PyData), ExS a b H H' → SAt H' a b (n + cnt d) → Dp K (nw H H') v' d' → Ls d d' → Q v' H'
theorem scLoose : FnScope ["_law_stream_here", "_law_thing", "_law_some", "_law_one"] ["_law_stream_here", "_law_thing"] (defScope sLoose) := ⟨rfl, rfl, rfl, by decide +kernel, rfl, by decide +kernel, by decide +kernel⟩
theorem ok_loose {f : Addr} {fd : FuncData} (F : L2.Fun K "_law_loose" "_law_loose" sLoose f fd) (T : Bn mg) (hm : mg "_law_loose" = some (.ref f)) (bL : Binds K fd ["_law_stream_here", "_law_thing"] []) (cD : C8.Cal P w K mg base 1 "_law_draw" spDraw []) :
    ∀ D : Nat, FnOk P w K mg base CX0 (D + 2) f fd ["_law_stream_here", "_law_thing"] (spLoose K D)
  | 0 => ⟨fun vs H Q E h => by
      obtain ⟨a, b, n, v, d, rfl, _⟩ := h
      rfl, fun A outer s H args us vs Q E _ _ _ _ h => by
      obtain ⟨a, b, n, v, d, _, _, _, _, h, _⟩ := h
      exact absurd h (Nat.not_lt_zero _)⟩
  | D + 1 => by
    have cL : C8.Cal P w K mg base (D + 2) "_law_loose" (spLoose K D) [] := cal_of F hm bL (ok_loose F T hm bL cD D)
    refine F.ok scLoose (fun vs H Q E h => ?_) (fun cdv A outer s H vs Q E hr h => ?_)
    · obtain ⟨a, b, n, v, d, rfl, _⟩ := h
      rfl
    · obtain ⟨a, b, n, v, d, rfl, hS, hd, hi, hdp, hn, hc, k⟩ := h
      refine ⟨_, pss_cons (ps_if (pt_val (pe_callB call_isiT (by rfl) T.isinstance boot_isinstance (pa_cons (pv 1) (pa_cons (pe_tup (pa_cons (pe_bltn (v := .ty "list") (by rfl) T.list boot_list rfl) (pa_cons (pe_bltn (v := .ty "tuple") (by rfl) T.tuple boot_tuple rfl) pa_nil))) pa_nil))))
          (pss_cons (ps_setLc (i := 2) (own := [("_law_one", 3)]) (g := gName 3) (tt := tYes) (by rfl) scLoose.nd rfl rfl (sw_true rfl rfl rfl (by decide +kernel)) (pi_or (pi_list (pv 1)) (pi_tup (pv 1))) (blkOk_by (N := ["_law_stream_here", "_law_thing", "_law_some", "_law_one"]) (sc := defScope sLoose) (by decide +kernel))
              (fun _ _ _ _ _ => pg_name (i := 3) scLoose.nd rfl (Or.inl rfl)) (fun _ _ _ _ _ => pts_nil) (fun _ _ _ _ _ => C8.pe_c cL hr (by omega) (by rfl) (pa_cons (pv 0) (pa_cons (pv 3) pa_nil))))
            (pss_one (ps_ret (pe_ifExp (pt_cmpR op_eq (C8.pe_c cD hr (by omega) (by rfl) (pa_cons (pv 0) (pa_cons pe_int pa_nil))) pe_int (nomark _)) (pv 2) (pe_callTy call_tuple_of (by rfl) T.tuple boot_tuple (pa_cons (pv 2) pa_nil)))))) pss_nil)
        (pss_one (ps_ret (pv 1))), ?_⟩
      refine ⟨_, rfl, by show 2 ≤ sizeLine; decide, fun p hp => ?_⟩
      have pa := hS.nea hp
      have pb := hS.neb hp
      have e1 : ExS a b H (upd H p (.tup [.ty "list", .ty "tuple"])) := ExS.new ExS.rfl hp
      have s1 := hS.ex (Ex.new (o := .tup [.ty "list", .ty "tuple"]) hp)
      -- the items, whatever they stand in
      have turn : ∀ (c : Addr) (xs : List V) (ds : List PyData) (L : Addr), DpAll K (hid a b H) xs ds → allIA ds = true → PyData.depthAll ds < D → n + cntA ds + 1 < 900000000 → cntA ds < 1000000 → H L = none →
          ∀ (i : Nat) (x : V) (H1 : Hp), xs[i]? = some x →
            (∃ (ys : List V) (es : List PyData), ExS a b H H1 ∧ SAt H1 a b (n + cntA (ds.take i)) ∧ H1 L = some (.lst ys) ∧ DpAll K (hid L L (nw H H1)) ys es ∧ LsA (ds.take i) es ∧ ys.length = i) →
            spLoose K D [.ref a, x] H1 (fun y H4 => ∃ acc, H4 L = some (.lst acc) ∧ acc.length < sizeLine ∧
              ∃ (ys : List V) (es : List PyData), ExS a b H (upd H4 L (.lst (acc ++ [y]))) ∧ SAt (upd H4 L (.lst (acc ++ [y]))) a b (n + cntA (ds.take (i + 1))) ∧ upd H4 L (.lst (acc ++ [y])) L = some (.lst ys) ∧
                DpAll K (hid L L (nw H (upd H4 L (.lst (acc ++ [y]))))) ys es ∧ LsA (ds.take (i + 1)) es ∧ ys.length = i + 1) E := by
        rintro c xs ds L hD hA hdep hn hc hL i x H1 hi ⟨ys, es, hE, hS1, hL1, hY, hLs, hyl⟩
        obtain ⟨di, hdi, hx⟩ := dpa_get hD hi
        have h1 := cntA_take_le ds (i + 1)
        rw [cntA_get hdi] at h1
        have hlen := cntA_len ds
        have hil : i < ds.length := (List.getElem?_eq_some_iff.mp hdi).1
        have la := hS.nea hL
        have lb := hS.neb hL
        refine ⟨a, b, n + cntA (ds.take i), x, di, rfl, hS1, dp_ex hE _ _ hx, allIA_get hA hdi, Nat.lt_of_le_of_lt (depthA_get hdi) hdep, by omega, by omega, fun H2 v' d' e2 s2 hv' hls => ?_⟩
        have hL2 : H2 L = some (.lst ys) := e2.at hL1 la lb
        have ups : Ex (hid L L (nw H H2)) (hid L L (nw H (upd H2 L (.lst (ys ++ [v']))))) := fun z o hz => by
          obtain ⟨z1, z2, _⟩ := hid_some hz
          obtain ⟨z3, z4⟩ := nw_some z1
          rw [hid_ne z2 z2]
          exact nw_of z3 (by rw [upd_ne z2]; exact z4)
        refine ⟨ys, hL2, by rw [hyl]; exact sz_m (by omega), ys ++ [v'], es ++ [d'], ExS.own (hE.trans e2) hL la lb, ?_, upd_same, ?_, ?_, by rw [List.length_append, hyl]; rfl⟩
        · rw [cntA_get hdi, ← Nat.add_assoc]
          exact s2.upd la lb
        · refine dpa_app (dpa_ex ((hid_mono (nw_step hS e2)).trans ups) _ _ hY) (.cons (dp_ex (Ex.trans (fun z o hz => ?_) ups) _ _ hv') .nil)
          obtain ⟨z1, z2⟩ := nw_some hz
          have zL : z ≠ L := fun q => by
            rw [q, hL1] at z1
            cases z1
          rw [hid_ne zL zL]
          exact nw_of (hE.back hS1 z1) z2
        · rw [List.take_add_one, hdi]
          exact LsA.app hLs (.cons hls .nil)
      -- behind the comprehension: what is handed back
      have fin1 : ∀ (ds : List PyData) (L : Addr) (ys : List V) (es : List PyData) (H1 H2 : Hp), H L = none → ExS a b H H1 → SAt H1 a b (n + cntA ds) → H1 L = some (.lst ys) → DpAll K (hid L L (nw H H1)) ys es → (Ls d (.list es) ∧ Ls d (.tuple es)) → cnt d = cntA ds + 1 →
          ExS a b H1 H2 → SAt H2 a b (n + cntA ds + 1) → Q (.ref L) H2 ∧ SqL K H2 L ys ∧ ∀ u, H2 u = none → Q (.ref u) (upd H2 u (.tup ys)) := by
        intro ds L ys es H1 H2 hL hE hS1 hL1 hY hls hcd e2 s2
        have la := hS.nea hL
        have lb := hS.neb hL
        have hL2 : H2 L = some (.lst ys) := e2.at hL1 la lb
        have hY2 := dpa_ex ((hid_mono (nw_step hS e2)).trans hid_ex) _ _ hY
        refine ⟨k H2 (.ref L) (.list es) (hE.trans e2) (s2.mono (by omega)) (.lst (SqL.of (nw_of hL hL2)) hY2) hls.1, SqL.of hL2, fun u hu => ?_⟩
        have hu0 : H u = none := ExS.back (hE.trans e2) s2 hu
        refine k _ (.ref u) (.tuple es) (ExS.new (hE.trans e2) hu) ((s2.ex (Ex.new hu)).mono (by omega)) (.tup (SqT.of (nw_of hu0 upd_same)) (dpa_ex (fun z o hz => ?_) _ _ hY2)) hls.2
        obtain ⟨z1, z2⟩ := nw_some hz
        exact nw_of z1 (Ex.new hu z o z2)
      rcases d with _ | b0 | i0 | x0 | ds | ds | kvs
      · cases hi
      · cases hi
      · cases hd
        refine ⟨.int i0, p, _, _, [.type "list", .type "tuple"], false, rfl, upd_same, .cons (.ty _) (.cons (.ty _) .nil), .base (.int i0), seq_no_i, false, rfl, ?_⟩
        refine iteF ?_
        refine ⟨_, rfl, k _ (.int i0) (.int i0) e1 (s1.mono (by omega)) (.int i0) (.int i0)⟩
      · cases hi
      · cases hd with
        | lst hx hD =>
          rename_i c xs
          have hA : allIA ds = true := hi
          have hdep : PyData.depthAll ds < D := Nat.lt_of_succ_lt_succ hdp
          have hcn : cnt (.list ds) = cntA ds + 1 := rfl
          rw [hcn] at hn hc
          have hxl := dpa_len hD
          refine ⟨_, p, _, _, [.type "list", .type "tuple"], true, rfl, upd_same, .cons (.ty _) (.cons (.ty _) .nil), ty_l (ex_l (e1.trans hid_ex) hx), seq_yes_l, true, rfl, ?_⟩
          refine iteT ?_
          refine Or.inl ⟨_, rfl, c, rfl, ⟨xs, ex_l (e1.trans hid_ex) hx⟩, fun L hL => ?_⟩
          have hL0 : H L = none := fresh_back (Ex.new hp) hL
          have la := hS.nea hL0
          have lb := hS.neb hL0
          refine lc_list (xs := xs) (fun i H1 => ∃ (ys : List V) (es : List PyData), ExS a b H H1 ∧ SAt H1 a b (n + cntA (ds.take i)) ∧ H1 L = some (.lst ys) ∧ DpAll K (hid L L (nw H H1)) ys es ∧ LsA (ds.take i) es ∧ ys.length = i) ?_ ?_ ?_ ?_
          · exact ⟨[], [], ExS.own e1 hL0 la lb, s1.upd la lb, upd_same, .nil, .nil, rfl⟩
          · rintro i H1 _ ⟨ys, es, q⟩
            exact ex_l (q.1.trans hid_ex) hx
          · rintro i x H1 hxi q
            refine ⟨rfl, ?_⟩
            exact ⟨_, rfl, _, rfl, turn c xs ds L hD hA hdep (by omega) (by omega) hL0 i x H1 hxi q⟩
          · rintro H1 ⟨ys, es, hE, hS1, hL1, hY, hls, hyl⟩
            rw [hxl, List.take_of_length_le (Nat.le_refl _)] at hls hS1
            refine ⟨_, rfl, a, b, n + cntA ds, 2, rfl, hS1, by omega, by decide, by decide, fun H2 x e2 s2 x0 x1 => ⟨rfl, _, rfl, ?_⟩⟩
            obtain ⟨f1, f2, f3⟩ := fin1 ds L ys es H1 H2 hL0 hE hS1 hL1 hY ⟨.ll hls, .lt hls⟩ hcn e2 s2
            refine dec_ite (fun _ => ?_) (fun _ => ?_)
            · exact ⟨_, rfl, f1⟩
            · exact ⟨_, rfl, L, ys, rfl, .inl ⟨f2, f3⟩⟩
      · cases hd with
        | tup hx hD =>
          rename_i c xs
          have hA : allIA ds = true := hi
          have hdep : PyData.depthAll ds < D := Nat.lt_of_succ_lt_succ hdp
          have hcn : cnt (.tuple ds) = cntA ds + 1 := rfl
          rw [hcn] at hn hc
          have hxl := dpa_len hD
          refine ⟨_, p, _, _, [.type "list", .type "tuple"], true, rfl, upd_same, .cons (.ty _) (.cons (.ty _) .nil), ty_t (ex_t (e1.trans hid_ex) hx), seq_yes_t, true, rfl, ?_⟩
          refine iteT ?_
          refine Or.inr ⟨_, rfl, c, rfl, ⟨xs, ex_t (e1.trans hid_ex) hx⟩, fun L hL => ?_⟩
          have hL0 : H L = none := fresh_back (Ex.new hp) hL
          have la := hS.nea hL0
          have lb := hS.neb hL0
          refine lc_tup (xs := xs) (fun i H1 => ∃ (ys : List V) (es : List PyData), ExS a b H H1 ∧ SAt H1 a b (n + cntA (ds.take i)) ∧ H1 L = some (.lst ys) ∧ DpAll K (hid L L (nw H H1)) ys es ∧ LsA (ds.take i) es ∧ ys.length = i) ?_ ?_ ?_ ?_
          · exact ⟨[], [], ExS.own e1 hL0 la lb, s1.upd la lb, upd_same, .nil, .nil, rfl⟩
          · rintro i H1 _ ⟨ys, es, q⟩
            exact ex_t (q.1.trans hid_ex) hx
          · rintro i x H1 hxi q
            refine ⟨rfl, ?_⟩
            exact ⟨_, rfl, _, rfl, turn c xs ds L hD hA hdep (by omega) (by omega) hL0 i x H1 hxi q⟩
          · rintro H1 ⟨ys, es, hE, hS1, hL1, hY, hls, hyl⟩
            rw [hxl, List.take_of_length_le (Nat.le_refl _)] at hls hS1
            refine ⟨_, rfl, a, b, n + cntA ds, 2, rfl, hS1, by omega, by decide, by decide, fun H2 x e2 s2 x0 x1 => ⟨rfl, _, rfl, ?_⟩⟩
            obtain ⟨f1, f2, f3⟩ := fin1 ds L ys es H1 H2 hL0 hE hS1 hL1 hY ⟨.tl hls, .tt hls⟩ hcn e2 s2
            refine dec_ite (fun _ => ?_) (fun _ => ?_)
            · exact ⟨_, rfl, f1⟩
            · exact ⟨_, rfl, L, ys, rfl, .inl ⟨f2, f3⟩⟩
      · cases hi
end
end AA

set_option Elab.async false
set_option linter.all false
set_option maxRecDepth 100000
set_option maxHeartbeats 4000000
/-! A function of the module, held as a value: isinstance of it. -/
namespace AA
open PySem PySem.Spec PyProof.Rows
theorem fl_lk : typeLookup (.type "function") "__class__" = pure (some (.builtin "object.__class__")) := by
  rw [typeLookup_type, builtinLookup_eq_fast]
  kernel_rfl
theorem fl_sub : isSubtype (.type "function") (.type (".".intercalate ("object.__class__".cutAt '.').dropLast)) = pure true := by
  rw [F.owner_object_class, isSubtype_type]
  kernel_rfl
theorem fl_ga : Slot "function" "__getattribute__" "object.__getattribute__" :=
  .of (owner := "object") (n := "__getattribute__") (by rw [typeLookup_type, builtinLookup_eq_fast]; kernel_rfl)
    (by decide +kernel) (by decide +kernel) (by decide +kernel) (by first | exact .inl (by decide +kernel) | exact .inr (by decide +kernel))
    (by rw [isSubtype_type]; kernel_rfl)
section
variable {prog : Program} {w : World} {A : Around} {E : Value → Shared → Prop} {h : Heap} {g : Array GenState} {d : Drawn} {t : Nat} {os : OsState} {a : Addr} {o : Obj}
theorem fl_get {R : Result → Shared → Prop} (hx : h.get? a = some o) (hc : o.cls = .type "function") (hq : R (.ok (.ret (.type "function"))) ⟨h, g, d, t, os⟩) :
    codeAny (model prog w) A (.call (.builtin "getset_descriptor.__get__") ⟨[.builtin "object.__class__", .ref a, .type "function"], []⟩) R ⟨h, g, d, t, os⟩ := by
  have hT : (⟨h, g, d, t, os⟩ : Shared).TypeIs (.ref a) "function" := ⟨_, hx, hc⟩
  have hT5 : (⟨h, g, d, t, os⟩ : Shared).TypeIs (.builtin "object.__class__") "getset_descriptor" := F.typeOf_object_class
  have f8 := fl_sub
  refine codeAny_call_builtin F.slot_gs_get.plain F.entry_gs_get (F.slot_gs_get.check _ _ _ _ _ _ _ _ hT5 (F.args_gs_get _ _ _) ?_)
  repeat (any_goals (first | assumption | wp_step))
  refine ⟨Code.quiet_builtin _ (by decide +kernel), codeAny_builtin F.entry_object_class ?_⟩
  repeat (any_goals (first | assumption | wp_step))
theorem fl_entry {tk : Tok} {Q : PySem.Fin → Shared → Prop} (hx : h.get? a = some o) (hc : o.cls = .type "function") (hq : Q (.done (.ret (.type "function"))) ⟨h, g, d, t, os⟩) :
    wpAny (model prog w) A (Builtin.«object.__getattribute__» ⟨[.ref a, .str "__class__" tk], []⟩) Q E ⟨h, g, d, t, os⟩ := by
  have hT : (⟨h, g, d, t, os⟩ : Shared).TypeIs (.ref a) "function" := ⟨_, hx, hc⟩
  have hT5 : (⟨h, g, d, t, os⟩ : Shared).TypeIs (.builtin "object.__class__") "getset_descriptor" := F.typeOf_object_class
  have f4 := fl_lk
  have f5 := F.typeOf_object_class
  have f6 := F.slot_gs_get.lookup
  have f7 := F.slot_gs_set.lookup
  repeat (any_goals (first | assumption | wp_step))
  refine fl_get hx hc ?_
  repeat (any_goals (first | assumption | wp_step))
theorem fl_call {tk : Tok} {R : Result → Shared → Prop} (hx : h.get? a = some o) (hc : o.cls = .type "function") (hq : R (.ok (.ret (.type "function"))) ⟨h, g, d, t, os⟩) :
    codeAny (model prog w) A (.call (.builtin "object.__getattribute__") ⟨[.ref a, .str "__class__" tk], []⟩) R ⟨h, g, d, t, os⟩ :=
  codeAny_call_builtin fl_ga.plain F.entry_object_getattribute
    (fl_ga.check _ _ _ _ _ _ _ _ (show (⟨h, g, d, t, os⟩ : Shared).TypeIs (.ref a) "function" from ⟨_, hx, hc⟩) (F.args_object_getattribute_2 _ _) (fl_entry hx hc hq))
theorem fl_by {tk : Tok} {Q : Value → Shared → Prop} (hx : h.get? a = some o) (hc : o.cls = .type "function") (hq : Q (.type "function") ⟨h, g, d, t, os⟩) :
    wpAny (model prog w) A (getAttrBy (.ref a) (.str "__class__" tk) false) Q E ⟨h, g, d, t, os⟩ := by
  have hT : (⟨h, g, d, t, os⟩ : Shared).TypeIs (.ref a) "function" := ⟨_, hx, hc⟩
  have f2 := fl_ga.lookup
  have f3 := fl_ga.bind (.ref a)
  repeat (any_goals (first | assumption | wp_step))
  refine fl_call hx hc ?_
  repeat (any_goals (first | assumption | wp_step))
theorem fl_attr {Q : Option Value → Shared → Prop} (hx : h.get? a = some o) (hc : o.cls = .type "function") (hq : Q (some (.type "function")) ⟨h, g, d, t + 1, os⟩) :
    wpAny (model prog w) A (getAttr? (.ref a) "__class__") Q E ⟨h, g, d, t, os⟩ := by
  unfold getAttr? getAttrBy?
  repeat (any_goals (first | assumption | with_reducible apply fl_by hx hc | wp_step))
end
theorem kitx_fn {K : PySem.W.Frag} {a : Addr} : PySem.W.KitX K (.ref a) (.type "function") (PySem.W.KitAt a "function") :=
  PySem.W.kitx_of PySem.W.kitAt_ty (fun {_ _ _ _ _ s} p k => by
    obtain ⟨h, g, d, t, os⟩ := s
    obtain ⟨o, h1, h2⟩ := p
    exact fl_attr h1 h2 k)
theorem fl_eq : Slot "function" (cmpInfo .Eq).2.1 "object.__eq__" :=
  .of (owner := "object") (n := "__eq__") (by rw [typeLookup_type, builtinLookup_eq_fast]; kernel_rfl)
    (by decide +kernel) (by decide +kernel) (by decide +kernel) (by first | exact .inl (by decide +kernel) | exact .inr (by decide +kernel))
    (by rw [isSubtype_type]; kernel_rfl)
section
open L2
variable {X : Cx} {j : Nat}
/-- what isinstance asks of a value: TyX, or a function of the module -/
def TyF (K : PySem.W.Frag) (H : Hp) (x : V) (t : Value) : Prop := TyX K H x t ∨ ∃ (a : Addr) (o : Obj), x = .ref a ∧ K.lookup a = some o ∧ o.cls = .type "function" ∧ t = .type "function"
theorem kit_F {pins : List (Addr × Obj)} {σ : L2.St} {H : Hp} {s : Shared} {x : V} {u t : Value} (I : Inv X pins σ H s) (rx : RelV x u) (ty : TyF X.K H x t) :
    ∃ P : Heap → Prop, PySem.W.KitX X.K u t P ∧ P s.heap ∧ u ≠ .builtin "__main__.__loader__#opaque" := by
  rcases ty with ty | ⟨a, o, rfl, h1, h2, rfl⟩
  · exact kit_of I rx ty
  · cases (show u = Value.ref a from rx)
    exact ⟨_, kitx_fn, ⟨o, I.kIn a o h1, h2⟩, fun z => nomatch z⟩
def rIs1 (K : PySem.W.Frag) : List V → Hp → VK → Prop := fun xs H Q => ∃ (x c : V) (t u : Value) (b : Bool), xs = [x, c] ∧ ClsV c u ∧ TyF K H x t ∧ PySem.W.kitOne K t u = some b ∧ Q (.bl b) H
def rIsN (K : PySem.W.Frag) : List V → Hp → VK → Prop := fun xs H Q => ∃ (x : V) (tp : Addr) (cs : List V) (t : Value) (us : List Value) (b : Bool), xs = [x, .ref tp] ∧ H tp = some (.tup cs) ∧ Paired ClsV cs us ∧ TyF K H x t ∧ PySem.W.kitAny K t us = some b ∧ Q (.bl b) H
theorem call_is1 : CallR X (.builtin "isinstance") (rIs1 X.K) := by
  intro pins s σ H xs us Q I r h
  obtain ⟨x, c, t, u, b, rfl, k, ty, e, q⟩ := h
  obtain ⟨u1, u2, rfl, r1, r2⟩ := vals2 r
  cases k.eq r2
  obtain ⟨P, Z, p, hx⟩ := kit_F I r1 ty
  exact PySem.W.kia_one Z I.kIn p e hx fun tk => ⟨.bl b, H, I.tok tk, rfl, q⟩
theorem call_isN : CallR X (.builtin "isinstance") (rIsN X.K) := by
  intro pins s σ H xs us Q I r h
  obtain ⟨x, tp, cs, t, ws, b, rfl, hT, k, ty, e, q⟩ := h
  obtain ⟨u1, u2, rfl, r1, r2⟩ := vals2 r
  cases (show u2 = Value.ref tp from r2)
  obtain ⟨P, Z, p, hx⟩ := kit_F I r1 ty
  obtain ⟨_, its, rv, ob, g1, g2, n, g3⟩ := (show ObjOk X.prog X.w H s.heap tp (.tup cs) from I.hok tp _ hT)
  cases ClsV.all k rv
  obtain ⟨oc, od, dt, sl⟩ := ob
  simp only at g2 g3
  subst g2 g3
  exact PySem.W.kia_tup Z I.kIn p g1 e hx fun tk => ⟨.bl b, H, I.tok tk, rfl, q⟩
/-- f == f, a function of the module -/
def rEqF (K : PySem.W.Frag) : R2 := fun x y H Q => ∃ (f : Addr) (o : Obj), x = .ref f ∧ y = .ref f ∧ K.lookup f = some o ∧ o.cls = .type "function" ∧ Q (.bl true) H
theorem op_eqF (hr : Room j X.A) : OpR X (compareOp .Eq) (rEqF X.K) := by
  intro pins s σ H x y v u Q I rx ry h
  obtain ⟨f, o, rfl, rfl, h1, h2, q⟩ := h
  cases (show v = Value.ref f from rx)
  cases (show u = Value.ref f from ry)
  have hT : s.TypeIs (.ref f) "function" := ⟨o, I.kIn f o h1, h2⟩
  show wpAny _ _ (richCompare .Eq (.ref f) (.ref f)) _ _ s
  refine wpAny_richCompare_same_room (op := .Eq) hT hT fl_eq (wpAny_call_entry fl_eq hT F.cmpEntry_eq (objEq_entry_same ?_) (F.cmpArgs_eq _ _)) hr.units0
  exact ⟨_, rfl, fun e => (nomatch e), ⟨.bl true, H, I, rfl, q⟩⟩
end
end AA

set_option Elab.async false
set_option linter.all false
set_option maxRecDepth 100000
set_option maxHeartbeats 4000000
namespace AA
open PySem PySem.Spec PyProof.Rows L2 Evl
theorem op_orR {X : Cx} {f : Value → Value → Sem Value} {r1 r2 : R2} (h1 : OpR X f r1) (h2 : OpR X f r2) : OpR X f (fun x y H Q => r1 x y H Q ∨ r2 x y H Q) :=
  fun pins s σ H x y v u Q I rx ry h => h.elim (h1 pins s σ H x y v u Q I rx ry) (h2 pins s σ H x y v u Q I rx ry)
/-! ### alike, kind by kind -/
def leaf : V → Bool
  | .non => true
  | .bl _ => true
  | .int _ => true
  | .str z => PyData.strOk z
  | _ => false
/-- what an own class must say, so that isinstance asks its instances rightly -/
structure InsK (K : PySem.W.Frag) (C : Addr) : Prop where
  cl : Cls K C
  ha : PySem.W.findIn K (.ref C) "__class__" = some (some (.builtin "object.__class__"))
  hn : PySem.W.specialIn K (.builtin "object.__class__") "__get__" = some (some (.builtin "getset_descriptor.__get__"))
  ht : PySem.W.takesIn K (.builtin "object.__class__") = some true
  hm : PySem.W.mroIn K C (.type "object") = some true
  n1 : PySem.W.kitAny K (.ref C) [.type "list", .type "tuple"] = some false
  n2 : PySem.W.kitOne K (.ref C) (.type "dict") = some false
  n3 : PySem.W.kitOne K (.ref C) (.type "bool") = some false
  n4 : PySem.W.kitAny K (.ref C) [.type "list", .type "tuple", .type "dict"] = some false
def Sm (K : PySem.W.Frag) (C : Addr) (R : Addr → Addr → Hp → Prop) (H : Hp) : Nat → V → V → Prop
  | 0, _, _ => False
  | n + 1, x, y => (x = y ∧ leaf x = true) ∨
      (∃ a b xs ys, x = .ref a ∧ y = .ref b ∧ SqL K H a xs ∧ SqL K H b ys ∧ Paired (Sm K C R H n) xs ys ∧ xs.length ≤ 1000000) ∨
      (∃ a b xs ys, x = .ref a ∧ y = .ref b ∧ SqT K H a xs ∧ SqT K H b ys ∧ Paired (Sm K C R H n) xs ys ∧ xs.length ≤ 1000000) ∨
      (∃ a b, x = .ref a ∧ y = .ref b ∧ H a = some (.dK []) ∧ H b = some (.dK []) ∧ 0 < n) ∨
      (∃ a dx fs, x = .ref a ∧ y = .ref a ∧ H a = some (.ins C dx fs) ∧ R a a H) ∨
      (∃ f o, x = .ref f ∧ y = .ref f ∧ K.lookup f = some o ∧ o.cls = .type "function")
theorem sm_ex {K : PySem.W.Frag} {C : Addr} {R : Addr → Addr → Hp → Prop} {H H' : Hp} (hR : ∀ a b H H', Ex H H' → R a b H → R a b H') (e : Ex H H') : ∀ (n : Nat) (x y : V), Sm K C R H n x y → Sm K C R H' n x y
  | 0, _, _, h => h
  | n + 1, x, y, h => by
    rcases h with h | ⟨a, b, xs, ys, h1, h2, h3, h4, h5, h6⟩ | ⟨a, b, xs, ys, h1, h2, h3, h4, h5, h6⟩ | ⟨a, b, h1, h2, h3, h4, h5⟩ | ⟨a, dx, fs, h1, h2, h3, h4⟩ | h
    · exact .inl h
    · exact .inr (.inl ⟨a, b, xs, ys, h1, h2, ex_l e h3, ex_l e h4, Paired.mapP h5 fun u v => sm_ex hR e n u v, h6⟩)
    · exact .inr (.inr (.inl ⟨a, b, xs, ys, h1, h2, ex_t e h3, ex_t e h4, Paired.mapP h5 fun u v => sm_ex hR e n u v, h6⟩))
    · exact .inr (.inr (.inr (.inl ⟨a, b, h1, h2, e _ _ h3, e _ _ h4, h5⟩)))
    · exact .inr (.inr (.inr (.inr (.inl ⟨a, dx, fs, h1, h2, e _ _ h3, hR _ _ _ _ e h4⟩))))
    · exact .inr (.inr (.inr (.inr (.inr h))))
theorem kit_no2 {K : PySem.W.Frag} {T : String} (h1 : kitB T "list" = some false) (h2 : kitB T "tuple" = some false) : PySem.W.kitAny K (.type T) [.type "list", .type "tuple"] = some false :=
  kitAny_cons (b := false) (kit_ty h1) (fun _ => kitAny_cons (b := false) (kit_ty h2) (fun _ => kitAny_nil) (fun z => nomatch z)) (fun z => nomatch z)
theorem kit_no3 {K : PySem.W.Frag} {T : String} (h1 : kitB T "list" = some false) (h2 : kitB T "tuple" = some false) (h3 : kitB T "dict" = some false) : PySem.W.kitAny K (.type T) [.type "list", .type "tuple", .type "dict"] = some false :=
  kitAny_cons (b := false) (kit_ty h1) (fun _ => kitAny_cons (b := false) (kit_ty h2) (fun _ => kitAny_cons (b := false) (kit_ty h3) (fun _ => kitAny_nil) (fun z => nomatch z)) (fun z => nomatch z)) (fun z => nomatch z)
/-- a thing that is no list, no tuple, no dict, no bool, and equal to itself -/
def Plain (K : PySem.W.Frag) (C : Addr) (R : Addr → Addr → Hp → Prop) (H : Hp) (x : V) : Prop := ∃ t : Value, (∀ H', Ex H H' → TyF K H' x t) ∧ PySem.W.kitAny K t [.type "list", .type "tuple"] = some false ∧
  PySem.W.kitOne K t (.type "dict") = some false ∧ PySem.W.kitOne K t (.type "bool") = some false ∧ PySem.W.kitAny K t [.type "list", .type "tuple", .type "dict"] = some false ∧
  ∀ (H' : Hp) (Q' : VK), Ex H H' → (∀ H2, Ex H' H2 → Q' (.bl true) H2) → (rEqD K x x H' Q' ∨ rEqF K x x H' Q') ∨ rEqG (DIns C R) x x H' Q'
theorem str_eqv (x : Str) : PyData.eqv (.str x) (.str x) = true := by
  show (x == x) = true
  exact beq_self_eq_true x
theorem sm_plain {K : PySem.W.Frag} {C : Addr} {R : Addr → Addr → Hp → Prop} {H : Hp} (IC : InsK K C) (hR : ∀ a b H H', Ex H H' → R a b H → R a b H') {n : Nat} {x y : V} (h : Sm K C R H (n + 1) x y) :
    (x = y ∧ Plain K C R H x) ∨ (∃ b, x = .bl b ∧ y = .bl b) ∨
      (∃ a b xs ys, x = .ref a ∧ y = .ref b ∧ SqL K H a xs ∧ SqL K H b ys ∧ Paired (Sm K C R H n) xs ys ∧ xs.length ≤ 1000000) ∨
      (∃ a b xs ys, x = .ref a ∧ y = .ref b ∧ SqT K H a xs ∧ SqT K H b ys ∧ Paired (Sm K C R H n) xs ys ∧ xs.length ≤ 1000000) ∨
      (∃ a b, x = .ref a ∧ y = .ref b ∧ H a = some (.dK []) ∧ H b = some (.dK []) ∧ 0 < n) := by
  rcases h with ⟨rfl, h⟩ | h | h | h | ⟨a, dx, fs, rfl, rfl, h3, h4⟩ | ⟨f, o, rfl, rfl, h1, h2⟩
  · cases x with
    | non => exact .inl ⟨rfl, .type "NoneType", fun _ _ => .inl (.base .non), kit_no2 (by decide +kernel) (by decide +kernel), kit_ty (by decide +kernel), kit_ty (by decide +kernel), kit_no3 (by decide +kernel) (by decide +kernel) (by decide +kernel), fun H' Q' e q => .inl (.inl ⟨.none, .none, .non, .non, rfl, rfl, q _ (Ex.refl _)⟩)⟩
    | bl b => exact .inr (.inl ⟨b, rfl, rfl⟩)
    | int i => exact .inl ⟨rfl, .type "int", fun _ _ => .inl (.base (.int i)), kit_no2 (by decide +kernel) (by decide +kernel), kit_ty (by decide +kernel), kit_ty (by decide +kernel), kit_no3 (by decide +kernel) (by decide +kernel) (by decide +kernel), fun H' Q' e q => .inl (.inl ⟨.int i, .int i, .int i, .int i, rfl, rfl, by
        have : PyData.eqv (.int i) (.int i) = true := beq_self_eq_true i
        rw [this]
        exact q _ (Ex.refl _)⟩)⟩
    | str z =>
      have hz : PyData.strOk z = true := h
      have hsh : SeqAt.shaped (.str z) = true := by
        show (PyData.strOk z && decide (PyData.depth (.str z) ≤ 64)) = true
        rw [hz]
        rfl
      exact .inl ⟨rfl, .type "str", fun _ _ => .inl (.base (.str z)), kit_no2 (by decide +kernel) (by decide +kernel), kit_ty (by decide +kernel), kit_ty (by decide +kernel), kit_no3 (by decide +kernel) (by decide +kernel) (by decide +kernel), fun H' Q' e q => .inl (.inl ⟨.str z, .str z, .str z, .str z, hsh, hsh, by
        rw [str_eqv]
        exact q _ (Ex.refl _)⟩)⟩
    | byt b => cases h
    | flt b => cases h
    | ref a => cases h
    | ty n => cases h
  · exact .inr (.inr (.inl h))
  · exact .inr (.inr (.inr (.inl h)))
  · exact .inr (.inr (.inr (.inr h)))
  · exact .inl ⟨rfl, .ref C, fun H' e => .inl (.base (.ins (e _ _ h3) IC.cl IC.ha IC.hn IC.ht IC.hm)), IC.n1, IC.n2, IC.n3, IC.n4, fun H' Q' e q => .inr ⟨⟨a, a, dx, dx, fs, fs, rfl, rfl, e _ _ h3, e _ _ h3, hR _ _ _ _ e h4⟩, fun H2 e2 => q H2 e2⟩⟩
  · exact .inl ⟨rfl, .type "function", fun _ _ => .inr ⟨f, o, rfl, h1, h2, rfl⟩, kit_no2 (by decide +kernel) (by decide +kernel), kit_ty (by decide +kernel), kit_ty (by decide +kernel), kit_no3 (by decide +kernel) (by decide +kernel) (by decide +kernel), fun H' Q' e q => .inl (.inr ⟨f, o, rfl, rfl, h1, h2, q _ (Ex.refl _)⟩)⟩
theorem paired_at {α β : Type} {F : α → β → Prop} : ∀ {xs : List α} {ys : List β} {i : Nat} {x : α}, Paired F xs ys → xs[i]? = some x → ∃ y, ys[i]? = some y ∧ F x y
  | _, _, _, _, .nil, e => by simp at e
  | _, _, 0, _, .cons r _, e => ⟨_, rfl, (Option.some.inj e) ▸ r⟩
  | _, _, i + 1, _, .cons _ t, e => paired_at (i := i) t e
theorem lc_zipL {K : PySem.W.Frag} {a b : Addr} {xs ys : List V} {g : TG} {tt : TT} {te : TE} {vs : List Nat} {σ : L2.St} {H1 : Hp} {D : Addr} {Qd : Hp → Prop} (hl : xs.length = ys.length) (Pv : Nat → Hp → Prop) (h0 : Pv 0 (upd H1 D (.lst [])))
    (hq : ∀ i H, Pv i H → SqL K H a xs ∧ SqL K H b ys)
    (hs : ∀ (i : Nat) (x y : V) (H : Hp) (T : Addr), xs[i]? = some x → ys[i]? = some y → Pv i H → H T = none → g (.ref T) (wipe σ vs) (upd H T (.tup [x, y])) fun σ2 H2 => wipe σ2 vs = wipe σ vs ∧ tt σ2 H2 fun c H3 =>
      if c = true then te σ2 H3 fun z H4 => ∃ acc, H4 D = some (.lst acc) ∧ acc.length < sizeLine ∧ Pv (i + 1) (upd H4 D (.lst (acc ++ [z]))) else Pv (i + 1) H3) (hd : ∀ H, Pv xs.length H → Qd H) :
    ∃ W : Nat → Nat → Hp → Prop, (∃ m, W 0 m (upd H1 D (.lst []))) ∧ ∀ i m H, W i m H →
      ((Itz K a b).stop i H ∧ Qd H) ∨ ((Itz K a b).go i H ∧ ∃ Nx : Hp → Prop, (∀ H', Nx H' → ∃ m', m' < m ∧ W (i + 1) m' H') ∧ ∀ x H', (Itz K a b).yld i H x H' → g x (wipe σ vs) H' fun σ2 H2 => wipe σ2 vs = wipe σ vs ∧ tt σ2 H2 fun c H3 =>
        if c = true then te σ2 H3 fun z H4 => ∃ acc, H4 D = some (.lst acc) ∧ acc.length < sizeLine ∧ Nx (upd H4 D (.lst (acc ++ [z]))) else Nx H3) := by
  refine ⟨fun i m H => m = xs.length - i ∧ i ≤ xs.length ∧ Pv i H, ⟨xs.length, by simp, Nat.zero_le _, h0⟩, ?_⟩
  rintro i m H ⟨rfl, hi, p⟩
  obtain ⟨q1, q2⟩ := hq i H p
  by_cases hlt : i < xs.length
  · have g1 : xs[i]? = some xs[i] := List.getElem?_eq_getElem hlt
    have g2 : ys[i]? = some (ys[i]'(by omega)) := List.getElem?_eq_getElem (by omega)
    refine .inr ⟨⟨xs, ys, _, _, q1, q2, g1, g2⟩, Pv (i + 1), fun H' p' => ⟨xs.length - (i + 1), by omega, rfl, hlt, p'⟩, fun x H' y => ?_⟩
    obtain ⟨T, z1, z2, rfl, hT, rfl, f1, f2⟩ := y
    exact hs i z1 z2 H T (f1 _ q1) (f2 _ q2) p hT
  · have e : i = xs.length := by omega
    subst e
    exact .inl ⟨⟨xs, ys, q1, q2, .inl (Nat.le_refl _)⟩, hd H p⟩
theorem lc_zipT {K : PySem.W.Frag} {a b : Addr} {xs ys : List V} {g : TG} {tt : TT} {te : TE} {vs : List Nat} {σ : L2.St} {H1 : Hp} {D : Addr} {Qd : Hp → Prop} (hl : xs.length = ys.length) (Pv : Nat → Hp → Prop) (h0 : Pv 0 (upd H1 D (.lst [])))
    (hq : ∀ i H, Pv i H → SqT K H a xs ∧ SqT K H b ys)
    (hs : ∀ (i : Nat) (x y : V) (H : Hp) (T : Addr), xs[i]? = some x → ys[i]? = some y → Pv i H → H T = none → g (.ref T) (wipe σ vs) (upd H T (.tup [x, y])) fun σ2 H2 => wipe σ2 vs = wipe σ vs ∧ tt σ2 H2 fun c H3 =>
      if c = true then te σ2 H3 fun z H4 => ∃ acc, H4 D = some (.lst acc) ∧ acc.length < sizeLine ∧ Pv (i + 1) (upd H4 D (.lst (acc ++ [z]))) else Pv (i + 1) H3) (hd : ∀ H, Pv xs.length H → Qd H) :
    ∃ W : Nat → Nat → Hp → Prop, (∃ m, W 0 m (upd H1 D (.lst []))) ∧ ∀ i m H, W i m H →
      ((RZ.ItzT K a b).stop i H ∧ Qd H) ∨ ((RZ.ItzT K a b).go i H ∧ ∃ Nx : Hp → Prop, (∀ H', Nx H' → ∃ m', m' < m ∧ W (i + 1) m' H') ∧ ∀ x H', (RZ.ItzT K a b).yld i H x H' → g x (wipe σ vs) H' fun σ2 H2 => wipe σ2 vs = wipe σ vs ∧ tt σ2 H2 fun c H3 =>
        if c = true then te σ2 H3 fun z H4 => ∃ acc, H4 D = some (.lst acc) ∧ acc.length < sizeLine ∧ Nx (upd H4 D (.lst (acc ++ [z]))) else Nx H3) := by
  refine ⟨fun i m H => m = xs.length - i ∧ i ≤ xs.length ∧ Pv i H, ⟨xs.length, by simp, Nat.zero_le _, h0⟩, ?_⟩
  rintro i m H ⟨rfl, hi, p⟩
  obtain ⟨q1, q2⟩ := hq i H p
  by_cases hlt : i < xs.length
  · have g1 : xs[i]? = some xs[i] := List.getElem?_eq_getElem hlt
    have g2 : ys[i]? = some (ys[i]'(by omega)) := List.getElem?_eq_getElem (by omega)
    refine .inr ⟨⟨xs, ys, _, _, q1, q2, g1, g2⟩, Pv (i + 1), fun H' p' => ⟨xs.length - (i + 1), by omega, rfl, hlt, p'⟩, fun x H' y => ?_⟩
    obtain ⟨T, z1, z2, rfl, hT, rfl, f1, f2⟩ := y
    exact hs i z1 z2 H T (f1 _ q1) (f2 _ q2) p hT
  · have e : i = xs.length := by omega
    subst e
    exact .inl ⟨⟨xs, ys, q1, q2, .inl (Nat.le_refl _)⟩, hd H p⟩
theorem all_true (n : Nat) : (List.replicate n true).all id = true := by
  rw [List.all_eq_true]
  intro x hx
  rw [(List.mem_replicate.mp hx).2]
  rfl
section
variable {P : Program} {w : World} {K : PySem.W.Frag} {mg : Str → Option Value} {base : Heap}
def spSame (K : PySem.W.Frag) (C : Addr) (R : Addr → Addr → Hp → Prop) (n : Nat) : Sp := fun vs H Q _ => ∃ (x y : V), vs = [x, y] ∧ Sm K C R H n x y ∧ ∀ H', Ex H H' → Q (.bl true) H'
theorem scSame : FnScope ["_law_found", "_law_due", "_law_mine", "_law_theirs"] ["_law_found", "_law_due"] (defScope sSame) := ⟨rfl, rfl, rfl, by decide +kernel, rfl, by decide +kernel, by decide +kernel⟩
theorem ok_same {C : Addr} {R : Addr → Addr → Hp → Prop} {f fE : Addr} {fd fdE : FuncData} (F : L2.Fun K "_law_same" "_law_same" sSame f fd) (T : Bn mg) (hm : mg "_law_same" = some (.ref f)) (bS : Binds K fd ["_law_found", "_law_due"] [])
    (IC : InsK K C) (hR : ∀ a b H H', Ex H H' → R a b H → R a b H')
    (GE : FnOk P w K mg base CX0 2 fE fdE ["self", "other"] (spEq R)) (hs : PySem.W.findIn K (.ref C) "__eq__" = some (some (.ref fE))) (hf : PySem.W.isFn K (.ref fE) = true) (bE : Binds K fdE ["self", "other"] []) :
    ∀ n : Nat, FnOk P w K mg base CX0 (n + 3) f fd ["_law_found", "_law_due"] (spSame K C R n)
  | 0 => ⟨fun vs H Q E h => by
      obtain ⟨x, y, rfl, _⟩ := h
      rfl, fun A outer s H args us vs Q E _ _ _ _ h => by
      obtain ⟨x, y, _, h, _⟩ := h
      exact h.elim⟩
  | n + 1 => by
    have cS : C8.Cal P w K mg base (n + 3) "_law_same" (spSame K C R n) [] := cal_of F hm bS (ok_same F T hm bS IC hR GE hs hf bE n)
    refine F.ok scSame (fun vs H Q E h => ?_) (fun cdv A outer s H vs Q E hr h => ?_)
    · obtain ⟨x, y, rfl, _⟩ := h
      rfl
    · obtain ⟨x, y, rfl, hsm, k⟩ := h
      have rE : RcG (cxOf CX0 P w K mg base ["_law_found", "_law_due", "_law_mine", "_law_theirs"] "_law_same" (defScope sSame) f cdv A outer s H E).nox 2 (DIns C R) := rcG_ins (E := E0) GE hs hf bE pass0
      refine ⟨_, pss_cons (ps_if (pt_val (pe_callB call_isN (by rfl) T.isinstance boot_isinstance (pa_cons (pv 1) (pa_cons (pe_tup (pa_cons (pe_bltn (v := .ty "list") (by rfl) T.list boot_list rfl) (pa_cons (pe_bltn (v := .ty "tuple") (by rfl) T.tuple boot_tuple rfl) pa_nil))) pa_nil))))
          (pss_cons (ps_if (PW.pt (pw_or (pt_cmpR op_ne (pe_callB call_is1 (by rfl) T.isinstance boot_isinstance (pa_cons (pv 0) (pa_cons (pe_bltn (v := .ty "list") (by rfl) T.list boot_list rfl) pa_nil))) (pe_callB call_is1 (by rfl) T.isinstance boot_isinstance (pa_cons (pv 1) (pa_cons (pe_bltn (v := .ty "list") (by rfl) T.list boot_list rfl) pa_nil))) (nomark _))
              (pw_or1 (pt_cmpR op_ne (pe_callB call_is1 (by rfl) T.isinstance boot_isinstance (pa_cons (pv 0) (pa_cons (pe_bltn (v := .ty "tuple") (by rfl) T.tuple boot_tuple rfl) pa_nil))) (pe_callB call_is1 (by rfl) T.isinstance boot_isinstance (pa_cons (pv 1) (pa_cons (pe_bltn (v := .ty "tuple") (by rfl) T.tuple boot_tuple rfl) pa_nil))) (nomark _)))))
              (pss_one (ps_ret pe_bl)) pss_nil)
            (pss_one (ps_ret (pe_and (pe_cmpR op_eq (pe_callB call_len_seq (by rfl) T.len PySem.boot_len (pa_cons (pv 0) pa_nil)) (pe_callB call_len_seq (by rfl) T.len PySem.boot_len (pa_cons (pv 1) pa_nil)) (nomark _))
              (pe_one (pe_callB (cr_all (by rfl)) (by rfl) T.all boot_all (pa_cons (pe_lc (own := [("_law_mine", 2), ("_law_theirs", 3)]) (g := gTup K 2 (gCons (gName 2) (gCons (gName 3) gNil))) (tt := tYes) (by rfl) scSame.nd (RZ.pi_zipA (by rfl) T.zip (pa_cons (pv 0) (pa_cons (pv 1) pa_nil))) (blkOk_by (N := ["_law_found", "_law_due", "_law_mine", "_law_theirs"]) (sc := defScope sSame) (by decide +kernel))
                (fun _ _ _ _ _ => pg_tup rfl (pgs_cons (pg_name (i := 2) scSame.nd rfl (Or.inl rfl)) (pgs_cons (pg_name (i := 3) scSame.nd rfl (Or.inl rfl)) pgs_nil))) (fun _ _ _ _ _ => pts_nil) (fun _ _ _ _ _ => C8.pe_c cS hr (by omega) (by rfl) (pa_cons (pv 2) (pa_cons (pv 3) pa_nil)))) pa_nil))))))) pss_nil)
        (pss_cons (ps_if (pt_val (pe_callB call_is1 (by rfl) T.isinstance boot_isinstance (pa_cons (pv 1) (pa_cons (pe_bltn (v := .ty "dict") (by rfl) T.dict boot_dict rfl) pa_nil))))
          (pss_one (ps_ret (pe_and (pe_callB call_is1 (by rfl) T.isinstance boot_isinstance (pa_cons (pv 0) (pa_cons (pe_bltn (v := .ty "dict") (by rfl) T.dict boot_dict rfl) pa_nil)))
            (pe_one (C8.pe_c cS hr (by omega) (by rfl) (pa_cons (LiI.pe_listItems (by rfl) (pv 0) (by rfl) T.list boot_list) (pa_cons (LiI.pe_listItems (by rfl) (pv 1) (by rfl) T.list boot_list) pa_nil))))))) pss_nil)
        (pss_cons (ps_if (PW.pt (pw_or (pt_val (pe_callB call_is1 (by rfl) T.isinstance boot_isinstance (pa_cons (pv 1) (pa_cons (pe_bltn (v := .ty "bool") (by rfl) T.bool boot_bool rfl) pa_nil)))) (pw_or1 (pt_val (pe_callB call_is1 (by rfl) T.isinstance boot_isinstance (pa_cons (pv 0) (pa_cons (pe_bltn (v := .ty "bool") (by rfl) T.bool boot_bool rfl) pa_nil)))))))
          (pss_one (ps_ret (pe_and (pe_callB call_is1 (by rfl) T.isinstance boot_isinstance (pa_cons (pv 1) (pa_cons (pe_bltn (v := .ty "bool") (by rfl) T.bool boot_bool rfl) pa_nil))) (pe_and (pe_callB call_is1 (by rfl) T.isinstance boot_isinstance (pa_cons (pv 0) (pa_cons (pe_bltn (v := .ty "bool") (by rfl) T.bool boot_bool rfl) pa_nil))) (pe_one (pe_cmpR op_eq (pv 0) (pv 1) (nomark _))))))) pss_nil)
        (pss_one (ps_ret (pe_and (pe_not (pe_callB call_isN (by rfl) T.isinstance boot_isinstance (pa_cons (pv 0) (pa_cons (pe_tup (pa_cons (pe_bltn (v := .ty "list") (by rfl) T.list boot_list rfl) (pa_cons (pe_bltn (v := .ty "tuple") (by rfl) T.tuple boot_tuple rfl) (pa_cons (pe_bltn (v := .ty "dict") (by rfl) T.dict boot_dict rfl) pa_nil)))) pa_nil))))
            (pe_one (pe_cmpR (op_orR (op_orR (op_eqD hr.units) (op_eqF hr)) (op_eqG rE (hr.mono (by omega)))) (pv 0) (pv 1) (nomark _)))))))), ?_⟩
      rcases sm_plain IC hR hsm with ⟨rfl, t, hty, k1, k2, k3, k4, heq⟩ | ⟨b, rfl, rfl⟩ | ⟨a, b, xs, ys, rfl, rfl, hx, hy, hp2, hln⟩ | ⟨a, b, xs, ys, rfl, rfl, hx, hy, hp2, hln⟩ | ⟨a, b, rfl, rfl, ha, hb, hn0⟩
      · refine ⟨_, rfl, by show 2 ≤ sizeLine; decide, fun p hp => ?_⟩
        have e1 : Ex H (upd H p (.tup [.ty "list", .ty "tuple"])) := Ex.new hp
        refine ⟨x, p, _, t, [.type "list", .type "tuple"], false, rfl, upd_same, .cons (.ty _) (.cons (.ty _) .nil), hty _ e1, k1, false, rfl, ?_⟩
        refine iteF ?_
        refine ⟨_, rfl, x, _, t, .type "dict", false, rfl, .ty _, hty _ e1, k2, false, rfl, ?_⟩
        refine iteF ?_
        refine ⟨_, rfl, x, _, t, .type "bool", false, rfl, .ty _, hty _ e1, k3, false, rfl, ?_⟩
        refine iteF ?_
        refine ⟨_, rfl, x, _, t, .type "bool", false, rfl, .ty _, hty _ e1, k3, false, rfl, ?_⟩
        refine iteF ?_
        refine ⟨_, rfl, by show 3 ≤ sizeLine; decide, fun p2 hp2 => ?_⟩
        have e2 := e1.trans (Ex.new (o := .tup [.ty "list", .ty "tuple", .ty "dict"]) hp2)
        refine ⟨x, p2, _, t, [.type "list", .type "tuple", .type "dict"], false, rfl, upd_same, .cons (.ty _) (.cons (.ty _) (.cons (.ty _) .nil)), hty _ e2, k4, false, rfl, true, rfl, ?_⟩
        refine iteT ?_
        exact ⟨_, rfl, _, rfl, heq _ _ e2 fun H2 e3 => k H2 (e2.trans e3)⟩
      · refine ⟨_, rfl, by show 2 ≤ sizeLine; decide, fun p hp => ?_⟩
        have e1 : Ex H (upd H p (.tup [.ty "list", .ty "tuple"])) := Ex.new hp
        have ty : ∀ H', TyF K H' (.bl b) (.type "bool") := fun H' => .inl (.base (.bl b))
        refine ⟨.bl b, p, _, _, [.type "list", .type "tuple"], false, rfl, upd_same, .cons (.ty _) (.cons (.ty _) .nil), ty _, kit_no2 (by decide +kernel) (by decide +kernel), false, rfl, ?_⟩
        refine iteF ?_
        refine ⟨_, rfl, .bl b, _, _, .type "dict", false, rfl, .ty _, ty _, kit_ty (by decide +kernel), false, rfl, ?_⟩
        refine iteF ?_
        refine ⟨_, rfl, .bl b, _, _, .type "bool", true, rfl, .ty _, ty _, kit_ty (by decide +kernel), true, rfl, ?_⟩
        refine iteT ?_
        refine iteT ?_
        refine ⟨_, rfl, .bl b, _, _, .type "bool", true, rfl, .ty _, ty _, kit_ty (by decide +kernel), true, rfl, ?_⟩
        refine iteT ?_
        refine ⟨_, rfl, .bl b, _, _, .type "bool", true, rfl, .ty _, ty _, kit_ty (by decide +kernel), true, rfl, ?_⟩
        refine iteT ?_
        refine ⟨_, rfl, _, rfl, rfl, ?_⟩
        rw [decide_eq_true rfl]
        exact k _ e1
      · have hll := hp2.length
        refine ⟨_, rfl, by show 2 ≤ sizeLine; decide, fun p hp => ?_⟩
        have e1 : Ex H (upd H p (.tup [.ty "list", .ty "tuple"])) := Ex.new hp
        have tx : TyF K (upd H p (.tup [.ty "list", .ty "tuple"])) (.ref a) (.type "list") := .inl (ty_l (ex_l e1 hx))
        have ty : TyF K (upd H p (.tup [.ty "list", .ty "tuple"])) (.ref b) (.type "list") := .inl (ty_l (ex_l e1 hy))
        refine ⟨.ref b, p, _, _, [.type "list", .type "tuple"], true, rfl, upd_same, .cons (.ty _) (.cons (.ty _) .nil), ty, seq_yes_l, true, rfl, ?_⟩
        refine iteT ?_
        refine ⟨_, rfl, .ref a, _, _, .type "list", true, rfl, .ty _, tx, kit_ty (by decide +kernel), _, rfl, .ref b, _, _, .type "list", true, rfl, .ty _, ty, kit_ty (by decide +kernel), rfl, false, by rw [decide_eq_true rfl]; rfl, ?_⟩
        refine iteF ?_
        refine ⟨_, rfl, .ref a, _, _, .type "tuple", false, rfl, .ty _, tx, kit_ty (by decide +kernel), _, rfl, .ref b, _, _, .type "tuple", false, rfl, .ty _, ty, kit_ty (by decide +kernel), rfl, false, by rw [decide_eq_true rfl]; rfl, ?_⟩
        refine iteF ?_
        refine ⟨_, rfl, a, xs, rfl, .inl (ex_l e1 hx), _, rfl, b, ys, rfl, .inl (ex_l e1 hy), rfl, true, by rw [hll, decide_eq_true rfl], ?_⟩
        refine iteT ?_
        refine ⟨_, rfl, _, rfl, a, b, xs, ys, rfl, .inl ⟨ex_l e1 hx, ex_l e1 hy, fun L hL => ?_⟩⟩
        refine lc_zipL hll (fun i H' => Ex (upd H p (.tup [.ty "list", .ty "tuple"])) H' ∧ H' L = some (.lst ((List.replicate i true).map V.bl))) ?_ ?_ ?_ ?_
        · exact ⟨Ex.mut (Ex.refl _) hL, upd_same⟩
        · rintro i H' ⟨q1, q2⟩
          exact ⟨ex_l (e1.trans q1) hx, ex_l (e1.trans q1) hy⟩
        · rintro i x y H' T hxi hyi ⟨q1, q2⟩ hT
          obtain ⟨y', hy', hF⟩ := paired_at hp2 hxi
          have ey : y' = y := Option.some.inj (hy'.symm.trans hyi)
          subst ey
          have hLT : L ≠ T := ne_of_none q2 hT
          have il : i < xs.length := (List.getElem?_eq_some_iff.mp hxi).1
          refine ⟨T, [x, y'], rfl, SqT.of upd_same, rfl, x, [y'], rfl, y', [], rfl, rfl, rfl, ?_⟩
          refine ⟨_, rfl, _, rfl, x, y', rfl, sm_ex hR (e1.trans (q1.trans (Ex.new hT))) n _ _ hF, fun H2 e2 => ?_⟩
          have hL2 : H2 L = some (.lst ((List.replicate i true).map V.bl)) := e2 _ _ (by rw [upd_ne hLT]; exact q2)
          refine ⟨_, hL2, by rw [List.length_map, List.length_replicate]; exact sz_m (by omega), Ex.mut (q1.trans ((Ex.new hT).trans e2)) hL, ?_⟩
          rw [List.replicate_succ', List.map_append]
          exact upd_same
        · rintro H' ⟨q1, q2⟩
          refine ⟨L, List.replicate xs.length true, rfl, SqL.of q2, ?_⟩
          rw [all_true]
          exact k _ (e1.trans q1)
      · have hll := hp2.length
        refine ⟨_, rfl, by show 2 ≤ sizeLine; decide, fun p hp => ?_⟩
        have e1 : Ex H (upd H p (.tup [.ty "list", .ty "tuple"])) := Ex.new hp
        have tx : TyF K (upd H p (.tup [.ty "list", .ty "tuple"])) (.ref a) (.type "tuple") := .inl (ty_t (ex_t e1 hx))
        have ty : TyF K (upd H p (.tup [.ty "list", .ty "tuple"])) (.ref b) (.type "tuple") := .inl (ty_t (ex_t e1 hy))
        refine ⟨.ref b, p, _, _, [.type "list", .type "tuple"], true, rfl, upd_same, .cons (.ty _) (.cons (.ty _) .nil), ty, seq_yes_t, true, rfl, ?_⟩
        refine iteT ?_
        refine ⟨_, rfl, .ref a, _, _, .type "list", false, rfl, .ty _, tx, kit_ty (by decide +kernel), _, rfl, .ref b, _, _, .type "list", false, rfl, .ty _, ty, kit_ty (by decide +kernel), rfl, false, by rw [decide_eq_true rfl]; rfl, ?_⟩
        refine iteF ?_
        refine ⟨_, rfl, .ref a, _, _, .type "tuple", true, rfl, .ty _, tx, kit_ty (by decide +kernel), _, rfl, .ref b, _, _, .type "tuple", true, rfl, .ty _, ty, kit_ty (by decide +kernel), rfl, false, by rw [decide_eq_true rfl]; rfl, ?_⟩
        refine iteF ?_
        refine ⟨_, rfl, a, xs, rfl, .inr (ex_t e1 hx), _, rfl, b, ys, rfl, .inr (ex_t e1 hy), rfl, true, by rw [hll, decide_eq_true rfl], ?_⟩
        refine iteT ?_
        refine ⟨_, rfl, _, rfl, a, b, xs, ys, rfl, .inr ⟨ex_t e1 hx, ex_t e1 hy, fun L hL => ?_⟩⟩
        refine lc_zipT hll (fun i H' => Ex (upd H p (.tup [.ty "list", .ty "tuple"])) H' ∧ H' L = some (.lst ((List.replicate i true).map V.bl))) ?_ ?_ ?_ ?_
        · exact ⟨Ex.mut (Ex.refl _) hL, upd_same⟩
        · rintro i H' ⟨q1, q2⟩
          exact ⟨ex_t (e1.trans q1) hx, ex_t (e1.trans q1) hy⟩
        · rintro i x y H' T hxi hyi ⟨q1, q2⟩ hT
          obtain ⟨y', hy', hF⟩ := paired_at hp2 hxi
          have ey : y' = y := Option.some.inj (hy'.symm.trans hyi)
          subst ey
          have hLT : L ≠ T := ne_of_none q2 hT
          have il : i < xs.length := (List.getElem?_eq_some_iff.mp hxi).1
          refine ⟨T, [x, y'], rfl, SqT.of upd_same, rfl, x, [y'], rfl, y', [], rfl, rfl, rfl, ?_⟩
          refine ⟨_, rfl, _, rfl, x, y', rfl, sm_ex hR (e1.trans (q1.trans (Ex.new hT))) n _ _ hF, fun H2 e2 => ?_⟩
          have hL2 : H2 L = some (.lst ((List.replicate i true).map V.bl)) := e2 _ _ (by rw [upd_ne hLT]; exact q2)
          refine ⟨_, hL2, by rw [List.length_map, List.length_replicate]; exact sz_m (by omega), Ex.mut (q1.trans ((Ex.new hT).trans e2)) hL, ?_⟩
          rw [List.replicate_succ', List.map_append]
          exact upd_same
        · rintro H' ⟨q1, q2⟩
          refine ⟨L, List.replicate xs.length true, rfl, SqL.of q2, ?_⟩
          rw [all_true]
          exact k _ (e1.trans q1)
      · have ty : ∀ (H' : Hp) (c : Addr), H' c = some (.dK []) → TyF K H' (.ref c) (.type "dict") := fun H' c h => .inl (.base (.dK h))
        refine ⟨_, rfl, by show 2 ≤ sizeLine; decide, fun p hp => ?_⟩
        have e1 : Ex H (upd H p (.tup [.ty "list", .ty "tuple"])) := Ex.new hp
        refine ⟨.ref b, p, _, _, [.type "list", .type "tuple"], false, rfl, upd_same, .cons (.ty _) (.cons (.ty _) .nil), ty _ _ (e1 _ _ hb), kit_no2 (by decide +kernel) (by decide +kernel), false, rfl, ?_⟩
        refine iteF ?_
        refine ⟨_, rfl, .ref b, _, _, .type "dict", true, rfl, .ty _, ty _ _ (e1 _ _ hb), kit_ty (by decide +kernel), true, rfl, ?_⟩
        refine iteT ?_
        refine ⟨_, rfl, .ref a, _, _, .type "dict", true, rfl, .ty _, ty _ _ (e1 _ _ ha), kit_ty (by decide +kernel), true, rfl, ?_⟩
        refine iteT ?_
        refine ⟨_, rfl, a, [], rfl, e1 _ _ ha, fun H2 p2 ts2 e2 _ _ _ g2 pr2 => ?_⟩
        have ts2e : ts2 = [] := List.eq_nil_of_length_eq_zero pr2.length
        subst ts2e
        refine ⟨_, rfl, b, [], rfl, e2 _ _ (e1 _ _ hb), fun H3 p3 ts3 e3 _ _ _ g3 pr3 => ?_⟩
        have ts3e : ts3 = [] := List.eq_nil_of_length_eq_zero pr3.length
        subst ts3e
        refine ⟨.ref p2, .ref p3, rfl, ?_, fun H4 e4 => k _ (e1.trans (Ex.trans e2 (Ex.trans e3 e4)))⟩
        obtain ⟨m, rfl⟩ : ∃ m, n = m + 1 := ⟨n - 1, by omega⟩
        exact .inr (.inl ⟨p2, p3, [], [], rfl, rfl, SqL.of (e3 _ _ g2), SqL.of g3, .nil, Nat.zero_le _⟩)
end
end AA

set_option Elab.async false
set_option linter.all false
set_option maxRecDepth 100000
set_option maxHeartbeats 4000000
/-! Steps in order: sorted of a list of them. -/
namespace AA
open PySem PySem.Spec PyProof.Rows L2 Evl
def pqLt (s t : St5) : Bool := if s.p = t.p then decide (s.q < t.q) else decide (s.p < t.p)
def stLt (s t : St5) : Bool :=
  if s.one = t.one then
    if s.other = t.other then
      if s.p = t.p ∧ s.q = t.q then
        if s.ticks = t.ticks then decide (s.change < t.change) else decide (s.ticks < t.ticks)
      else pqLt s t
    else decide (s.other < t.other)
  else decide (s.one < t.one)
theorem stLt_iff {s t : St5} : stLt s t = true ↔ s.one < t.one ∨ (s.one = t.one ∧ (s.other < t.other ∨ (s.other = t.other ∧ (s.p < t.p ∨ (s.p = t.p ∧ (s.q < t.q ∨ (s.q = t.q ∧ (s.ticks < t.ticks ∨ (s.ticks = t.ticks ∧ s.change < t.change))))))))) := by
  unfold stLt pqLt
  by_cases h1 : s.one = t.one
  · rw [if_pos h1]
    by_cases h2 : s.other = t.other
    · rw [if_pos h2]
      by_cases h3 : s.p = t.p ∧ s.q = t.q
      · rw [if_pos h3]
        by_cases h4 : s.ticks = t.ticks
        · rw [if_pos h4, decide_eq_true_eq]
          omega
        · rw [if_neg h4, decide_eq_true_eq]
          omega
      · rw [if_neg h3]
        by_cases h4 : s.p = t.p
        · rw [if_pos h4, decide_eq_true_eq]
          omega
        · rw [if_neg h4, decide_eq_true_eq]
          omega
    · rw [if_neg h2, decide_eq_true_eq]
      omega
  · rw [if_neg h1, decide_eq_true_eq]
    omega
theorem stLt_no {s t : St5} : stLt s t = false ↔ ¬ (s.one < t.one ∨ (s.one = t.one ∧ (s.other < t.other ∨ (s.other = t.other ∧ (s.p < t.p ∨ (s.p = t.p ∧ (s.q < t.q ∨ (s.q = t.q ∧ (s.ticks < t.ticks ∨ (s.ticks = t.ticks ∧ s.change < t.change)))))))))) := by
  rw [← stLt_iff]
  cases stLt s t <;> simp
theorem swo_st (k : Value → St5) : SrtO.Swo fun v u => stLt (k v) (k u) := by
  refine ⟨fun x y h => ?_, fun x y z h1 h2 => ?_⟩
  · have a := stLt_iff.mp h
    refine stLt_no.mpr ?_
    omega
  · have a := stLt_no.mp h1
    have b := stLt_no.mp h2
    refine stLt_no.mpr ?_
    omega
/-- a step stands at v -/
def IsSt (h : Heap) (v : Value) (s : St5) : Prop := ∃ (a u : Addr) (o r : Obj) (n m : Nat) (t1 t2 t3 t4 t5 t6 : Tok), v = .ref a ∧ h.get? a = some o ∧ o.cls = .type "tuple" ∧
  o.data = .seq #[.int s.one t1, .int s.other t2, .ref u, .int s.ticks t3, .int s.change t4] n ∧ h.get? u = some r ∧ r.cls = .type "tuple" ∧ r.data = .seq #[.int s.p t5, .int s.q t6] m
theorem IsSt.keeps {h h' : Heap} {v : Value} {s : St5} (x : IsSt h v s) (k : ∀ b o, h.get? b = some o → o.cls = .type "tuple" → h'.get? b = some o) : IsSt h' v s := by
  obtain ⟨a, u, o, r, n, m, t1, t2, t3, t4, t5, t6, e, h1, h2, h3, h4, h5, h6⟩ := x
  exact ⟨a, u, o, r, n, m, t1, t2, t3, t4, t5, t6, e, k _ _ h1 h2, h2, h3, k _ _ h4 h5, h5, h6⟩
section
variable {prog : Program} {w : World} {A : Around} {E : Value → Shared → Prop} {s : Shared}
theorem st_cmp {vs : List Value} {k : Value → St5} (hu : A.units + 1 < cLine) (hp : ∀ v ∈ vs, IsSt s.heap v (k v)) : SrtO.Cmp prog w A s (tuples' true) (fun p => p.1 ∈ vs) (SrtO.lt2 fun v u => stLt (k v) (k u)) := by
  intro p q hm hm'
  have h1 := hp _ hm
  have h2 := hp _ hm'
  show wpAny (model prog w) A (keyLt' (tuples' true) p.1 q.1) (fun r s' => s' = s ∧ r = stLt (k p.1) (k q.1)) (fun _ _ => False) s
  generalize k p.1 = x at h1 ⊢
  generalize k q.1 = y at h2 ⊢
  obtain ⟨a, u, o, r, n, m, t1, t2, t3, t4, t5, t6, e, g1, g2, g3, g4, g5, g6⟩ := h1
  obtain ⟨a', u', o', r', n', m', u1, u2, u3, u4, u5, u6, e', j1, j2, j3, j4, j5, j6⟩ := h2
  rw [e, e']
  refine PySem.W.kat_lt g1 g3 j1 j3 ?_
  show PySem.W.KatLex prog w A true (decide (5 < 5)) _ [(.int x.one t1, .int y.one u1), (.int x.other t2, .int y.other u2), (.ref u, .ref u'), (.int x.ticks t3, .int y.ticks u3), (.int x.change t4, .int y.change u4)] 0 s
  refine PySem.W.kat_cons (SeqAt.EqAt.int_int _ _ _ _ prog w _ _ ?_)
  refine PySem.W.kat_go (fun e1 => ?ye1) (fun e1 => ?ne1)
  case ne1 =>
    have ex : ¬ x.one = y.one := by simpa using e1
    refine PySem.W.kat_no (oneLt_int ⟨rfl, ?_⟩)
    unfold stLt
    rw [if_neg ex]
  have ex : x.one = y.one := by simpa using e1
  refine PySem.W.kat_yes (PySem.W.kat_cons (SeqAt.EqAt.int_int _ _ _ _ prog w _ _ ?_))
  refine PySem.W.kat_go (fun e2 => ?ye2) (fun e2 => ?ne2)
  case ne2 =>
    have ey : ¬ x.other = y.other := by simpa using e2
    refine PySem.W.kat_no (PySem.W.kat_one _ _ (PyProof.Rows.lt_int (Q := PySem.W.BoolBack _) ⟨rfl, ?_⟩))
    unfold stLt
    rw [if_pos ex, if_neg ey]
  have ey : x.other = y.other := by simpa using e2
  have k1 : IsTupleKey (PySem.intKind prog w) s.heap [x.p, x.q] u := ⟨r, _, m, g4, g5, g6, .cons (by simp [PySem.intKind, Value.isInt]) (.cons (by simp [PySem.intKind, Value.isInt]) .nil)⟩
  have k2 : IsTupleKey (PySem.intKind prog w) s.heap [y.p, y.q] u' := ⟨r', _, m', j4, j5, j6, .cons (by simp [PySem.intKind, Value.isInt]) (.cons (by simp [PySem.intKind, Value.isInt]) .nil)⟩
  refine PySem.W.kat_yes (PySem.W.kat_cons (wpAny_eqBool_tuple (by omega) k1 k2 ?_))
  refine PySem.W.kat_go (fun e3 => ?ye3) (fun e3 => ?ne3)
  case ne3 =>
    have ez : ¬ (x.p = y.p ∧ x.q = y.q) := by simpa using e3
    refine PySem.W.kat_no (PySem.W.kat_one _ _ (HT.lt_tupInts (ns := [x.p, x.q]) (ms := [y.p, y.q]) ⟨r, g4, g5, m, g6⟩ ⟨r', j4, j5, m', j6⟩ (.cons _ _ (.cons _ _ .nil)) (.cons _ _ (.cons _ _ .nil)) (by omega) ⟨rfl, ?_⟩))
    unfold stLt
    rw [if_pos ex, if_pos ey, if_neg ez]
    show HT.lexLt [x.p, x.q] [y.p, y.q] = pqLt x y
    rw [HT.lexLt_cons, HT.lexLt_cons, HT.lexLt_nil_nil]
    unfold pqLt
    by_cases hpp : x.p = y.p
    · rw [if_pos hpp, if_pos hpp, if_neg (fun z => ez ⟨hpp, z⟩)]
    · rw [if_neg hpp, if_neg hpp]
  have ez : x.p = y.p ∧ x.q = y.q := by simpa using e3
  refine PySem.W.kat_yes (PySem.W.kat_cons (SeqAt.EqAt.int_int _ _ _ _ prog w _ _ ?_))
  refine PySem.W.kat_go (fun e4 => ?ye4) (fun e4 => ?ne4)
  case ne4 =>
    have et : ¬ x.ticks = y.ticks := by simpa using e4
    refine PySem.W.kat_no (PySem.W.kat_one _ _ (PyProof.Rows.lt_int (Q := PySem.W.BoolBack _) ⟨rfl, ?_⟩))
    unfold stLt
    rw [if_pos ex, if_pos ey, if_pos ez, if_neg et]
  have et : x.ticks = y.ticks := by simpa using e4
  refine PySem.W.kat_yes (PySem.W.kat_cons (SeqAt.EqAt.int_int _ _ _ _ prog w _ _ ?_))
  refine PySem.W.kat_go (fun e5 => ?ye5) (fun e5 => ?ne5)
  case ne5 =>
    refine PySem.W.kat_no (PySem.W.kat_one _ _ (PyProof.Rows.lt_int (Q := PySem.W.BoolBack _) ⟨rfl, ?_⟩))
    unfold stLt
    rw [if_pos ex, if_pos ey, if_pos ez, if_pos et]
  have ec : x.change = y.change := by simpa using e5
  refine PySem.W.kat_yes (PySem.W.kat_nil ⟨rfl, ?_⟩)
  unfold stLt
  rw [if_pos ex, if_pos ey, if_pos ez, if_pos et, ec]
  exact (decide_eq_false (Int.lt_irrefl _)).symm
theorem st_firsts {h : Heap} : ∀ {vs : List Value}, (∀ v ∈ vs, ∃ s, IsSt h v s) → ∃ fs : List Value, PySem.W.KatTups h vs fs ∧ fs.length = vs.length ∧ ∀ f ∈ fs, ∃ x t, f = Value.int x t
  | [], _ => ⟨[], PySem.W.KatTups.nil, rfl, fun _ hm => absurd hm (by simp)⟩
  | v :: vs, hp => by
    obtain ⟨fs, h1, h2, h3⟩ := st_firsts (vs := vs) fun v' hm => hp v' (List.mem_cons_of_mem _ hm)
    obtain ⟨s, a, u, o, r, n, m, t1, t2, t3, t4, t5, t6, rfl, g1, g2, g3, _⟩ := hp v List.mem_cons_self
    refine ⟨.int s.one t1 :: fs, PySem.W.KatTups.cons g1 g2 g3 rfl h1, by rw [List.length_cons, List.length_cons, h2], fun f hm => ?_⟩
    rcases List.mem_cons.mp hm with rfl | hm
    · exact ⟨_, _, rfl⟩
    · exact h3 f hm
theorem st_sortable {a : Addr} {vs : List Value} {k : Value → St5} (hu : A.units + 1 < cLine) (h0 : 0 < vs.length) (hp : ∀ v ∈ vs, IsSt s.heap v (k v)) (ha : ∀ o, s.heap.get? a = some o → o.cls ≠ .type "tuple") :
    SrtO.SortableO prog w A s a vs fun v u => stLt (k v) (k u) := by
  intro h' keep
  have hp' : ∀ v ∈ vs, IsSt h' v (k v) := fun v hm => (hp v hm).keeps fun b o e c => keep b o (fun z => ha o (by rw [← z]; exact e) c) e
  obtain ⟨fs, h1, h2, h3⟩ := st_firsts fun v hm => ⟨_, hp' v hm⟩
  refine ⟨tuples' true, fun Q E hq => ?_, st_cmp hu hp'⟩
  refine PySem.W.kat_kind (T := .type "int") h1 (by omega) (fun f hm => ?_) (by rfl) ?_
  · obtain ⟨x, t, rfl⟩ := h3 f hm
    exact PySem.W.Looks.now
  · have e : (Value.type "int" != Value.type "tuple") = true := by decide +kernel
    rw [e]
    exact hq
end
section
open Classical
variable {X : Cx} {pins : List (Addr × Obj)} {σ : L2.St} {H : Hp} {s : Shared}
theorem is_st {v : V} {u : Value} {t : St5} (I : Inv X pins σ H s) (d : Dp X.K H v (stD t)) (r : RelV v u) : IsSt s.heap u t := by
  obtain ⟨a, b, rfl, h1, h2⟩ := stD_inv d
  cases (show u = Value.ref a from r)
  obtain ⟨i1, r1, ⟨o, g1, g2, n, g3⟩, _⟩ := I.tuple h1
  obtain ⟨i2, r2, ⟨o2, j1, j2, m, j3⟩, _⟩ := I.tuple h2
  cases r1 with
  | cons q1 r1 =>
    cases r1 with
    | cons q2 r1 =>
      cases r1 with
      | cons q3 r1 =>
        cases r1 with
        | cons q4 r1 =>
          cases r1 with
          | cons q5 r1 =>
            cases r1
            cases r2 with
            | cons p1 r2 =>
              cases r2 with
              | cons p2 r2 =>
                cases r2
                obtain ⟨t1, rfl⟩ := q1
                obtain ⟨t2, rfl⟩ := q2
                obtain rfl := q3
                obtain ⟨t3, rfl⟩ := q4
                obtain ⟨t4, rfl⟩ := q5
                obtain ⟨t5, rfl⟩ := p1
                obtain ⟨t6, rfl⟩ := p2
                exact ⟨a, b, o, o2, n, m, t1, t2, t3, t4, t5, t6, rfl, g1, g2, g3, j1, j2, j3⟩
theorem IsSt.uniq {h : Heap} {v : Value} {s t : St5} (x : IsSt h v s) (y : IsSt h v t) : s = t := by
  obtain ⟨a, u, o, r, n, m, t1, t2, t3, t4, t5, t6, rfl, g1, g2, g3, g4, g5, g6⟩ := x
  obtain ⟨a', u', o', r', n', m', u1, u2, u3, u4, u5, u6, e', j1, j2, j3, j4, j5, j6⟩ := y
  cases e'
  rw [g1] at j1
  cases j1
  rw [g3] at j3
  injection j3 with j3 _
  injection j3 with j3
  simp only [List.cons.injEq, Value.int.injEq, Value.ref.injEq, and_true] at j3
  obtain ⟨⟨e1, _⟩, ⟨e2, _⟩, e3, ⟨e4, _⟩, e5, _⟩ := j3
  subst e3
  rw [g4] at j4
  cases j4
  rw [g6] at j6
  injection j6 with j6 _
  injection j6 with j6
  simp only [List.cons.injEq, Value.int.injEq, and_true] at j6
  obtain ⟨⟨e6, _⟩, e7, _⟩ := j6
  cases s
  cases t
  simp_all
/-- steps in order -/
def SrS (ts : List St5) : Prop := ts.Pairwise fun x y => stLt y x = false
theorem dpa_of {K : PySem.W.Frag} {H : Hp} {k : Value → St5} : ∀ {l : List Value}, (∀ u ∈ l, Dp K H (backV u) (stD (k u))) → DpAll K H (l.map backV) ((l.map k).map stD)
  | [], _ => .nil
  | u :: l, h => .cons (h u List.mem_cons_self) (dpa_of fun v m => h v (List.mem_cons_of_mem _ m))
theorem ks_eq {k : Value → St5} (I : Inv X pins σ H s) : ∀ {xs : List V} {its : List Value} {ss : List St5}, Vals xs its → DpAll X.K H xs (ss.map stD) → (∀ v ∈ its, IsSt s.heap v (k v)) → its.map k = ss
  | [], _, ss, r, h, _ => by
    cases r
    cases ss with
    | nil => rfl
    | cons => cases h
  | x :: xs, _, [], r, h, _ => by cases h
  | x :: xs, _, t :: ss, r, h, hk => by
    cases r with
    | cons r1 r2 =>
      cases h with
      | cons h1 h2 =>
        rw [List.map_cons, ks_eq I r2 h2 fun v m => hk v (List.mem_cons_of_mem _ m), (hk _ List.mem_cons_self).uniq (is_st I h1 r1)]
/-- sorted of a list of steps: the same ones in order -/
def rSortSt (K : PySem.W.Frag) : List V → Hp → VK → Prop := fun vs H Q => ∃ (a : Addr) (xs : List V) (ss : List St5), vs = [V.ref a] ∧ SqL K H a xs ∧ DpAll K H xs (ss.map stD) ∧
  ∀ (ys : List V) (ts : List St5) (p : Addr), ys.Perm xs → ts.Perm ss → DpAll K H ys (ts.map stD) → SrS ts → H p = none → Q (.ref p) (upd H p (.lst ys))
theorem cr_sortSt {j : Nat} (hr : Room j X.A) : CallR X (.builtin "sorted") (rSortSt X.K) := by
  intro pins s σ H vs us Q I r h
  obtain ⟨a, xs, ss, rfl, hs, hD0, q⟩ := h
  have hx : ∀ x ∈ xs, ∃ t, Dp X.K H x (stD t) := fun x hx => by
    obtain ⟨i, hi⟩ := List.mem_iff_getElem?.mp hx
    obtain ⟨d, h1, h2⟩ := dpa_get hD0 hi
    rw [List.getElem?_map] at h1
    cases q : ss[i]? with
    | none =>
      rw [q] at h1
      cases h1
    | some t =>
      rw [q] at h1
      cases h1
      exact ⟨t, h2⟩
  obtain ⟨its, rv, hl, hz⟩ := I.list hs
  obtain ⟨u, rfl, ru⟩ := vals1 r
  cases (show u = Value.ref a from ru)
  have hun := hr.un
  have all : ∀ v ∈ its, ∃ t, IsSt s.heap v t := fun v hv => by
    obtain ⟨i, hi⟩ := List.mem_iff_getElem?.mp hv
    have hlen := rv.length
    have hil : i < its.length := (List.getElem?_eq_some_iff.mp hi).1
    have hx1 : xs[i]? = some (xs[i]'(by omega)) := List.getElem?_eq_getElem (by omega)
    obtain ⟨w', hw, rw'⟩ := rv.get hx1
    rw [hi] at hw
    cases hw
    obtain ⟨t, ht⟩ := hx _ (mem_of_get hx1)
    exact ⟨t, is_st I ht rw'⟩
  let k : Value → St5 := fun v => if h : ∃ t, IsSt s.heap v t then Classical.choose h else ⟨0, 0, 0, 0, 0, 0⟩
  have hk : ∀ v ∈ its, IsSt s.heap v (k v) := fun v hv => by
    have e : k v = Classical.choose (all v hv) := dif_pos (all v hv)
    rw [e]
    exact Classical.choose_spec (all v hv)
  have hks := ks_eq I rv hD0 hk
  obtain ⟨e1, e2⟩ := refs_back rv fun x m => by
    obtain ⟨t, ht⟩ := hx x m
    obtain ⟨b, c, e, _⟩ := stD_inv ht
    exact ⟨b, e⟩
  refine SrtO.sorted_ord (swo_st k) hl.isList (by rw [← rv.length]; exact hz) (fun h2 h₁ b hb kk => ?_) fun out h1 h2 => ?_
  · refine st_sortable (s := { s with heap := h₁ }) (show X.A.in1.in1.units + 1 < cLine by show X.A.units + 1 + 1 + 1 < cLine; omega) (by omega) (fun v hv => (hk v hv).keeps fun c o e _ => (kk c o e).2) fun o e => ?_
    cases (show some o = some (seqObj "list" its.toArray 0) from e.symm.trans hb)
    intro c
    exact absurd (Value.type.inj c) (by decide)
  · have h3 : ∀ u ∈ out, ∃ a, u = Value.ref a := fun u hu => e2 u (h2.perm.mem_iff.mp hu)
    obtain ⟨n, hn⟩ := PyProof.Rows.sortedAll_at s.heap its out.toArray
    have hp : (out.map backV).Perm xs := by
      rw [e1]
      exact h2.perm.map backV
    have hD : DpAll X.K H (out.map backV) ((out.map k).map stD) := dpa_of fun u hu => by
      obtain ⟨b, rfl⟩ := h3 u hu
      obtain ⟨t, ht⟩ := hx (backV (.ref b)) (hp.mem_iff.mp (List.mem_map.mpr ⟨_, hu, rfl⟩))
      have h5 := is_st I ht (show RelV (backV (.ref b)) (.ref b) from rfl)
      rw [(hk _ (h2.perm.mem_iff.mp hu)).uniq h5]
      exact ht
    have hO : SrS (out.map k) := List.pairwise_map.mpr h1
    refine ⟨.ref (s.heap.objs.size + 1), upd H (s.heap.objs.size + 1) (.lst (out.map backV)), I.laid (t' := s.toks) (fun b o e => PyProof.Rows.sortedAll_old e) (Nat.le_succ _) ⟨?_, out, n, vals_back h3, hn⟩, rfl, q _ _ _ hp (by rw [← hks]; exact h2.perm.map k) hD hO (I.hok.fresh (Nat.le_succ _))⟩
    rw [hp.length_eq]
    exact hz
end
end AA

set_option Elab.async false
set_option linter.all false
set_option maxRecDepth 100000
set_option maxHeartbeats 4000000
/-! A dict whose keys are steps (tuples with a tuple in them), whose values are True. -/
namespace AA
open PySem PySem.Spec PyProof.Rows L2 Evl
def stK (s : St5) : NestedKey := .tup [.num s.one, .num s.other, .tup [.num s.p, .num s.q], .num s.ticks, .num s.change]
theorem stK_inj {s t : St5} (h : stK s = stK t) : s = t := by
  unfold stK at h
  injection h with h
  injection h with a1 h
  injection h with a2 h
  injection h with a3 h
  injection h with a4 h
  injection h with a5 _
  injection a1 with a1
  injection a2 with a2
  injection a4 with a4
  injection a5 with a5
  injection a3 with a3
  injection a3 with b1 a3
  injection a3 with b2 _
  injection b1 with b1
  injection b2 with b2
  cases s
  cases t
  simp_all
theorem IsSt.nested {h : Heap} {b : Addr} {s : St5} (x : IsSt h (.ref b) s) : NestedIs h (stK s) (.ref b) := by
  obtain ⟨a, u, o, r, n, m, t1, t2, t3, t4, t5, t6, e, g1, g2, g3, g4, g5, g6⟩ := x
  cases e
  exact .tup g1 g2 g3 (.cons (.int _ _) (.cons (.int _ _) (.cons (.tup g4 g5 g6 (.cons (.int _ _) (.cons (.int _ _) .nil))) (.cons (.int _ _) (.cons (.int _ _) .nil)))))
theorem IsSt.key {prog : Program} {w : World} {h : Heap} {b : Addr} {s : St5} (x : IsSt h (.ref b) s) : (nestedKind prog w).is h (stK s) b := ⟨x.nested, by simp [stK, NestedKey.depth, NestedKey.depthAll]⟩
/-- the entries of the dict -/
def sdEn (x : St5 × Addr) : NestedKey × Addr × Value := (stK x.1, x.2, .bool true)
/-- a dict at a, its keys these steps at these places -/
def SD (P : Program) (w : World) (a : Addr) (ks : List (St5 × Addr)) : HO := .ext fun h => ks.length ≤ sizeLine ∧ (a == sysModules) = false ∧ (ks.map (·.1)).Nodup ∧
  ∃ o es ep, h.get? a = some o ∧ o.ExactDict ∧ o.data = .dict es ep ∧ es.toList = (ks.map sdEn).map (entryOfKey (nestedKind P w))
/-- and its keys stand -/
def KsOk (K : PySem.W.Frag) (H : Hp) (ks : List (St5 × Addr)) : Prop := ∀ x ∈ ks, Dp K H (.ref x.2) (stD x.1)
theorem KsOk.ex {K : PySem.W.Frag} {H H' : Hp} {ks : List (St5 × Addr)} (h : KsOk K H ks) (e : Ex H H') : KsOk K H' ks := fun x m => dp_ex e _ _ (h x m)
theorem KsOk.nil {K : PySem.W.Frag} {H : Hp} : KsOk K H [] := fun _ m => absurd m (by simp)
theorem KsOk.snoc {K : PySem.W.Frag} {H : Hp} {ks : List (St5 × Addr)} {s : St5} {b : Addr} (h : KsOk K H ks) (d : Dp K H (.ref b) (stD s)) : KsOk K H (ks ++ [(s, b)]) := fun x m => by
  rcases List.mem_append.mp m with m | m
  · exact h x m
  · rw [List.mem_singleton] at m
    subst m
    exact d
theorem sd_nodup : ∀ {ks : List (St5 × Addr)}, (ks.map (·.1)).Nodup → ((ks.map sdEn).map (·.1)).Nodup := by
  intro ks h
  have e : (ks.map sdEn).map (·.1) = (ks.map (·.1)).map stK := by
    rw [List.map_map, List.map_map]
    rfl
  rw [e]
  exact h.map stK fun x y n z => n (stK_inj z)
theorem sd_at (t : St5) : ∀ ks : List (St5 × Addr), (atKey (ks.map sdEn) (stK t)).isSome = decide (t ∈ ks.map (·.1))
  | [] => rfl
  | x :: r => by
    have ih := sd_at t r
    by_cases e : x.1 = t
    · have h1 : (stK x.1 = stK t) := by rw [e]
      have h2 : atKey ((x :: r).map sdEn) (stK t) = some (x.2, .bool true) := by simp [atKey, sdEn, h1]
      rw [h2, List.map_cons, decide_eq_true (List.mem_cons.mpr (.inl e.symm))]
      rfl
    · have h1 : ¬ stK x.1 = stK t := fun z => e (stK_inj z)
      have h2 : atKey ((x :: r).map sdEn) (stK t) = atKey (r.map sdEn) (stK t) := by simp [atKey, sdEn, h1]
      rw [h2, ih]
      exact decide_eq_decide.mpr ⟨fun m => List.mem_cons_of_mem _ m, fun m => (List.mem_cons.mp m).elim (fun z => absurd z.symm e) id⟩
theorem sd_none {t : St5} {ks : List (St5 × Addr)} (h : t ∉ ks.map (·.1)) : atKey (ks.map sdEn) (stK t) = none := by
  have := sd_at t ks
  rw [decide_eq_false h] at this
  cases q : atKey (ks.map sdEn) (stK t) with
  | none => rfl
  | some x =>
    rw [q] at this
    cases this
section
variable {X : Cx} {pins : List (Addr × Obj)} {σ : L2.St} {H : Hp} {s : Shared} {a : Addr} {ks : List (St5 × Addr)} {A : Around} {E : Value → Shared → Prop}
theorem sd_is {x : St5 × Addr} (I : Inv X pins σ H s) (d : Dp X.K H (.ref x.2) (stD x.1)) : (nestedKind X.prog X.w).is s.heap (stK x.1) x.2 :=
  IsSt.key (is_st I d rfl)
theorem sd_of (I : Inv X pins σ H s) (e : H a = some (SD X.prog X.w a ks)) (k : KsOk X.K H ks) : ks.length ≤ sizeLine ∧ (a == sysModules) = false ∧ (ks.map (·.1)).Nodup ∧ s.heap.DictOfH (nestedKind X.prog X.w) a (ks.map sdEn) := by
  obtain ⟨⟨z, hd, hn, o, es, ep, h1, h2, h3, h4⟩, _, _⟩ := (show ObjOk X.prog X.w H s.heap a (SD X.prog X.w a ks) from I.hok a _ e)
  refine ⟨z, hd, hn, o, es, ep, h1, h2, h3, h4, fun y hy => ?_, sd_nodup hn⟩
  obtain ⟨x, hx, rfl⟩ := List.mem_map.mp hy
  exact sd_is I (k x hx)
theorem sd_ok {P : Program} {w : World} {H' : Hp} {h' : Heap} (z : ks.length ≤ sizeLine) (hd : (a == sysModules) = false) (hn : (ks.map (·.1)).Nodup) (d : h'.DictOfH (nestedKind P w) a (ks.map sdEn)) : ObjOk P w H' h' a (SD P w a ks) := by
  obtain ⟨o, es, ep, h1, h2, h3, h4, _⟩ := d
  exact ⟨⟨z, hd, hn, o, es, ep, h1, h2, h3, h4⟩, ⟨o, h1⟩, fun h1' h2' p k => by
    obtain ⟨z, hd, hn, o, es, ep, g1, g⟩ := p
    exact ⟨z, hd, hn, o, es, ep, k _ g1, g⟩⟩
/-- found[step] = True, the step new -/
theorem sd_set {t : St5} {b : Addr} {Q : Unit → Shared → Prop} (hu : A.units + 9 < cLine) (I : Inv X pins σ H s) (e : H a = some (SD X.prog X.w a ks)) (k : KsOk X.K H ks) (d : Dp X.K H (.ref b) (stD t)) (hn : t ∉ ks.map (·.1)) (hl : ks.length < sizeLine)
    (h : ∀ s', Inv X pins σ (upd H a (SD X.prog X.w a (ks ++ [(t, b)]))) s' → Q () s') : wpAny (model X.prog X.w) A (setItem (.ref a) (.ref b) (.bool true)) Q E s := by
  obtain ⟨z, hd, nd, dd⟩ := sd_of I e k
  refine wpAny_setItem_heap (hsz := by rw [List.length_map]; exact z) (show A.in1.units + 8 < cLine by rw [Around.in1_units]; omega) (sd_is (x := (t, b)) I d) dd fun h' dd' hs => h _ ?_
  rw [storedH_new (sd_none hn)] at dd'
  have e2 : ks.map sdEn ++ [(stK t, b, Value.bool true)] = (ks ++ [(t, b)]).map sdEn := by rw [List.map_append]; rfl
  rw [show ((stK (t, b).1), b, Value.bool true) = (stK t, b, Value.bool true) from rfl, e2] at dd'
  obtain ⟨q, es, ep, hq, h2⟩ := id dd'
  refine d_write I (by rw [e]; exact True.intro) hs ⟨q, hq⟩ (sd_ok (by rw [List.length_append]; exact hl) hd ?_ dd')
  rw [List.map_append, List.nodup_append]
  refine ⟨nd, by simp, fun x hx y hy => ?_⟩
  simp only [List.map_cons, List.map_nil, List.mem_singleton] at hy
  subst hy
  exact fun q => hn (q ▸ hx)
theorem sd_in {t : St5} {b : Addr} {Q : Value → Shared → Prop} (hu : A.units + 9 < cLine) (I : Inv X pins σ H s) (e : H a = some (SD X.prog X.w a ks)) (k : KsOk X.K H ks) (d : Dp X.K H (.ref b) (stD t))
    (h : ∀ s', Inv X pins σ H s' → Q (.bool (decide (t ∈ ks.map (·.1)))) s') : wpAny (model X.prog X.w) A (compareOp .In (.ref b) (.ref a)) Q E s := by
  obtain ⟨z, hd, nd, dd⟩ := sd_of I e k
  refine wpAny_in_heap (show A.in1.units + 8 < cLine by rw [Around.in1_units]; omega) (sd_is (x := (t, b)) I d) hd dd ?_
  rw [sd_at]
  exact h _ (I.tok _)
theorem sd_notIn {t : St5} {b : Addr} {Q : Value → Shared → Prop} (hu : A.units + 9 < cLine) (I : Inv X pins σ H s) (e : H a = some (SD X.prog X.w a ks)) (k : KsOk X.K H ks) (d : Dp X.K H (.ref b) (stD t))
    (h : ∀ s', Inv X pins σ H s' → Q (.bool (!decide (t ∈ ks.map (·.1)))) s') : wpAny (model X.prog X.w) A (compareOp .NotIn (.ref b) (.ref a)) Q E s := by
  obtain ⟨z, hd, nd, dd⟩ := sd_of I e k
  refine wpAny_notIn_heap (show A.in1.units + 8 < cLine by rw [Around.in1_units]; omega) (sd_is (x := (t, b)) I d) hd dd ?_
  rw [sd_at]
  exact h _ (I.tok _)
end
end AA

set_option Elab.async false
set_option linter.all false
set_option maxRecDepth 100000
set_option maxHeartbeats 4000000
/-! The same: None looked up, the rules for the program's text, list of it, a comprehension that makes one. -/
namespace AA
open PySem PySem.Spec PyProof.Rows L2 Evl
section
variable {prog : Program} {w : World} {A : Around} {E : Value → Shared → Prop} {s : Shared}
theorem find_none {d : Addr} {o : Obj} {es : Array DictEntry} {ep : Nat} {hh : Int} {Q : Option Nat → Shared → Prop} (hu : A.units + 8 < cLine) (ho : s.heap.get? d = some o) (hd : o.data = .dict es ep)
    (hk : ∀ e ∈ es, ∃ t b, e.key = .ref b ∧ IsSt s.heap (.ref b) t) (hq : Q none s) : wpAny (model prog w) A (dictFind d .none hh) Q E s := by
  have key : ∀ (i : Nat) (e : DictEntry), es[i]? = some e → ∃ t b, e.key = .ref b ∧ IsSt s.heap (.ref b) t := fun i e h => hk e (Array.mem_of_getElem? h)
  unfold dictFind
  try with_reducible refine wpAny_holding ?_
  refine wpAny_bind (wpAny_dictEntries ho hd ?_)
  dsimp only
  by_cases hc : ((Value.none :: (placesWithHash es.size (fun i => es[i]?.map (·.hash)) hh).filterMap (fun i => es[i]?.map (·.key))).all carriedByValue) = true
  · rw [if_pos hc]
    have hp : ∀ i ∈ placesWithHash es.size (fun i => es[i]?.map (·.hash)) hh, es[i]? = none := fun i hi => by
      cases q : es[i]? with
      | none => rfl
      | some e =>
        obtain ⟨t, b, e1, _⟩ := key i e q
        have m : e.key ∈ (placesWithHash es.size (fun i => es[i]?.map (·.hash)) hh).filterMap (fun i => es[i]?.map (·.key)) := List.mem_filterMap.mpr ⟨i, hi, by rw [q]; rfl⟩
        have := List.all_eq_true.mp hc _ (List.mem_cons_of_mem _ m)
        rw [e1] at this
        cases this
    unfold dictWalkPlain
    refine wpAny_bind ?_
    refine wpAny_forIn_list _ (fun rest b s' => s' = s ∧ b = (none, ()) ∧ ∀ i ∈ rest, es[i]? = none) _ ?_ ?_ _ _ ⟨rfl, rfl, hp⟩
    · rintro x rest b s' ⟨rfl, rfl, hr⟩
      rw [hr x List.mem_cons_self]
      exact wpAny_pure ⟨rfl, rfl, fun i hi => hr i (List.mem_cons_of_mem _ hi)⟩
    · rintro b s' ⟨rfl, rfl, _⟩
      exact wpAny_pure hq
  · rw [if_neg hc]
    have hst : ∀ v ∈ (placesWithHash es.size (fun i => es[i]?.map (·.hash)) hh).filterMap (fun i => es[i]?.map (·.key)), ∃ t b, v = .ref b ∧ IsSt s.heap (.ref b) t := fun v hv => by
      obtain ⟨i, _, hi⟩ := List.mem_filterMap.mp hv
      cases q : es[i]? with
      | none =>
        rw [q] at hi
        cases hi
      | some e =>
        rw [q] at hi
        obtain rfl : e.key = v := by simpa using hi
        exact key i e q
    have tell : ∀ (st : List Value) (R : Bool → Shared → Prop), (∀ v ∈ st, ∃ t b, v = .ref b ∧ IsSt s.heap (.ref b) t) → R false s → wpAny (model prog w) A (tableMayTell .none st) R E s := by
      intro st R hv hR
      unfold tableMayTell
      split
      · exact wpAny_pure hR
      · refine wpAny_bind (quiet_key .none _ 8 s .none (by simp [NestedKey.depth]) A E _ ?_)
        simp only [Bool.not_true, Bool.false_eq_true, if_false]
        refine wpAny_bind ?_
        refine wpAny_forIn_list _ (fun rest r s' => s' = s ∧ r = (none, ()) ∧ ∀ v ∈ rest, ∃ t b, v = .ref b ∧ IsSt s.heap (.ref b) t) _ ?_ ?_ _ _ ⟨rfl, rfl, hv⟩
        · rintro x rest r s' ⟨rfl, rfl, hr⟩
          obtain ⟨t, b, rfl, hb⟩ := hr x List.mem_cons_self
          refine wpAny_bind (quiet_key (stK t) _ 8 s' hb.nested (by simp [stK, NestedKey.depth, NestedKey.depthAll]) A E _ ?_)
          simp only [Bool.not_true, Bool.false_eq_true, if_false]
          exact wpAny_pure ⟨rfl, rfl, fun v m => hr v (List.mem_cons_of_mem _ m)⟩
        · rintro r s' ⟨rfl, rfl, _⟩
          exact wpAny_pure hR
    rw [if_neg (fun z => ?bad)]
    case bad =>
      have z1 := eq_of_beq z
      obtain ⟨t, b, q, _⟩ := hst .none (by rw [z1]; exact List.mem_cons_self)
      cases q
    refine wpAny_bind (tell _ _ hst ?_)
    rw [if_neg (by simp)]
    refine wpAny_bind ?_
    refine wpAny_forIn_list _ (fun rest b s' => s' = s ∧ b = (none, none)) _ ?_ ?_ _ _ ⟨rfl, rfl⟩
    · rintro x rest b s' ⟨rfl, rfl⟩
      cases q : es[x]? with
      | none => exact wpAny_pure ⟨rfl, rfl⟩
      | some e =>
        obtain ⟨t, b, e1, hb⟩ := key x e q
        dsimp only
        by_cases hs : (e.hash == hh) = true
        · rw [if_pos hs]
          refine wpAny_bind (wpAny_dictEpoch ho hd (wpAny_bind ?_))
          rw [e1]
          refine eqAt_key (stK t) .none A s' _ _ hb.nested .none (by simp only [NestedKey.depth]; omega) _ _ _ _ ?_
          refine wpAny_bind (wpAny_dictEpoch ho hd ?_)
          rw [if_neg (by simp)]
          rw [if_neg (by simp [stK, NestedKey.beq])]
          refine wpAny_bind (wpAny_rule ?_)
          rw [if_neg (by simp)]
          exact wpAny_pure ⟨rfl, rfl⟩
        · rw [if_neg hs]
          exact wpAny_pure ⟨rfl, rfl⟩
    · rintro b s' ⟨rfl, rfl⟩
      exact wpAny_pure hq
theorem get_none {d : Addr} {o : Obj} {es : Array DictEntry} {ep : Nat} {Q : Option Value → Shared → Prop} (hu : A.units + 8 < cLine) (ho : s.heap.get? d = some o) (hd : o.data = .dict es ep)
    (hk : ∀ e ∈ es, ∃ t b, e.key = .ref b ∧ IsSt s.heap (.ref b) t) (hq : Q none { s with toks := s.toks + 1 }) : wpAny (model prog w) A (dictGet d .none) Q E s := by
  unfold dictGet
  try with_reducible refine wpAny_holding ?_
  exact wpAny_bind (pyHash_key .none .none A s _ .none (by simp only [NestedKey.depth]; omega) (wpAny_bind (find_none (s := { s with toks := s.toks + 1 }) hu ho hd hk (wpAny_pure hq))))
theorem notIn_none {d : Addr} {o : Obj} {es : Array DictEntry} {ep : Nat} {Q : Value → Shared → Prop} (hu : A.units + 9 < cLine) (hs : (d == sysModules) = false) (ho : s.heap.get? d = some o) (hx : o.ExactDict) (hd : o.data = .dict es ep)
    (hk : ∀ e ∈ es, ∃ t b, e.key = .ref b ∧ IsSt s.heap (.ref b) t) (hq : Q (.bool true) { s with toks := s.toks + 1 }) : wpAny (model prog w) A (compareOp .NotIn .none (.ref d)) Q E s := by
  have hT : s.TypeIs (.ref d) "dict" := ⟨o, ho, hx.1⟩
  show wpAny _ _ (contains (.ref d) .none >>= fun b => pure (.bool (!b))) Q E s
  refine wpAny_bind (wpAny_contains_slot hT slot_dict_contains (wpAny_call_entry slot_dict_contains hT entry_dict_contains ?_ (args_dict_contains _ _)))
  show wpAny _ _ (dictGet d .none >>= _) _ _ s
  refine wpAny_bind (get_none (by rw [Around.in1_units]; omega) ho hd hk ?_)
  exact wpAny_bind (wpAny_pendingKey_other hs (wpAny_pure ⟨_, rfl, wpAny_truthy_bool (wpAny_pure hq)⟩))
end
section
variable {X : Cx} {o i e value : Expr} {pos pos' tpos : Pos} {j : Nat} {td ty tv : TE}
theorem sd_ents {pins : List (Addr × Obj)} {σ : L2.St} {H : Hp} {s : Shared} {a : Addr} {ks : List (St5 × Addr)} (I : Inv X pins σ H s) (e : H a = some (SD X.prog X.w a ks)) (k : KsOk X.K H ks) :
    (a == sysModules) = false ∧ ks.length ≤ sizeLine ∧ ∃ o es ep, s.heap.get? a = some o ∧ o.ExactDict ∧ o.data = .dict es ep ∧ es.toList = (ks.map sdEn).map (entryOfKey (nestedKind X.prog X.w)) ∧ ∀ e ∈ es, ∃ t b, e.key = .ref b ∧ IsSt s.heap (.ref b) t := by
  obtain ⟨⟨z, hd, hn, o, es, ep, h1, h2, h3, h4⟩, _, _⟩ := (show ObjOk X.prog X.w H s.heap a (SD X.prog X.w a ks) from I.hok a _ e)
  refine ⟨hd, z, o, es, ep, h1, h2, h3, h4, fun en hen => ?_⟩
  have m : en ∈ (ks.map sdEn).map (entryOfKey (nestedKind X.prog X.w)) := h4 ▸ Array.mem_toList_iff.mpr hen
  obtain ⟨y, hy, rfl⟩ := List.mem_map.mp m
  obtain ⟨x, hx, rfl⟩ := List.mem_map.mp hy
  exact ⟨x.1, x.2, rfl, is_st I (k x hx) rfl⟩
/-- {}, to hold steps -/
def tSNew (X : Cx) : TE := fun _ H Q => ∀ p, H p = none → Q (.ref p) (upd H p (SD X.prog X.w p []))
theorem sd_empty {P : Program} {w : World} {H : Hp} (h : Heap) (hb : sysModules < h.objs.size) : ObjOk P w H (h.push { cls := .type "dict", data := .dict #[] }) h.objs.size (SD P w h.objs.size []) :=
  sd_ok (Nat.zero_le _) (beq_eq_false_iff_ne.mpr (Ne.symm (Nat.ne_of_lt hb))) List.nodup_nil (Heap.DictOfH.new h)
theorem pe_snew : PE X (.Dict [] [] pos) (tSNew X) := ⟨fun pins s σ H Q I h =>
  have hf : s.heap.objs.size ≤ s.heap.objs.size := Nat.le_refl _
  wpAny_Dict_empty ⟨.ref s.heap.objs.size, _, I.laid (t' := s.toks) (o := SD X.prog X.w s.heap.objs.size []) (fun _ _ q => Heap.get?_push_of_some _ q) hf (sd_empty s.heap I.big), rfl, h _ (I.hok.fresh hf)⟩⟩
/-- the step y among the dict's keys -/
def SHas (X : Cx) (H : Hp) (x y : V) (r : Bool) : Prop := ∃ a ks b t, x = .ref a ∧ y = .ref b ∧ H a = some (SD X.prog X.w a ks) ∧ KsOk X.K H ks ∧ Dp X.K H (.ref b) (stD t) ∧ r = decide (t ∈ ks.map (·.1))
/-- None is not -/
def SNon (X : Cx) (H : Hp) (x y : V) : Prop := ∃ a ks, x = .ref a ∧ y = .non ∧ H a = some (SD X.prog X.w a ks) ∧ KsOk X.K H ks
def tSIn (X : Cx) (ty td : TE) : TE := fun σ H Q => ty σ H fun y H1 => td σ H1 fun x H2 => ∃ r, SHas X H2 x y r ∧ Q (.bl r) H2
def tSNot (X : Cx) (ty td : TE) : TE := fun σ H Q => ty σ H fun y H1 => td σ H1 fun x H2 => (∃ r, SHas X H2 x y r ∧ Q (.bl (!r)) H2) ∨ (SNon X H2 x y ∧ Q (.bl true) H2)
def sSPut (X : Cx) (td ty : TE) : TS := fun D σ H => td σ H fun x H2 => ty σ H2 fun y H3 => ∃ a ks b t, x = .ref a ∧ y = .ref b ∧ H3 a = some (SD X.prog X.w a ks) ∧ KsOk X.K H3 ks ∧ Dp X.K H3 (.ref b) (stD t) ∧ t ∉ ks.map (·.1) ∧ ks.length < sizeLine ∧
  D.nx σ (upd H3 a (SD X.prog X.w a (ks ++ [(t, b)])))
theorem pc_sin (hu : X.A.units + 9 < cLine) (hi : PE X i ty) (ho : PE X o td) : PC X .In i o (tSIn X ty td) := ⟨fun pins s σ H Q I h =>
  thn (hi.run pins s σ H _ I h) fun iv s1 ⟨y, H1, I1, ry, q1⟩ => thn (ho.run pins s1 σ H1 _ I1 q1) fun u s2 ⟨x, H2, I2, rx, r, g, q2⟩ => by
    obtain ⟨a, ks, b, t, rfl, rfl, e, k, d, rfl⟩ := g
    cases (show u = Value.ref a from rx)
    cases (show iv = Value.ref b from ry)
    exact sd_in hu I2 e k d fun s3 I3 => ⟨.bl _, H2, I3, rfl, q2⟩⟩
theorem pc_snot (hu : X.A.units + 9 < cLine) (hi : PE X i ty) (ho : PE X o td) : PC X .NotIn i o (tSNot X ty td) := ⟨fun pins s σ H Q I h =>
  thn (hi.run pins s σ H _ I h) fun iv s1 ⟨y, H1, I1, ry, q1⟩ => thn (ho.run pins s1 σ H1 _ I1 q1) fun u s2 ⟨x, H2, I2, rx, q2⟩ => by
    rcases q2 with ⟨r, ⟨a, ks, b, t, rfl, rfl, e, k, d, rfl⟩, q2⟩ | ⟨⟨a, ks, rfl, rfl, e, k⟩, q2⟩
    · cases (show u = Value.ref a from rx)
      cases (show iv = Value.ref b from ry)
      exact sd_notIn hu I2 e k d fun s3 I3 => ⟨.bl _, H2, I3, rfl, q2⟩
    · cases (show u = Value.ref a from rx)
      cases (show iv = Value.none from ry)
      obtain ⟨hs, _, o, es, ep, h1, h2, h3, _, h5⟩ := sd_ents I2 e k
      exact notIn_none hu hs h1 h2 h3 h5 ⟨.bl true, H2, I2.tok _, rfl, q2⟩⟩
theorem ps_sput (hu : X.A.units + 9 < cLine) (ho : PE X o td) (hi : PE X i ty) (hs : swapsWith (.Constant (.bool true) j tpos) (some (.Subscript o i pos')) pos.line X.env = pure false) :
    PS X (.Assign [.Subscript o i pos'] (.Constant (.bool true) j tpos) pos) (sSPut X td ty) := ⟨fun pins s σ H D I h =>
  wpAny_Assign_Subscript (Constant_bool (thn (ho.run pins s σ H _ I h) fun u s2 ⟨x, H2, I2, rx, q2⟩ => thn (hi.run pins s2 σ H2 _ I2 q2) fun iv s3 ⟨y, H3, I3, ry, g⟩ => by
    obtain ⟨a, ks, b, t, rfl, rfl, e, k, d, hn, hl, q⟩ := g
    cases (show u = Value.ref a from rx)
    cases (show iv = Value.ref b from ry)
    exact sd_set hu I3 e k d hn hl fun s4 I4 => ⟨σ, _, I4, q⟩)) hs⟩
/-- list(d): the steps in the order in which they came -/
theorem call_list_sd (hc : X.calm = true) : CallR X (.type "list") (fun xs H Q => ∃ d ks, xs = [V.ref d] ∧ H d = some (SD X.prog X.w d ks) ∧ KsOk X.K H ks ∧ ∀ p, H p = none → Q (.ref p) (upd H p (.lst (ks.map fun x => V.ref x.2)))) := by
  intro pins s σ H xs us Q I r h
  obtain ⟨d, ks, rfl, hd, hk, q⟩ := h
  obtain ⟨u, rfl, rx⟩ := r.one
  cases rx
  obtain ⟨hs, hz, o, es, ep, ho, hx, hdt, he, _⟩ := sd_ents I hd hk
  have l1 : es.size = ks.length := by rw [size_of_entries he, List.length_map]
  refine PySem.W.kdl_call (kdl_raw hs hx hdt) (I.ok.hd hc) ho (by omega) fun h' tk acc' c' kp e it => ?_
  have ea : acc'.toList = (ks.map fun x => x.2).map Value.ref := by
    apply List.ext_getElem?
    intro j
    rw [List.getElem?_map, List.getElem?_map]
    by_cases hj : j < ks.length
    · have hj2 : j < acc'.toList.length := by rw [Array.length_toList, it.1]; omega
      have ej := List.getElem?_eq_getElem hj2
      obtain ⟨en, hen, hv⟩ := it.2 j _ (by rw [← Array.getElem?_toList]; exact ej)
      have qe := entry_at he j
      rw [hen, List.getElem?_map, List.getElem?_eq_getElem hj] at qe
      have e2 : en = entryOfKey (nestedKind X.prog X.w) (sdEn ks[j]) := Option.some.inj qe
      rw [ej, List.getElem?_eq_getElem hj, hv, e2]
      rfl
    · rw [List.getElem?_eq_none (by rw [Array.length_toList, it.1]; omega), List.getElem?_eq_none (by omega)]
      rfl
  have rv : Vals ((ks.map fun x => x.2).map V.ref) acc'.toList := by
    rw [ea]
    exact vals_refs _
  have em : (ks.map fun x => x.2).map V.ref = ks.map fun x => V.ref x.2 := by
    rw [List.map_map]
    rfl
  rw [em] at rv
  have hf : s.heap.objs.size ≤ s.heap.objs.size := Nat.le_refl _
  exact ⟨.ref s.heap.objs.size, _, I.laid (t' := tk) (o := .lst (ks.map fun x => V.ref x.2)) kp hf ⟨by rw [List.length_map]; exact hz, acc'.toList, c', rv, by rw [Array.toArray_toList]; exact e⟩, rfl, q _ (I.hok.fresh hf)⟩
end
end AA

set_option Elab.async false
set_option linter.all false
set_option maxRecDepth 100000
set_option maxHeartbeats 4000000
/-! {step: True for .. in ..}: a comprehension that makes a dict of steps (by way of compLoop_anyD, as dc_core goes for dicts with plain keys). -/
namespace AA
open PySem PySem.Spec PyProof.Rows L2 Evl
section
variable {X : Cx} {pins : List (Addr × Obj)} {σ : L2.St} {H : Hp} {s : Shared}
theorem sd_dictSet {E : Value → Shared → Prop} {D b : Addr} {ks : List (St5 × Addr)} {t : St5} {Q : Unit → Shared → Prop} (hu : X.A.units + 8 < cLine) (I : Inv X pins σ H s) (e : H D = some (SD X.prog X.w D ks)) (k : KsOk X.K H ks) (d : Dp X.K H (.ref b) (stD t))
    (hn : t ∉ ks.map (·.1)) (hl : ks.length < sizeLine) (h : ∀ s', Inv X pins σ (upd H D (SD X.prog X.w D (ks ++ [(t, b)]))) s' → Q () s') : wpAny (model X.prog X.w) X.A (dictSet D (.ref b) (.bool true)) Q E s := by
  obtain ⟨z, hd, nd, dd⟩ := sd_of I e k
  refine wpAny_dictSet_heap (hsz := by rw [List.length_map]; exact z) (show X.A.units + 8 < cLine from hu) (sd_is (x := (t, b)) I d) dd fun h' dd' hs => h _ ?_
  rw [storedH_new (sd_none hn)] at dd'
  have e2 : ks.map sdEn ++ [(stK (t, b).1, b, Value.bool true)] = (ks ++ [(t, b)]).map sdEn := by rw [List.map_append]; rfl
  rw [e2] at dd'
  obtain ⟨q, es, ep, hq, h2⟩ := id dd'
  refine d_write I (by rw [e]; exact True.intro) hs ⟨q, hq⟩ (sd_ok (by rw [List.length_append]; exact hl) hd ?_ dd')
  rw [List.map_append, List.nodup_append]
  refine ⟨nd, by simp, fun x hx y hy => ?_⟩
  simp only [List.map_cons, List.map_nil, List.mem_singleton] at hy
  subst hy
  exact fun q => hn (q ▸ hx)
end
/-- the key y goes into the dict at D -/
def SNext (X : Cx) (H : Hp) (D : Addr) (y : V) (Nx : Hp → Prop) : Prop := ∃ ks b t, y = .ref b ∧ H D = some (SD X.prog X.w D ks) ∧ KsOk X.K H ks ∧ Dp X.K H (.ref b) (stD t) ∧ t ∉ ks.map (·.1) ∧ ks.length < sizeLine ∧ Nx (upd H D (SD X.prog X.w D (ks ++ [(t, b)])))
def tSc (X : Cx) (wi : TI) (g : TG) (tk : TE) (vs : List Nat) : TE := fun σ G Q => wi σ G fun J G1 => ∀ D, G1 D = none → ∃ W : Nat → Nat → Hp → Prop, (∃ m, W 0 m (upd G1 D (SD X.prog X.w D []))) ∧ ∀ i m G, W i m G →
  (J.stop i G ∧ Q (.ref D) G) ∨ (J.go i G ∧ ∃ Nx : Hp → Prop, (∀ G', Nx G' → ∃ m', m' < m ∧ W (i + 1) m' G') ∧ ∀ x G', J.yld i G x G' → g x (wipe σ vs) G' fun σ2 G2 => wipe σ2 vs = wipe σ vs ∧ tk σ2 G2 fun y G4 => SNext X G4 D y Nx)
section
variable {X : Cx}
theorem sc_core {pins : List (Addr × Obj)} {t0 : Shared} {σ : L2.St} {G : Hp} {Q : VK} {kx tg iter : Expr} {scope : Scope} {own : List (Str × Nat)} {j : Nat} {p0 p1 p2 : Pos} {wi : TI} {g : TG} {tk : TE} {use : Option (Value → Sem Unit)} {Qf : Value → Shared → Prop}
    (hu : X.A.units + 8 < cLine) (hc : X.calm = true) (hN : X.N.Nodup) (I0 : Inv X pins σ G t0) (hi : PI X tg iter wi) (ok : BlkOk X.N X.env.scope scope own)
    (hg : ∀ (t : Shared) (G : Hp) (C : Addr) (cl : List (Str × Addr)) (fp : List Addr), PG (X.blk t G scope (compEnvC scope cl C X.env) fp) tg g)
    (hk : ∀ (t : Shared) (G : Hp) (C : Addr) (cl : List (Str × Addr)) (fp : List Addr), PE (X.blk t G scope (compEnvC scope cl C X.env) fp) kx tk) (hs : ∀ x, foldedSetIterable iter X.env x = pure x)
    (h : tSc X wi g tk (own.map (·.2)) σ G Q)
    (back : ∀ D C s' m G', Inv X pins σ G' s' → Q (.ref D) G' → s'.heap.Ns C m → FpOk X pins G' C → compPost (model X.prog X.w) X.A X.xe use Qf (.ref D) C (.ok .next) s') :
    wpAny (model X.prog X.w) X.A (comprehension (.DictComp kx (.Constant (.bool true) j p2) [⟨tg, iter, [], 0⟩] scope p0) scope X.env p1 newDict false (eval iter X.env) use) Qf X.xe t0 := by
  have fr : ∀ y ∈ scope.names, y.2 = .free → ∃ c, X.env.cells.lookup y.1 = some c := fun y hy e => (ok.free y hy e).elim (fun k => I0.ok.has _ (.inl k)) (fun k => I0.ok.has _ (.inr k))
  refine wpAny_comprehension_free (use := use) rfl hs (closure_ok fr) ok.kind (fun y hy e => by rw [ok.uniq y hy, e]) (thn (hi.run pins t0 σ G _ I0 h) fun xv t1 hx => thn hx fun itv t2 got => ?_)
  obtain ⟨it, fp, tn, J, G2, rfl, I2, T, st2, f2, q⟩ := got
  refine wpAny_newObj_type (newEnv_comp ?_)
  generalize hD : t2.heap.objs.size = D
  have hDn : G2 D = none := I2.hok.fresh (Nat.le_of_eq hD)
  obtain ⟨W, ⟨m0, w0⟩, turn⟩ := q D hDn
  generalize ht3 : ({ t2 with heap := t2.heap.push { cls := .type "dict", data := .dict #[] } } : Shared) = t3
  have e3 : t3.heap = t2.heap.push { cls := .type "dict", data := .dict #[] } := by rw [← ht3]
  have I3 : Inv X pins σ (upd G2 D (SD X.prog X.w D [])) t3 := by
    rw [← ht3]
    refine I2.laid (t' := t2.toks) (fun b o e => Heap.get?_push_of_some _ e) (Nat.le_of_eq hD) ?_
    rw [← hD]
    exact sd_empty t2.heap I2.big
  have f3 : ∀ b ∈ fp, FpOk X pins (upd G2 D (SD X.prog X.w D [])) b ∧ b < t3.heap.objs.size := fun b hb => by
    obtain ⟨o, e, _⟩ := T.obj _ _ st2 b hb
    have hlt := Heap.lt_size e
    refine ⟨⟨?_, (f2 b hb).2⟩, by rw [e3, Heap.size_push]; exact Nat.lt_succ_of_lt hlt⟩
    rw [upd_ne (by rw [← hD]; exact Nat.ne_of_lt hlt)]
    exact (f2 b hb).1
  have st3 : tn 0 t3.heap := T.keep _ _ _ st2 fun b _ o e => by rw [e3]; exact Heap.get?_push_of_some _ e
  have I4 := block_start I3 ok hN f3
  have pg := hg t3 (upd G2 D (SD X.prog X.w D [])) t3.heap.objs.size (cellsFrom (t3.heap.objs.size + 1) scope.names (cloFrom X.env.cells scope.names [])) fp
  have pk := hk t3 (upd G2 D (SD X.prog X.w D [])) t3.heap.objs.size (cellsFrom (t3.heap.objs.size + 1) scope.names (cloFrom X.env.cells scope.names [])) fp
  show codeAny _ _ (.compStart (.DictComp kx (.Constant (.bool true) j p2) [⟨tg, iter, [], 0⟩] scope p0) 0 (.ref it) (.ref D) (compEnvC scope (cellsFrom (t3.heap.objs.size + 1) scope.names (cloFrom X.env.cells scope.names [])) t3.heap.objs.size X.env)) (compPost (model X.prog X.w) X.A X.xe use Qf (.ref D) t3.heap.objs.size) { t3 with heap := pushCells (t3.heap.push { cls := .type "dict", data := .dict #[] }) scope.names }
  have nfp : ∀ b ∈ fp, (upd G2 D (SD X.prog X.w D [])) b = none := fun b hb => (f3 b hb).1.1
  generalize hce : compEnvC scope (cellsFrom (t3.heap.objs.size + 1) scope.names (cloFrom X.env.cells scope.names [])) t3.heap.objs.size X.env = ce at I4 pg pk ⊢
  have cL : ce.locals = t3.heap.objs.size := by subst hce; rfl
  generalize hG3 : upd G2 D (SD X.prog X.w D []) = G3 at I3 I4 pg pk w0 nfp f3
  generalize ht4 : ({ t3 with heap := pushCells (t3.heap.push { cls := .type "dict", data := .dict #[] }) scope.names } : Shared) = t4 at I4 ⊢
  have st4 : tn 0 t4.heap := T.keep _ _ _ st3 fun b _ o e => by rw [← ht4]; exact pushCells_keeps _ _ _ _ (Heap.get?_push_of_some _ e)
  have stat : ∀ {σ' : L2.St} {G' : Hp} {s' : Shared}, Inv (X.blk t3 G3 scope ce fp) [] σ' G' s' → (∀ b ∈ fp, G' b = none) → ∀ b ∈ fp, FpOk (X.blk t3 G3 scope ce fp) [] G' b := fun {σ' G' s'} I' hn b hb =>
    ⟨hn b hb, (I'.ok.exf b hb).1, I'.ok.exfs b hb, .inl hb, fun x c e => (I'.ok.exf b hb).2 x c e, fun p hp => absurd (show p ∈ ([] : List (Addr × Obj)) ++ [] from hp) (by simp)⟩
  have loop : codeAny (model X.prog X.w) X.A (.compLoop (.DictComp kx (.Constant (.bool true) j p2) [⟨tg, iter, [], 0⟩] scope p0) 0 (.ref it) (.ref D) ce) (compPost (model X.prog X.w) X.A X.xe use Qf (.ref D) t3.heap.objs.size) t4 := by
    refine compLoop_anyD (fun n s' => ∃ i G', Inv (X.blk t3 G3 scope ce fp) [] (wipe σ (own.map (·.2))) G' s' ∧ tn i s'.heap ∧ (∀ b ∈ fp, G' b = none) ∧ W i n G') ?_ m0 ⟨0, G3, I4, st4, nfp, w0⟩
    rintro n t5 ⟨i, G5, I5, st5, n5, w5⟩
    rcases turn i n G5 w5 with ⟨stop, qq⟩ | ⟨go, Nx, hNx, step⟩
    · have td := T.done (X.blk t3 G3 scope ce fp) rfl rfl rfl hc i [] t5 _ G5 (fun _ _ => False) I5 (stat I5 n5) st5 stop
      refine thnF td fun r t6 ⟨hr, I6⟩ => ?_
      subst hr
      have I7 : Inv X pins σ G5 t6 := I3.call' (ch := fp) I6.os I6.base I6.hok I6.bare fun b hb => ⟨(f3 b hb).1.2.2.2.1, (f3 b hb).1.2.1, (f3 b hb).1.2.2.2.2.1, (f3 b hb).1.2.2.2.2.2⟩
      have nC : G5 t3.heap.objs.size = none := by
        have z : G5 ce.locals = none := I6.free
        rw [cL] at z
        exact z
      obtain ⟨m, hn, _⟩ := I6.loc
      have hn : t6.heap.Ns ce.locals m := hn
      rw [cL] at hn
      exact back D t3.heap.objs.size t6 m G5 I7 qq hn (I3.fpOk (Nat.le_refl _) nC)
    · have ti := T.item (X.blk t3 G3 scope ce fp) rfl rfl rfl hc i [] t5 _ G5 (fun _ _ => False) I5 (stat I5 n5) st5 go
      refine thnF ti fun r t6 ⟨u, hr, h6⟩ => ?_
      subst hr
      refine thnF h6 fun _ t7 ⟨x, G7, I7, r7, y7, st7, n7⟩ => ?_
      have I7' := I7.pinned (stat I7 n7) (T.obj _ _ st7)
      refine thnF (pg.run _ t7 _ G7 x u _ I7' r7 (step x G7 y7)) fun _ t8 ⟨σ8, G8, I8, hw8, q8⟩ => ?_
      refine wpAny_pure ?_
      simp only [if_true]
      refine thnF (pk.run _ t8 σ8 G8 _ I8 q8) fun z t9 ⟨yk, G9, I9, r9, ks, b, t, ek, hD9, hk9, hd9, hn9, hl9, nx⟩ => ?_
      subst ek
      cases (show z = Value.ref b from r9)
      refine Constant_bool ?_
      refine sd_dictSet (X := X.blk t3 G3 scope ce fp) hu I9 hD9 hk9 hd9 hn9 hl9 fun s' I' => ?_
      obtain ⟨m', hm, w'⟩ := hNx _ nx
      have pin' : ∀ b ∈ fp, ∀ o, t7.heap.get? b = some o → s'.heap.get? b = some o ∧ _ = none := fun b hb o e =>
        let z := I'.pin (b, o) (List.mem_append_right _ (List.mem_append_right _ (mem_pinsAt hb e)))
        ⟨z.1, z.2.1⟩
      have hl : (wipe σ (own.map (·.2))).length = σ8.length := by rw [← hw8, wipe_length]
      refine ⟨m', hm, i + 1, _, (I'.unpinned (pins := [])).weak hl (fun j v e => ?_), T.keep _ _ _ st7 fun b hb o e => (pin' b hb o e).1, fun b hb => ?_, w'⟩
      · rw [← hw8] at e
        exact (wipe_some e).1
      · obtain ⟨o, e, _⟩ := T.obj _ _ st7 b hb
        exact (pin' b hb o e).2
  exact codeAny_compStart_dict loop (T.self X.A 0 _ _ _ st4 loop)
theorem pe_sc {kx tg iter : Expr} {scope : Scope} {own : List (Str × Nat)} {j : Nat} {p0 p2 : Pos} {wi : TI} {g : TG} {tk : TE} (hu : X.A.units + 8 < cLine) (hc : X.calm = true) (hN : X.N.Nodup) (hi : PI X tg iter wi) (ok : BlkOk X.N X.env.scope scope own)
    (hg : ∀ (t : Shared) (G : Hp) (C : Addr) (cl : List (Str × Addr)) (fp : List Addr), PG (X.blk t G scope (compEnvC scope cl C X.env) fp) tg g)
    (hk : ∀ (t : Shared) (G : Hp) (C : Addr) (cl : List (Str × Addr)) (fp : List Addr), PE (X.blk t G scope (compEnvC scope cl C X.env) fp) kx tk) (hs : ∀ x, foldedSetIterable iter X.env x = pure x := by intro _; rfl) :
    PE X (.DictComp kx (.Constant (.bool true) j p2) [⟨tg, iter, [], 0⟩] scope p0) (tSc X wi g tk (own.map (·.2))) := ⟨fun pins t0 σ G Q I0 h => by
  rw [arm_eval_DictComp]
  refine sc_core hu hc hN I0 hi ok hg hk hs h fun D C s' m G' I' q hn f => ⟨m, hn, fun h'' sb => ?_⟩
  obtain ⟨f0, f1, f2, f3, f4, f5⟩ := f
  exact ⟨.ref D, G', I'.turned (t' := s'.toks) (fun b o hb e => (sb.2 b hb).trans e) f0 f1 f3 f4 f5, rfl, q⟩⟩
/-- over a list that stays -/
theorem sc_list {K : PySem.W.Frag} {a : Addr} {xs : List V} {g : TG} {tk : TE} {vs : List Nat} {σ : L2.St} {G1 : Hp} {D : Addr} {Qd : Hp → Prop} (Pv : Nat → Hp → Prop) (h0 : Pv 0 (upd G1 D (SD X.prog X.w D []))) (hl : ∀ i G, i ≤ xs.length → Pv i G → SqL K G a xs)
    (hs : ∀ i x G, xs[i]? = some x → Pv i G → g x (wipe σ vs) G fun σ2 G2 => wipe σ2 vs = wipe σ vs ∧ tk σ2 G2 fun y G4 => SNext X G4 D y (Pv (i + 1))) (hd : ∀ G, Pv xs.length G → Qd G) :
    ∃ W : Nat → Nat → Hp → Prop, (∃ m, W 0 m (upd G1 D (SD X.prog X.w D []))) ∧ ∀ i m G, W i m G →
      ((Itl K a).stop i G ∧ Qd G) ∨ ((Itl K a).go i G ∧ ∃ Nx : Hp → Prop, (∀ G', Nx G' → ∃ m', m' < m ∧ W (i + 1) m' G') ∧ ∀ x G', (Itl K a).yld i G x G' → g x (wipe σ vs) G' fun σ2 G2 => wipe σ2 vs = wipe σ vs ∧ tk σ2 G2 fun y G4 => SNext X G4 D y Nx) := by
  refine ⟨fun i m G => m = xs.length - i ∧ i ≤ xs.length ∧ Pv i G, ⟨xs.length, by simp, Nat.zero_le _, h0⟩, fun i m G w => ?_⟩
  obtain ⟨rfl, hi, p⟩ := w
  have q := hl i G hi p
  by_cases hlt : i < xs.length
  · refine .inr ⟨⟨xs, xs[i], q, by simp [hlt]⟩, Pv (i + 1), fun G' p' => ⟨xs.length - (i + 1), by omega, rfl, hlt, p'⟩, fun x G' y => ?_⟩
    obtain ⟨rfl, y⟩ := y
    exact hs i x _ (y xs q) p
  · obtain rfl : i = xs.length := by omega
    exact .inl ⟨⟨xs, q, Nat.le_refl _⟩, hd G p⟩
end
end AA

set_option Elab.async false
set_option linter.all false
set_option maxRecDepth 100000
set_option maxHeartbeats 4000000
/-! The program's checks: is_integer, is_list, is_integers. -/
namespace AA
open PySem PySem.Spec PyProof.Rows L2 Evl
/-! ### the heap without tables of code objects: they alone grow -/
def nt (H : Hp) : Hp := fun x => match H x with
  | some (.tbl _) => none
  | o => o
theorem nt_some {H : Hp} {x : Addr} {o : HO} (h : nt H x = some o) : H x = some o ∧ ∀ ps, o ≠ .tbl ps := by
  unfold nt at h
  split at h
  · cases h
  · rename_i hn
    exact ⟨h, fun ps e => hn ps (by rw [h, e])⟩
theorem nt_of {H : Hp} {x : Addr} {o : HO} (h : H x = some o) (n : ∀ ps, o ≠ .tbl ps) : nt H x = some o := by
  unfold nt
  split
  · rename_i ps hp
    rw [h] at hp
    exact absurd (Option.some.inj hp) (n ps)
  · exact h
theorem nt_le {H : Hp} : Ex (nt H) H := fun x o h => (nt_some h).1
theorem nt_mono {H H' : Hp} (e : Ex H H') : Ex (nt H) (nt H') := fun x o h => nt_of (e _ _ (nt_some h).1) (nt_some h).2
theorem nt_idem {H : Hp} : Ex (nt H) (nt (nt H)) := fun x o h => nt_of h (nt_some h).2
theorem sql_nt {K : PySem.W.Frag} {H : Hp} {a : Addr} {xs : List V} (h : SqL K H a xs) : SqL K (nt H) a xs := by
  rcases h with h | h
  · refine .inl ?_
    rcases h with h | ⟨u, h⟩
    · exact .inl (nt_of h fun ps z => nomatch z)
    · exact .inr ⟨u, nt_of h fun ps z => nomatch z⟩
  · exact .inr h
theorem sqt_nt {K : PySem.W.Frag} {H : Hp} {a : Addr} {xs : List V} (h : SqT K H a xs) : SqT K (nt H) a xs := by
  rcases h with h | h
  · refine .inl ?_
    rcases h with h | ⟨u, h⟩
    · exact .inl (nt_of h fun ps z => nomatch z)
    · exact .inr ⟨u, nt_of h fun ps z => nomatch z⟩
  · exact .inr h
mutual
theorem dp_nt {K : PySem.W.Frag} {H : Hp} : ∀ (d : PyData) (v : V), Dp K H v d → Dp K (nt H) v d
  | .none, _, h => by
    cases h
    exact .non
  | .bool b, _, h => by
    cases h
    exact .bl _
  | .int i, _, h => by
    cases h
    exact .int _
  | .str x, _, h => by
    cases h
    exact .str _
  | .list ds, _, h => by
    cases h with
    | lst h1 h2 => exact .lst (sql_nt h1) (dpa_nt ds _ h2)
  | .tuple ds, _, h => by
    cases h with
    | tup h1 h2 => exact .tup (sqt_nt h1) (dpa_nt ds _ h2)
  | .dict _, _, h => by cases h
theorem dpa_nt {K : PySem.W.Frag} {H : Hp} : ∀ (ds : List PyData) (vs : List V), DpAll K H vs ds → DpAll K (nt H) vs ds
  | [], _, h => by
    cases h
    exact .nil
  | d :: ds, _, h => by
    cases h with
    | cons h1 h2 => exact .cons (dp_nt d _ h1) (dpa_nt ds _ h2)
end
/-- the name of the type of data -/
def tnD : PyData → String
  | .none => "NoneType"
  | .bool _ => "bool"
  | .int _ => "int"
  | .str _ => "str"
  | .list _ => "list"
  | .tuple _ => "tuple"
  | .dict _ => "dict"
def isIntD : PyData → Bool
  | .int _ => true
  | _ => false
def isListD : PyData → Bool
  | .list _ => true
  | .tuple _ => true
  | _ => false
def isIntsD (m : Int) : PyData → Bool
  | .list xs => decide ((xs.length : Int) = m) && xs.all isIntD
  | .tuple xs => decide ((xs.length : Int) = m) && xs.all isIntD
  | _ => false
theorem ty_dp {K : PySem.W.Frag} {H : Hp} {v : V} {d : PyData} (h : Dp K H v d) : TyF K H v (.type (tnD d)) := by
  cases h with
  | non => exact .inl (.base .non)
  | bl b => exact .inl (.base (.bl b))
  | int i => exact .inl (.base (.int i))
  | str x => exact .inl (.base (.str x))
  | lst h1 _ => exact .inl (ty_l h1)
  | tup h1 _ => exact .inl (ty_t h1)
def isBoolD : PyData → Bool
  | .bool _ => true
  | _ => false
theorem kd_int {K : PySem.W.Frag} (d : PyData) : PySem.W.kitOne K (.type (tnD d)) (.type "int") = some (isIntD d || isBoolD d) := by
  cases d with
  | none => exact kit_ty (show kitB "NoneType" "int" = some false by decide +kernel)
  | bool => exact kit_ty (show kitB "bool" "int" = some true by decide +kernel)
  | int => exact kit_ty (show kitB "int" "int" = some true by decide +kernel)
  | str => exact kit_ty (show kitB "str" "int" = some false by decide +kernel)
  | list => exact kit_ty (show kitB "list" "int" = some false by decide +kernel)
  | tuple => exact kit_ty (show kitB "tuple" "int" = some false by decide +kernel)
  | dict => exact kit_ty (show kitB "dict" "int" = some false by decide +kernel)
theorem kd_bool {K : PySem.W.Frag} (d : PyData) : PySem.W.kitOne K (.type (tnD d)) (.type "bool") = some (isBoolD d) := by
  cases d with
  | none => exact kit_ty (show kitB "NoneType" "bool" = some false by decide +kernel)
  | bool => exact kit_ty (show kitB "bool" "bool" = some true by decide +kernel)
  | int => exact kit_ty (show kitB "int" "bool" = some false by decide +kernel)
  | str => exact kit_ty (show kitB "str" "bool" = some false by decide +kernel)
  | list => exact kit_ty (show kitB "list" "bool" = some false by decide +kernel)
  | tuple => exact kit_ty (show kitB "tuple" "bool" = some false by decide +kernel)
  | dict => exact kit_ty (show kitB "dict" "bool" = some false by decide +kernel)
theorem kd_seq {K : PySem.W.Frag} (d : PyData) : PySem.W.kitAny K (.type (tnD d)) [.type "list", .type "tuple"] = some (isListD d) := by
  cases d with
  | list => exact seq_yes_l
  | tuple => exact seq_yes_t
  | none => exact kit_no2 (T := "NoneType") (by decide +kernel) (by decide +kernel)
  | bool => exact kit_no2 (T := "bool") (by decide +kernel) (by decide +kernel)
  | int => exact kit_no2 (T := "int") (by decide +kernel) (by decide +kernel)
  | str => exact kit_no2 (T := "str") (by decide +kernel) (by decide +kernel)
  | dict => exact kit_no2 (T := "dict") (by decide +kernel) (by decide +kernel)
section
variable {P : Program} {w : World} {K : PySem.W.Frag} {mg : Str → Option Value} {base : Heap}
def spIsInteger (K : PySem.W.Frag) : Sp := fun vs H Q _ => ∃ (v : V) (d : PyData), vs = [v] ∧ Dp K H v d ∧ Q (.bl (isIntD d)) H
theorem scIsInteger : FnScope ["thing"] ["thing"] (defScope sIsInteger) := ⟨rfl, rfl, rfl, by decide +kernel, rfl, by decide +kernel, by decide +kernel⟩
theorem ok_isInteger {f : Addr} {fd : FuncData} (F : L2.Fun K "is_integer" "is_integer" sIsInteger f fd) (T : Bn mg) : FnOk P w K mg base CX0 1 f fd ["thing"] (spIsInteger K) := by
  refine F.ok scIsInteger (fun vs H Q E h => ?_) (fun cdv A outer s H vs Q E hr h => ?_)
  · obtain ⟨v, d, rfl, _⟩ := h
    rfl
  · obtain ⟨v, d, rfl, hd, k⟩ := h
    refine ⟨_, pss_one (ps_ret (pe_and (pe_callB call_is1 (by rfl) T.isinstance boot_isinstance (pa_cons (pv 0) (pa_cons (pe_bltn (v := .ty "int") (by rfl) T.int boot_int rfl) pa_nil)))
      (pe_one (pe_not (pe_callB call_is1 (by rfl) T.isinstance boot_isinstance (pa_cons (pv 0) (pa_cons (pe_bltn (v := .ty "bool") (by rfl) T.bool boot_bool rfl) pa_nil))))))), ?_⟩
    refine ⟨_, rfl, v, _, _, .type "int", _, rfl, .ty _, ty_dp hd, kd_int d, _, rfl, ?_⟩
    by_cases hi : isIntD d = true
    · rw [hi] at k ⊢
      refine iteT ?_
      refine ⟨_, rfl, v, _, _, .type "bool", _, rfl, .ty _, ty_dp hd, kd_bool d, _, rfl, ?_⟩
      cases d <;> first | exact k | cases hi
    · have hf : isIntD d = false := by simpa using hi
      rw [hf] at k ⊢
      cases d with
      | bool b =>
        refine iteT ?_
        exact ⟨_, rfl, v, _, _, .type "bool", _, rfl, .ty _, ty_dp hd, kd_bool _, _, rfl, k⟩
      | int i => cases hf
      | _ => exact iteF k
/-- what a thing is asked by is_list, in this heap and later ones -/
def Lk (K : PySem.W.Frag) (H : Hp) (v : V) (b : Bool) : Prop := ∃ t : Value, (∀ H', Ex (nt H) H' → TyF K H' v t) ∧ PySem.W.kitAny K t [.type "list", .type "tuple"] = some b
theorem lk_dp {H : Hp} {v : V} {d : PyData} (h : Dp K H v d) : Lk K H v (isListD d) := ⟨_, fun H' e => ty_dp (dp_ex e d v (dp_nt d v h)), kd_seq d⟩
theorem Lk.ex {H H' : Hp} {v : V} {b : Bool} (h : Lk K H v b) (e : Ex H H') : Lk K H' v b := by
  obtain ⟨t, h1, h2⟩ := h
  exact ⟨t, fun H2 e2 => h1 H2 ((nt_mono e).trans e2), h2⟩
theorem Lk.nt {H : Hp} {v : V} {b : Bool} (h : Lk K H v b) : Lk K (AA.nt H) v b := by
  obtain ⟨t, h1, h2⟩ := h
  exact ⟨t, fun H2 e2 => h1 H2 (nt_idem.trans e2), h2⟩
def spIsList (K : PySem.W.Frag) : Sp := fun vs H Q _ => ∃ (v : V) (b : Bool), vs = [v] ∧ Lk K H v b ∧ ∀ H', Ex H H' → Q (.bl b) H'
theorem scIsList : FnScope ["thing"] ["thing"] (defScope sIsList) := ⟨rfl, rfl, rfl, by decide +kernel, rfl, by decide +kernel, by decide +kernel⟩
theorem ok_isList {f : Addr} {fd : FuncData} (F : L2.Fun K "is_list" "is_list" sIsList f fd) (T : Bn mg) : FnOk P w K mg base CX0 1 f fd ["thing"] (spIsList K) := by
  refine F.ok scIsList (fun vs H Q E h => ?_) (fun cdv A outer s H vs Q E hr h => ?_)
  · obtain ⟨v, b, rfl, _⟩ := h
    rfl
  · obtain ⟨v, b, rfl, ⟨t, hty, hk⟩, k⟩ := h
    refine ⟨_, pss_one (ps_ret (pe_callB call_isN (by rfl) T.isinstance boot_isinstance (pa_cons (pv 0) (pa_cons (pe_tup (pa_cons (pe_bltn (v := .ty "list") (by rfl) T.list boot_list rfl) (pa_cons (pe_bltn (v := .ty "tuple") (by rfl) T.tuple boot_tuple rfl) pa_nil))) pa_nil)))), ?_⟩
    refine ⟨_, rfl, by show 2 ≤ sizeLine; decide, fun p hp => ?_⟩
    have e1 : Ex H (upd H p (.tup [.ty "list", .ty "tuple"])) := Ex.new hp
    exact ⟨v, p, _, t, [.type "list", .type "tuple"], b, rfl, upd_same, .cons (.ty _) (.cons (.ty _) .nil), hty _ (nt_le.trans e1), hk, k _ e1⟩
/-- a list or a tuple of data -/
theorem dp_seq {H : Hp} {v : V} {d : PyData} (h : Dp K H v d) (l : isListD d = true) : ∃ (a : Addr) (xs : List V) (ds : List PyData), v = .ref a ∧ DpAll K H xs ds ∧ ((d = .list ds ∧ SqL K H a xs) ∨ (d = .tuple ds ∧ SqT K H a xs)) := by
  cases h with
  | lst h1 h2 => exact ⟨_, _, _, rfl, h2, .inl ⟨rfl, h1⟩⟩
  | tup h1 h2 => exact ⟨_, _, _, rfl, h2, .inr ⟨rfl, h1⟩⟩
  | _ => cases l
def itemsD : PyData → List PyData
  | .list xs => xs
  | .tuple xs => xs
  | _ => []
end
end AA

set_option Elab.async false
set_option linter.all false
set_option maxRecDepth 100000
set_option maxHeartbeats 4000000
/-! read_step. -/
namespace AA
open PySem PySem.Spec PyProof.Rows L2 Evl
/-- the step that a thing is, between n places -/
def rdStep (n : Int) (d : PyData) : Option St5 :=
  match itemsD d with
  | [.int a, .int b, c, .int e, .int f] =>
    match itemsD c with
    | [.int p, .int q] => if 0 ≤ a ∧ a < n ∧ 0 ≤ b ∧ b < n ∧ 1 ≤ e then some ⟨a, b, p, q, e, f⟩ else none
    | _ => none
  | _ => none
theorem int_of {d : PyData} (h : isIntD d = true) : ∃ i, d = .int i := by
  cases d with
  | int i => exact ⟨i, rfl⟩
  | _ => cases h
theorem ints_of {m : Int} {d : PyData} (h : isIntsD m d = true) : ((itemsD d).length : Int) = m ∧ (itemsD d).all isIntD = true ∧ isListD d = true := by
  cases d with
  | list xs =>
    have h' : (decide ((xs.length : Int) = m) && xs.all isIntD) = true := h
    rw [Bool.and_eq_true] at h'
    exact ⟨of_decide_eq_true h'.1, h'.2, rfl⟩
  | tuple xs =>
    have h' : (decide ((xs.length : Int) = m) && xs.all isIntD) = true := h
    rw [Bool.and_eq_true] at h'
    exact ⟨of_decide_eq_true h'.1, h'.2, rfl⟩
  | _ => cases h
theorem rd_len {n : Int} {d : PyData} {s : St5} (h : rdStep n d = some s) : (itemsD d).length = 5 := by
  unfold rdStep at h
  split at h
  · rename_i e
    rw [e]
    rfl
  · cases h
theorem rd_list {n : Int} {d : PyData} {s : St5} (h : rdStep n d = some s) : isListD d = true := by
  have := rd_len h
  cases d with
  | list => rfl
  | tuple => rfl
  | _ => cases this
theorem rd_ints {n : Int} {d d0 d1 d2 d3 d4 : PyData} {s : St5} (hd : itemsD d = [d0, d1, d2, d3, d4]) (h : rdStep n d = some s) : isIntsD 4 (.list [d0, d1, d3, d4]) = true ∧ isIntsD 2 d2 = true := by
  unfold rdStep at h
  rw [hd] at h
  split at h
  · rename_i a b c e f q
    cases q
    split at h
    · rename_i p q e2
      refine ⟨rfl, ?_⟩
      cases d2 with
      | list xs =>
        obtain rfl : xs = [.int p, .int q] := e2
        rfl
      | tuple xs =>
        obtain rfl : xs = [.int p, .int q] := e2
        rfl
      | _ => cases e2
    · cases h
  · cases h
theorem rd_at {n a b e f p q : Int} {d c : PyData} (hd : itemsD d = [.int a, .int b, c, .int e, .int f]) (hc : itemsD c = [.int p, .int q]) :
    rdStep n d = if 0 ≤ a ∧ a < n ∧ 0 ≤ b ∧ b < n ∧ 1 ≤ e then some ⟨a, b, p, q, e, f⟩ else none := by
  unfold rdStep
  rw [hd]
  show (match itemsD c with | [.int p, .int q] => if 0 ≤ a ∧ a < n ∧ 0 ≤ b ∧ b < n ∧ 1 ≤ e then some (⟨a, b, p, q, e, f⟩ : St5) else none | _ => none) = _
  rw [hc]
theorem four_of {d0 d1 d3 d4 : PyData} (h : isIntsD 4 (.list [d0, d1, d3, d4]) = true) : ∃ a b e f, d0 = .int a ∧ d1 = .int b ∧ d3 = .int e ∧ d4 = .int f := by
  have := (ints_of h).2.1
  have h2 : (isIntD d0 && (isIntD d1 && (isIntD d3 && (isIntD d4 && true)))) = true := this
  simp only [Bool.and_eq_true] at h2
  obtain ⟨a, rfl⟩ := int_of h2.1
  obtain ⟨b, rfl⟩ := int_of h2.2.1
  obtain ⟨e, rfl⟩ := int_of h2.2.2.1
  obtain ⟨f, rfl⟩ := int_of h2.2.2.2.1
  exact ⟨a, b, e, f, rfl, rfl, rfl, rfl⟩
theorem two_of {d : PyData} (h : isIntsD 2 d = true) : ∃ p q, itemsD d = [.int p, .int q] := by
  obtain ⟨h1, h2, _⟩ := ints_of h
  generalize itemsD d = l at h1 h2
  match l, h1, h2 with
  | [x, y], _, h2 =>
    have h3 : (isIntD x && (isIntD y && true)) = true := h2
    simp only [Bool.and_eq_true] at h3
    obtain ⟨p, rfl⟩ := int_of h3.1
    obtain ⟨q, rfl⟩ := int_of h3.2.1
    exact ⟨p, q, rfl⟩
  | [], h1, _ => cases h1
  | [x], h1, _ => cases h1
  | x :: y :: z :: r, h1, _ =>
    simp only [List.length_cons] at h1
    omega
/-- what read_step answers -/
def RdR (K : PySem.W.Frag) (H : Hp) (r : V) : Option St5 → Prop
  | none => r = .non
  | some s => Dp K H r (stD s)
theorem pg_or {X : Cx} {tg : Expr} {g1 g2 : TG} (h1 : PG X tg g1) (h2 : PG X tg g2) : PG X tg (fun v σ H Q => g1 v σ H Q ∨ g2 v σ H Q) :=
  ⟨fun pins s σ H v u Q I r hw => hw.elim (h1.run pins s σ H v u Q I r) (h2.run pins s σ H v u Q I r)⟩
theorem gun_or {K : PySem.W.Frag} {n : Nat} {t : TGs} {v : V} {σ : L2.St} {H : Hp} {Q : L2.St → Hp → Prop} {a : Addr} {xs : List V} (e : v = .ref a) (h : SqL K H a xs ∨ SqT K H a xs) (hn : xs.length = n) (ht : t xs σ H Q) : gUnl K n t v σ H Q ∨ gTup K n t v σ H Q :=
  h.imp (fun h => ⟨a, xs, e, h, hn, ht⟩) (fun h => ⟨a, xs, e, h, hn, ht⟩)
theorem five_of {α : Type} {xs : List α} (h : xs.length = 5) : ∃ a b c d e, xs = [a, b, c, d, e] := by
  match xs, h with
  | [a, b, c, d, e], _ => exact ⟨a, b, c, d, e, rfl⟩
theorem dpa_five {K : PySem.W.Frag} {H : Hp} {x0 x1 x2 x3 x4 : V} {ds : List PyData} (h : DpAll K H [x0, x1, x2, x3, x4] ds) :
    ∃ d0 d1 d2 d3 d4, ds = [d0, d1, d2, d3, d4] ∧ Dp K H x0 d0 ∧ Dp K H x1 d1 ∧ Dp K H x2 d2 ∧ Dp K H x3 d3 ∧ Dp K H x4 d4 := by
  cases h with
  | cons h0 h =>
    cases h with
    | cons h1 h =>
      cases h with
      | cons h2 h =>
        cases h with
        | cons h3 h =>
          cases h with
          | cons h4 h =>
            cases h
            exact ⟨_, _, _, _, _, rfl, h0, h1, h2, h3, h4⟩
section
variable {P : Program} {w : World} {K : PySem.W.Frag} {mg : Str → Option Value} {base : Heap}
/-- a list or a tuple stands there -/
def SqA (K : PySem.W.Frag) (H : Hp) (a : Addr) (xs : List V) : Prop := SqL K H a xs ∨ SqT K H a xs
theorem SqA.ex {H H' : Hp} {a : Addr} {xs : List V} (h : SqA K H a xs) (e : Ex H H') : SqA K H' a xs := h.imp (fun h => ex_l e h) (fun h => ex_t e h)
theorem SqA.nt {H : Hp} {a : Addr} {xs : List V} (h : SqA K H a xs) : SqA K (AA.nt H) a xs := h.imp sql_nt sqt_nt
theorem lk_sq {H : Hp} {a : Addr} {xs : List V} (h : SqA K H a xs) : Lk K H (.ref a) true := h.elim (fun h => ⟨_, fun H' e => .inl (ty_l (ex_l e (sql_nt h))), seq_yes_l⟩) (fun h => ⟨_, fun H' e => .inl (ty_t (ex_t e (sqt_nt h))), seq_yes_t⟩)
/-- a thing that is no integer, in this heap and later ones -/
def NotI (K : PySem.W.Frag) (H : Hp) (v : V) : Prop := ∃ (t : Value) (i b : Bool), (∀ H', Ex (nt H) H' → TyF K H' v t) ∧ PySem.W.kitOne K t (.type "int") = some i ∧ PySem.W.kitOne K t (.type "bool") = some b ∧ (i && !b) = false
theorem NotI.ex {H H' : Hp} {v : V} (h : NotI K H v) (e : Ex H H') : NotI K H' v := by
  obtain ⟨t, i, b, h1, h2⟩ := h
  exact ⟨t, i, b, fun H2 e2 => h1 H2 ((nt_mono e).trans e2), h2⟩
theorem NotI.nt {H : Hp} {v : V} (h : NotI K H v) : NotI K (AA.nt H) v := by
  obtain ⟨t, i, b, h1, h2⟩ := h
  exact ⟨t, i, b, fun H2 e2 => h1 H2 (nt_idem.trans e2), h2⟩
theorem ni_dp {H : Hp} {v : V} {d : PyData} (h : Dp K H v d) (hd : isIntD d = false) : NotI K H v := ⟨_, _, _, fun H' e => ty_dp (dp_ex e d v (dp_nt d v h)), kd_int d, kd_bool d, by cases d <;> first | rfl | cases hd⟩
theorem ni_fn {H : Hp} {f : Addr} {o : Obj} (h1 : K.lookup f = some o) (h2 : o.cls = .type "function") : NotI K H (.ref f) := ⟨.type "function", false, false, fun H' e => .inr ⟨f, o, rfl, h1, h2, rfl⟩, kit_ty (by decide +kernel), kit_ty (by decide +kernel), rfl⟩
theorem ni_dict {H : Hp} {p : Addr} (h : H p = some (.dK [])) : NotI K H (.ref p) := ⟨.type "dict", false, false, fun H' e => .inl (.base (.dK (e _ _ (nt_of h fun ps z => nomatch z)))), kit_ty (by decide +kernel), kit_ty (by decide +kernel), rfl⟩
theorem ni_sq {H : Hp} {a : Addr} {xs : List V} (h : SqA K H a xs) : NotI K H (.ref a) := h.elim (fun h => ⟨_, false, false, fun H' e => .inl (ty_l (ex_l e (sql_nt h))), kit_ty (by decide +kernel), kit_ty (by decide +kernel), rfl⟩) (fun h => ⟨_, false, false, fun H' e => .inl (ty_t (ex_t e (sqt_nt h))), kit_ty (by decide +kernel), kit_ty (by decide +kernel), rfl⟩)
theorem lk_fn {H : Hp} {f : Addr} {o : Obj} (h1 : K.lookup f = some o) (h2 : o.cls = .type "function") : Lk K H (.ref f) false := ⟨.type "function", fun H' e => .inr ⟨f, o, rfl, h1, h2, rfl⟩, kit_no2 (by decide +kernel) (by decide +kernel)⟩
theorem lk_dict {H : Hp} {p : Addr} (h : H p = some (.dK [])) : Lk K H (.ref p) false := ⟨.type "dict", fun H' e => .inl (.base (.dK (e _ _ (nt_of h fun ps z => nomatch z)))), kit_no2 (by decide +kernel) (by decide +kernel)⟩
/-- a thing that read_step tells to be none -/
def RdNo (K : PySem.W.Frag) (n : Int) (H : Hp) (v : V) : Prop :=
  Lk K H v false ∨ ∃ (a : Addr) (xs : List V), v = .ref a ∧ SqA K H a xs ∧ (xs.length ≠ 5 ∨ ∃ x0 x1 x2 x3 x4, xs = [x0, x1, x2, x3, x4] ∧
    (Lk K H x2 false ∨ ∃ (b : Addr) (ys : List V), x2 = .ref b ∧ SqA K H b ys ∧ (ys.length ≠ 2 ∨ ∃ y0 y1, ys = [y0, y1] ∧
      ((∃ (is : List Int) (z : V) (r : List V), [x0, x1, y0, y1, x3, x4] = is.map V.int ++ z :: r ∧ NotI K H z) ∨
        ∃ i0 i1 p q i3 i4 : Int, [x0, x1, y0, y1, x3, x4] = [V.int i0, V.int i1, V.int p, V.int q, V.int i3, V.int i4] ∧ ¬ (0 ≤ i0 ∧ i0 < n ∧ 0 ≤ i1 ∧ i1 < n ∧ 1 ≤ i3)))))
theorem RdNo.ex {n : Int} {H H' : Hp} {v : V} (h : RdNo K n H v) (e : Ex H H') : RdNo K n H' v := by
  rcases h with h | ⟨a, xs, h1, h2, h⟩
  · exact .inl (h.ex e)
  · refine .inr ⟨a, xs, h1, h2.ex e, h.imp id ?_⟩
    rintro ⟨x0, x1, x2, x3, x4, h3, h⟩
    refine ⟨x0, x1, x2, x3, x4, h3, h.imp (fun z => z.ex e) ?_⟩
    rintro ⟨b, ys, h4, h5, h⟩
    refine ⟨b, ys, h4, h5.ex e, h.imp id ?_⟩
    rintro ⟨y0, y1, h6, h⟩
    refine ⟨y0, y1, h6, h.imp ?_ id⟩
    rintro ⟨is, z, r, h7, h8⟩
    exact ⟨is, z, r, h7, h8.ex e⟩
theorem RdNo.nt {n : Int} {H : Hp} {v : V} (h : RdNo K n H v) : RdNo K n (AA.nt H) v := by
  rcases h with h | ⟨a, xs, h1, h2, h⟩
  · exact .inl h.nt
  · refine .inr ⟨a, xs, h1, h2.nt, h.imp id ?_⟩
    rintro ⟨x0, x1, x2, x3, x4, h3, h⟩
    refine ⟨x0, x1, x2, x3, x4, h3, h.imp (fun z => z.nt) ?_⟩
    rintro ⟨b, ys, h4, h5, h⟩
    refine ⟨b, ys, h4, h5.nt, h.imp id ?_⟩
    rintro ⟨y0, y1, h6, h⟩
    refine ⟨y0, y1, h6, h.imp ?_ id⟩
    rintro ⟨is, z, r, h7, h8⟩
    exact ⟨is, z, r, h7, h8.nt⟩
def spReadStep (K : PySem.W.Frag) : Sp := fun vs H Q _ => ∃ (n : Int) (v : V), vs = [.int n, v] ∧ ((RdNo K n H v ∧ ∀ H', Ex H H' → Q .non H') ∨ ∃ d, Dp K H v d ∧ ∀ H' r, Ex H H' → RdR K H' r (rdStep n d) → Q r H')
theorem scReadStep : FnScope ["places", "thing", "one", "other", "amounts", "ticks", "change", "number"] ["places", "thing"] (defScope sReadStep) := ⟨rfl, rfl, rfl, by decide +kernel, rfl, by decide +kernel, by decide +kernel⟩
theorem rd_six {n : Int} {d d0 d1 d2 d3 d4 : PyData} {s : St5} (hd : itemsD d = [d0, d1, d2, d3, d4]) (h : rdStep n d = some s) : isListD d2 = true ∧ ∃ e0 e1, itemsD d2 = [e0, e1] ∧ ∀ z ∈ [d0, d1, e0, e1, d3, d4], isIntD z = true := by
  obtain ⟨h4, h2⟩ := rd_ints hd h
  obtain ⟨a, b, e, f, rfl, rfl, rfl, rfl⟩ := four_of h4
  obtain ⟨p, q, hc⟩ := two_of h2
  refine ⟨(ints_of h2).2.2, _, _, hc, fun z hz => ?_⟩
  simp only [List.mem_cons, List.not_mem_nil, or_false] at hz
  rcases hz with rfl | rfl | rfl | rfl | rfl | rfl <;> rfl
theorem two_ofl {α : Type} {xs : List α} (h : xs.length = 2) : ∃ a b, xs = [a, b] := by
  match xs, h with
  | [a, b], _ => exact ⟨a, b, rfl⟩
theorem dpa_two {K : PySem.W.Frag} {H : Hp} {x0 x1 : V} {ds : List PyData} (h : DpAll K H [x0, x1] ds) : ∃ d0 d1, ds = [d0, d1] ∧ Dp K H x0 d0 ∧ Dp K H x1 d1 := by
  cases h with
  | cons h0 h =>
    cases h with
    | cons h1 h =>
      cases h
      exact ⟨_, _, rfl, h0, h1⟩
theorem ix_at {K : PySem.W.Frag} {G : Hp} {b : Addr} {ys : List V} {j : Nat} {y : V} {Q : V → Hp → Prop} (h : SqL K G b ys ∨ SqT K G b ys) (e : ys[j]? = some y) (k : Q y G) : rIx K (.ref b) (.int (j : Nat)) G Q :=
  h.elim (fun h => .inl ⟨b, ys, _, y, rfl, rfl, h, atI_nat e, k⟩) (fun h => .inr (.inl ⟨b, ys, _, y, rfl, rfl, h, atI_nat e, k⟩))
theorem ok_readStep {f : Addr} {fd : FuncData} (F : L2.Fun K "read_step" "read_step" sReadStep f fd) (T : Bn mg) (cL : C8.Cal P w K mg base 1 "is_list" (spIsList K) []) :
    FnOk P w K mg base CX0 3 f fd ["places", "thing"] (spReadStep K) := by
  refine F.ok scReadStep (fun vs H Q E h => ?_) (fun cdv A outer s H vs Q E hr h => ?_)
  · obtain ⟨n, v, rfl, _⟩ := h
    rfl
  · obtain ⟨n, v, rfl, h⟩ := h
    refine ⟨_, pss_cons (ps_if (PW.pt (pw_or (pt_not (pt_val (C8.pe_c cL hr (by decide) (by rfl) (pa_cons (pv 1) pa_nil)))) (pw_or1 (pt_cmpR op_ne (pe_callB call_len_seq (by rfl) T.len PySem.boot_len (pa_cons (pv 1) pa_nil)) pe_int (nomark _)))))
        (pss_one (ps_ret pe_non)) pss_nil)
      (pss_cons (ps_asg (pv 1) (pg_or (pg_unl (n := 5) rfl (pgs_cons (pg_name (i := 2) scReadStep.nd rfl (Or.inl rfl)) (pgs_cons (pg_name (i := 3) scReadStep.nd rfl (Or.inl rfl)) (pgs_cons (pg_name (i := 4) scReadStep.nd rfl (Or.inl rfl)) (pgs_cons (pg_name (i := 5) scReadStep.nd rfl (Or.inl rfl)) (pgs_cons (pg_name (i := 6) scReadStep.nd rfl (Or.inl rfl)) pgs_nil))))))
          (pg_tup (n := 5) rfl (pgs_cons (pg_name (i := 2) scReadStep.nd rfl (Or.inl rfl)) (pgs_cons (pg_name (i := 3) scReadStep.nd rfl (Or.inl rfl)) (pgs_cons (pg_name (i := 4) scReadStep.nd rfl (Or.inl rfl)) (pgs_cons (pg_name (i := 5) scReadStep.nd rfl (Or.inl rfl)) (pgs_cons (pg_name (i := 6) scReadStep.nd rfl (Or.inl rfl)) pgs_nil))))))))
      (pss_cons (ps_if (PW.pt (pw_or (pt_not (pt_val (C8.pe_c cL hr (by decide) (by rfl) (pa_cons (pv 4) pa_nil)))) (pw_or1 (pt_cmpR op_ne (pe_callB call_len_seq (by rfl) T.len PySem.boot_len (pa_cons (pv 4) pa_nil)) pe_int (nomark _)))))
        (pss_one (ps_ret pe_non)) pss_nil)
      (pss_cons (ps_for PassesOwn.never rfl (pi_tup (pe_tup (pa_cons (pv 2) (pa_cons (pv 3) (pa_cons (pe_ix ix_seq (pv 4) pe_int (fun _ _ => rfl)) (pa_cons (pe_ix ix_seq (pv 4) pe_int (fun _ _ => rfl)) (pa_cons (pv 5) (pa_cons (pv 6) pa_nil)))))))) (pg_name (i := 7) scReadStep.nd rfl (Or.inl rfl))
        (pss_one (ps_if (PW.pt (pw_or (pt_not (pt_val (pe_callB call_is1 (by rfl) T.isinstance boot_isinstance (pa_cons (pv 7) (pa_cons (pe_bltn (v := .ty "int") (by rfl) T.int boot_int rfl) pa_nil)))))
            (pw_or1 (pt_val (pe_callB call_is1 (by rfl) T.isinstance boot_isinstance (pa_cons (pv 7) (pa_cons (pe_bltn (v := .ty "bool") (by rfl) T.bool boot_bool rfl) pa_nil)))))))
          (pss_one (ps_ret pe_non)) pss_nil)))
      (pss_cons (ps_if (PW.pt (pw_or (pt_cmpR op_lt (pv 2) pe_int (nomark _)) (pw_or (pt_cmpR op_ge (pv 2) (pv 0) (nomark _)) (pw_or (pt_cmpR op_lt (pv 3) pe_int (nomark _)) (pw_or (pt_cmpR op_ge (pv 3) (pv 0) (nomark _)) (pw_or1 (pt_cmpR op_lt (pv 5) pe_int (nomark _))))))))
        (pss_one (ps_ret pe_non)) pss_nil)
      (pss_one (ps_ret (pe_tup (pa_cons (pv 2) (pa_cons (pv 3) (pa_cons (pe_callTy call_tuple_of (by rfl) T.tuple boot_tuple (pa_cons (pv 4) pa_nil)) (pa_cons (pv 5) (pa_cons (pv 6) pa_nil)))))))))))), ?_⟩
    rcases h with ⟨hno, k⟩ | ⟨d, hd, k⟩
    · rcases hno with hl | ⟨a, xs, rfl, hs, hno⟩
      · exact ⟨_, rfl, v, _, rfl, hl, fun H1 e1 => ⟨_, rfl, iteT (iteT (k _ e1))⟩⟩
      refine ⟨_, rfl, .ref a, _, rfl, lk_sq hs, fun H1 e1 => ⟨_, rfl, iteF ?_⟩⟩
      have hs1 := hs.ex e1
      refine ⟨_, rfl, a, xs, rfl, hs1, rfl, _, rfl, ?_⟩
      rcases hno with h5 | ⟨x0, x1, x2, x3, x4, rfl, hno⟩
      · rw [decide_eq_false (fun z => h5 (by have := V.int.inj z; omega))]
        exact iteT (k _ e1)
      rw [decide_eq_true (show V.int (([x0, x1, x2, x3, x4] : List V).length : Int) = V.int 5 from rfl)]
      refine iteF ?_
      refine ⟨_, rfl, gun_or rfl hs1 rfl ⟨x0, _, rfl, x1, _, rfl, x2, _, rfl, x3, _, rfl, x4, _, rfl, rfl, ?_⟩⟩
      rcases hno with hl2 | ⟨b, ys, rfl, hs2, hno⟩
      · exact ⟨_, rfl, x2, _, rfl, hl2.ex e1, fun G2 e2 => ⟨_, rfl, iteT (iteT (k _ (e1.trans e2)))⟩⟩
      refine ⟨_, rfl, .ref b, _, rfl, lk_sq (hs2.ex e1), fun G2 eG2 => ⟨_, rfl, iteF ?_⟩⟩
      have e2 := e1.trans eG2
      have hs2' : SqL K G2 b ys ∨ SqT K G2 b ys := hs2.ex e2
      refine ⟨_, rfl, b, ys, rfl, hs2', rfl, _, rfl, ?_⟩
      rcases hno with h2 | ⟨y0, y1, rfl, hno⟩
      · rw [decide_eq_false (fun z => h2 (by have := V.int.inj z; omega))]
        exact iteT (k _ e2)
      rw [decide_eq_true (show V.int (([y0, y1] : List V).length : Int) = V.int 2 from rfl)]
      refine iteF ?_
      refine ⟨_, rfl, _, rfl, _, rfl, ix_at (j := 0) hs2' rfl ?_⟩
      refine ⟨_, rfl, ix_at (j := 1) hs2' rfl ?_⟩
      refine ⟨_, rfl, _, rfl, by show 6 ≤ sizeLine; decide, fun L hL => ?_⟩
      have e3 := e2.trans (Ex.new (o := .tup [x0, x1, y0, y1, x3, x4]) hL)
      refine ⟨L, rfl, ⟨_, SqT.of upd_same⟩, ?_⟩
      rcases hno with ⟨is, z, r, hz, hni⟩ | ⟨i0, i1, p, q, i3, i4, hz, hno⟩
      · have hln : is.length + 1 + r.length = 6 := by
          have := congrArg List.length hz
          simp only [List.length_cons, List.length_nil, List.length_append, List.length_map] at this
          omega
        refine for_tup (K := K) (a := L) (xs := [x0, x1, y0, y1, x3, x4]) (fun i σ G => ∃ x7 : Option V, σ = [some (.int n), some (.ref a), some x0, some x1, some (.ref b), some x3, some x4, x7] ∧ G = upd G2 L (.tup [x0, x1, y0, y1, x3, x4]) ∧ i ≤ is.length)
          ⟨none, rfl, rfl, Nat.zero_le _⟩ (fun i σ G _ ⟨_, _, e, _⟩ => by rw [e]; exact SqT.of upd_same) ?_ ?_
        · rintro i y σ G hy ⟨x7, rfl, rfl, hi⟩
          by_cases hlt : i < is.length
          · rw [hz, List.getElem?_append_left (by rw [List.length_map]; exact hlt)] at hy
            obtain ⟨c, _, rfl⟩ := get_ints hy
            refine ⟨_, rfl, _, _, _, .type "int", _, rfl, .ty _, ty_dp (d := .int c) (.int c), kd_int (.int c), _, rfl, ?_⟩
            refine iteF ?_
            exact ⟨_, rfl, _, _, _, .type "bool", _, rfl, .ty _, ty_dp (d := .int c) (.int c), kd_bool (.int c), _, rfl, iteF ⟨_, rfl, rfl, hlt⟩⟩
          · have hie : i = is.length := by omega
            subst hie
            rw [hz, List.getElem?_append_right (by rw [List.length_map]; exact Nat.le_refl _), List.length_map, Nat.sub_self] at hy
            cases (Option.some.inj hy)
            obtain ⟨t, bi, bb, h1, h2, h3, h4⟩ := hni
            refine ⟨_, rfl, _, _, _, .type "int", _, rfl, .ty _, h1 _ (nt_le.trans e3), h2, _, rfl, ?_⟩
            cases bi with
            | false => exact iteT (iteT (k _ e3))
            | true =>
              refine iteF ?_
              refine ⟨_, rfl, _, _, _, .type "bool", _, rfl, .ty _, h1 _ (nt_le.trans e3), h3, _, rfl, ?_⟩
              cases bb with
              | true => exact iteT (k _ e3)
              | false => cases h4
        · rintro σ G ⟨x7, rfl, rfl, hi⟩
          have hi : 6 ≤ is.length := hi
          omega
      · simp only [List.cons.injEq, and_true] at hz
        obtain ⟨rfl, rfl, rfl, rfl, rfl, rfl⟩ := hz
        refine for_tup (K := K) (a := L) (xs := [.int i0, .int i1, .int p, .int q, .int i3, .int i4]) (fun i σ G => ∃ x7 : Option V, σ = [some (.int n), some (.ref a), some (.int i0), some (.int i1), some (.ref b), some (.int i3), some (.int i4), x7] ∧ G = upd G2 L (.tup [.int i0, .int i1, .int p, .int q, .int i3, .int i4]))
          ⟨none, rfl, rfl⟩ (fun i σ G _ ⟨_, _, e⟩ => by rw [e]; exact SqT.of upd_same) ?_ ?_
        · rintro i y σ G hy ⟨x7, rfl, rfl⟩
          obtain ⟨c, _, rfl⟩ := get_ints (ns := [i0, i1, p, q, i3, i4]) hy
          refine ⟨_, rfl, _, _, _, .type "int", _, rfl, .ty _, ty_dp (d := .int c) (.int c), kd_int (.int c), _, rfl, ?_⟩
          refine iteF ?_
          exact ⟨_, rfl, _, _, _, .type "bool", _, rfl, .ty _, ty_dp (d := .int c) (.int c), kd_bool (.int c), _, rfl, iteF ⟨_, rfl, rfl⟩⟩
        · rintro σ G ⟨x7, rfl, rfl⟩
          have no : Q .non (upd G2 L (.tup [.int i0, .int i1, .int p, .int q, .int i3, .int i4])) := k _ e3
          refine ⟨_, rfl, _, _, rfl, rfl, _, rfl, ?_⟩
          refine dec_ite (fun z => ?_) (fun z1 => ?_)
          · exact iteT no
          refine ⟨_, rfl, _, rfl, _, _, rfl, rfl, _, rfl, ?_⟩
          refine dec_ite (fun z => ?_) (fun z2 => ?_)
          · exact iteT no
          refine ⟨_, rfl, _, _, rfl, rfl, _, rfl, ?_⟩
          refine dec_ite (fun z => ?_) (fun z3 => ?_)
          · exact iteT no
          refine ⟨_, rfl, _, rfl, _, _, rfl, rfl, _, rfl, ?_⟩
          refine dec_ite (fun z => ?_) (fun z4 => ?_)
          · exact iteT no
          refine ⟨_, rfl, _, _, rfl, rfl, _, rfl, ?_⟩
          refine dec_ite (fun z => ?_) (fun z5 => ?_)
          · exact no
          exact absurd ⟨by omega, by omega, by omega, by omega, by omega⟩ hno
    have kn : rdStep n d = none → ∀ H', Ex H H' → Q .non H' := fun e H' e' => k H' .non e' (by rw [e]; rfl)
    refine ⟨_, rfl, v, _, rfl, lk_dp hd, fun H1 e1 => ?_⟩
    refine ⟨_, rfl, ?_⟩
    by_cases hl : isListD d = true
    · rw [hl]
      refine iteF ?_
      obtain ⟨a, xs, ds, rfl, hX, hs⟩ := dp_seq hd hl
      have hlen := dpa_len hX
      have hit : itemsD d = ds := by
        rcases hs with ⟨rfl, _⟩ | ⟨rfl, _⟩ <;> rfl
      refine ⟨_, rfl, a, xs, rfl, hs.imp (fun z => ex_l e1 z.2) (fun z => ex_t e1 z.2), rfl, _, rfl, ?_⟩
      by_cases h5 : xs.length = 5
      · have h5' : V.int (xs.length : Int) = V.int 5 := by rw [h5]; rfl
        rw [decide_eq_true h5']
        refine iteF ?_
        obtain ⟨x0, x1, x2, x3, x4, rfl⟩ := five_of h5
        obtain ⟨d0, d1, d2, d3, d4, rfl, hx0, hx1, hx2, hx3, hx4⟩ := dpa_five hX
        refine ⟨_, rfl, gun_or rfl (hs.imp (fun z => ex_l e1 z.2) (fun z => ex_t e1 z.2)) rfl ⟨x0, _, rfl, x1, _, rfl, x2, _, rfl, x3, _, rfl, x4, _, rfl, rfl, ?_⟩⟩
        have nope : (isListD d2 = true → ∀ e0 e1, itemsD d2 = [e0, e1] → (∀ z ∈ [d0, d1, e0, e1, d3, d4], isIntD z = true) → False) → rdStep n d = none := fun z => by
          cases q : rdStep n d with
          | none => rfl
          | some s =>
            obtain ⟨z1, e0, e1, z2, z3⟩ := rd_six hit q
            exact (z z1 e0 e1 z2 z3).elim
        refine ⟨_, rfl, x2, _, rfl, lk_dp (dp_ex e1 _ _ hx2), fun G2 eG2 => ⟨_, rfl, ?_⟩⟩
        have e2 := e1.trans eG2
        by_cases hl2 : isListD d2 = true
        · rw [hl2]
          refine iteF ?_
          obtain ⟨b, ys, es, rfl, hY, hs2⟩ := dp_seq hx2 hl2
          have hit2 : itemsD d2 = es := by
            rcases hs2 with ⟨rfl, _⟩ | ⟨rfl, _⟩ <;> rfl
          have hylen := dpa_len hY
          have hs2' : SqL K G2 b ys ∨ SqT K G2 b ys := hs2.imp (fun z => ex_l e2 z.2) (fun z => ex_t e2 z.2)
          refine ⟨_, rfl, b, ys, rfl, hs2', rfl, _, rfl, ?_⟩
          by_cases h2 : ys.length = 2
          · have h2' : V.int (ys.length : Int) = V.int 2 := by rw [h2]; rfl
            rw [decide_eq_true h2']
            refine iteF ?_
            obtain ⟨y0, y1, rfl⟩ := two_ofl h2
            obtain ⟨c0, c1, rfl, hy0, hy1⟩ := dpa_two hY
            refine ⟨_, rfl, _, rfl, _, rfl, ix_at (j := 0) hs2' rfl ?_⟩
            refine ⟨_, rfl, ix_at (j := 1) hs2' rfl ?_⟩
            refine ⟨_, rfl, _, rfl, by show 6 ≤ sizeLine; decide, fun L hL => ?_⟩
            have e3 := e2.trans (Ex.new (o := .tup [x0, x1, y0, y1, x3, x4]) hL)
            have hA : DpAll K (upd G2 L (.tup [x0, x1, y0, y1, x3, x4])) [x0, x1, y0, y1, x3, x4] [d0, d1, c0, c1, d3, d4] := dpa_ex e3 _ _ (.cons hx0 (.cons hx1 (.cons hy0 (.cons hy1 (.cons hx3 (.cons hx4 .nil))))))
            refine ⟨L, rfl, ⟨_, SqT.of upd_same⟩, ?_⟩
            refine for_tup (K := K) (a := L) (xs := [x0, x1, y0, y1, x3, x4]) (fun i σ G => ∃ x7 : Option V, σ = [some (.int n), some (.ref a), some x0, some x1, some (.ref b), some x3, some x4, x7] ∧ G = upd G2 L (.tup [x0, x1, y0, y1, x3, x4]) ∧ ∀ z ∈ ([d0, d1, c0, c1, d3, d4] : List PyData).take i, isIntD z = true)
              ⟨none, rfl, rfl, fun z hz => by simp at hz⟩ (fun i σ G _ ⟨_, _, e, _⟩ => by rw [e]; exact SqT.of upd_same) ?_ ?_
            · rintro i y σ G hy ⟨x7, rfl, rfl, hi⟩
              obtain ⟨di, hdi, hyd⟩ := dpa_get hA hy
              have hmem := mem_of_get hdi
              refine ⟨_, rfl, y, _, _, .type "int", _, rfl, .ty _, ty_dp hyd, kd_int di, _, rfl, ?_⟩
              have bad : isIntD di = false → Q .non (upd G2 L (.tup [x0, x1, y0, y1, x3, x4])) := fun z => kn (nope fun _ f0 f1 hf hz => by
                rw [hit2] at hf
                cases hf
                have := hz di hmem
                rw [z] at this
                cases this) _ e3
              cases hi1 : isIntD di with
              | true =>
                refine iteF ?_
                refine ⟨_, rfl, y, _, _, .type "bool", _, rfl, .ty _, ty_dp hyd, kd_bool di, ?_⟩
                obtain ⟨i', rfl⟩ := int_of hi1
                refine ⟨_, rfl, iteF ⟨_, rfl, rfl, fun z hz => ?_⟩⟩
                rw [List.take_succ, hdi] at hz
                rcases List.mem_append.mp hz with hz | hz
                · exact hi z hz
                · simp at hz
                  subst hz
                  rfl
              | false =>
                cases di with
                | bool b' =>
                  refine iteF ?_
                  refine ⟨_, rfl, y, _, _, .type "bool", _, rfl, .ty _, ty_dp hyd, kd_bool _, ?_⟩
                  exact ⟨_, rfl, iteT (bad hi1)⟩
                | int => cases hi1
                | _ => exact iteT (iteT (bad hi1))
            · rintro σ G ⟨x7, rfl, rfl, hi⟩
              have hall : ∀ z ∈ [d0, d1, c0, c1, d3, d4], isIntD z = true := fun z hz => hi z (by simpa using hz)
              obtain ⟨i0, rfl⟩ := int_of (hall d0 (by simp))
              obtain ⟨i1, rfl⟩ := int_of (hall d1 (by simp))
              obtain ⟨p, rfl⟩ := int_of (hall c0 (by simp))
              obtain ⟨q, rfl⟩ := int_of (hall c1 (by simp))
              obtain ⟨i3, rfl⟩ := int_of (hall d3 (by simp))
              obtain ⟨i4, rfl⟩ := int_of (hall d4 (by simp))
              have hr5 := rd_at (n := n) hit hit2
              cases hx0
              cases hx1
              cases hx3
              cases hx4
              cases hy0
              cases hy1
              have no : ¬ (0 ≤ i0 ∧ i0 < n ∧ 0 ≤ i1 ∧ i1 < n ∧ 1 ≤ i3) → Q .non (upd G2 L (.tup [.int i0, .int i1, .int p, .int q, .int i3, .int i4])) := fun z => kn (by rw [hr5, if_neg z]) _ e3
              refine ⟨_, rfl, _, _, rfl, rfl, _, rfl, ?_⟩
              refine dec_ite (fun z => ?_) (fun z1 => ?_)
              · exact iteT (no (fun y => by omega))
              refine ⟨_, rfl, _, rfl, _, _, rfl, rfl, _, rfl, ?_⟩
              refine dec_ite (fun z => ?_) (fun z2 => ?_)
              · exact iteT (no (fun y => by omega))
              refine ⟨_, rfl, _, _, rfl, rfl, _, rfl, ?_⟩
              refine dec_ite (fun z => ?_) (fun z3 => ?_)
              · exact iteT (no (fun y => by omega))
              refine ⟨_, rfl, _, rfl, _, _, rfl, rfl, _, rfl, ?_⟩
              refine dec_ite (fun z => ?_) (fun z4 => ?_)
              · exact iteT (no (fun y => by omega))
              refine ⟨_, rfl, _, _, rfl, rfl, _, rfl, ?_⟩
              refine dec_ite (fun z => ?_) (fun z5 => ?_)
              · exact no (fun y => by omega)
              rw [if_pos ⟨by omega, by omega, by omega, by omega, by omega⟩] at hr5
              refine ⟨_, rfl, _, rfl, _, rfl, b, [.int p, .int q], rfl, ?_⟩
              rcases hs2 with ⟨_, hs2⟩ | ⟨_, hs2⟩
              · refine .inl ⟨ex_l e3 hs2, fun l hl => ⟨_, rfl, _, rfl, by show 5 ≤ sizeLine; decide, fun t ht => ?_⟩⟩
                refine k _ _ ((e3.trans (Ex.new hl)).trans (Ex.new ht)) ?_
                rw [hr5]
                exact stD_mk (s := ⟨i0, i1, p, q, i3, i4⟩) (SqT.of upd_same) (SqT.of (by rw [upd_ne (ne_of_none upd_same ht)]; exact upd_same))
              · refine .inr ⟨ex_t e3 hs2, _, rfl, _, rfl, by show 5 ≤ sizeLine; decide, fun t ht => ?_⟩
                refine k _ _ (e3.trans (Ex.new ht)) ?_
                rw [hr5]
                exact stD_mk (s := ⟨i0, i1, p, q, i3, i4⟩) (SqT.of upd_same) (ex_t (e3.trans (Ex.new ht)) hs2)
          · rw [decide_eq_false (fun z => h2 (by have := V.int.inj z; omega))]
            refine iteT (kn (nope fun _ f0 f1 hf _ => h2 ?_) _ e2)
            rw [hylen, ← hit2, hf]
            rfl
        · have hf : isListD d2 = false := by simpa using hl2
          rw [hf]
          exact iteT (iteT (kn (nope fun z _ _ _ _ => hl2 z) _ e2))
      · have hn : rdStep n d = none := by
          cases q : rdStep n d with
          | none => rfl
          | some s => exact absurd (by rw [hlen, ← hit]; exact rd_len q) h5
        rw [decide_eq_false (fun z => h5 (by have := V.int.inj z; omega))]
        exact iteT (kn hn _ e1)
    · have hn : rdStep n d = none := by
        cases q : rdStep n d with
        | none => rfl
        | some s => exact absurd (rd_list q) hl
      have hf : isListD d = false := by simpa using hl
      rw [hf]
      exact iteT (iteT (kn hn _ e1))
end
end AA

set_option Elab.async false
set_option linter.all false
set_option maxRecDepth 100000
set_option maxHeartbeats 4000000
/-! enumerate over a list or a tuple. -/
namespace AA
open PySem PySem.Spec PyProof.Rows L2 Evl
theorem enumT_new {v : Value} {o : Obj} {Z : Heap → Prop} (B : Begins v o Z) :
    Meets (Builtin.«enumerate.__new__» ⟨[.type "enumerate", v], []⟩) (fun _ R s => Z s.heap ∧
      R (.ok (.ret (.ref (s.heap.push o).objs.size))) { s with heap := (s.heap.push o).push { cls := .type "enumerate", data := .fields #[.none, .bool false, .ref s.heap.objs.size, rawInt 0, .none, .none] } }) :=
  .of_wp fun prog w A R s h => by
    obtain ⟨hp, g, d, tk, os⟩ := s
    obtain ⟨z, h⟩ := h
    have sb := sub_enumerate
    have go : ∀ {A' : Around} {E : Value → Shared → Prop} {Q : Value → Shared → Prop}, Q (.ref hp.objs.size) ⟨hp.push o, g, d, tk, os⟩ → wpAny (model prog w) A' (pyIter v) Q E ⟨hp, g, d, tk, os⟩ := fun q => B.iter prog w _ _ ⟨hp, g, d, tk, os⟩ _ z q
    wp_walk using go
    refine wpAny_stack_any (fun st => wpAny_pure ?_)
    split
    · rename_i c _ _ _ _ _
      cases (c == Value.type "enumerate") <;> (wp_walk using go; exact ⟨_, rfl, h⟩)
    · wp_walk using go
      exact ⟨_, rfl, h⟩
section
variable {prog : Program} {w : World} {A : Around} {E : Value → Shared → Prop} {s : Shared}
theorem enumT_call {v : Value} {o : Obj} {Z : Heap → Prop} {Q : Value → Shared → Prop} (B : Begins v o Z) (z : Z s.heap)
    (h : ∀ h', IsEnum h' (s.heap.objs.size + 1) s.heap.objs.size 0 .none → h'.get? s.heap.objs.size = some o → h'.objs.size = s.heap.objs.size + 2 →
      (∀ b o, s.heap.get? b = some o → h'.get? b = some o) → Q (.ref (s.heap.objs.size + 1)) { s with heap := h' }) : wpAny (model prog w) A (call (.type "enumerate") [v]) Q E s := by
  have hz : (s.heap.push o).objs.size = s.heap.objs.size + 1 := Heap.size_push ..
  have he : IsEnum ((s.heap.push o).push { cls := .type "enumerate", data := .fields #[.none, .bool false, .ref s.heap.objs.size, rawInt 0, .none, .none] }) (s.heap.objs.size + 1) s.heap.objs.size 0 .none := by
    have q := Heap.get?_push_size (s.heap.push o) (o := { cls := .type "enumerate", data := .fields #[.none, .bool false, .ref s.heap.objs.size, rawInt 0, .none, .none] }) rfl
    rw [hz] at q
    exact q
  refine callType_new F.called_enumerate (by decide) (F.typeCall_enumerate_1 _) (F.newCall_enumerate_1 _) (fun obj => F.args_object_init_2 obj _) F.entry_enumerate_new (enumT_new B) ⟨z, ?_⟩
  show _ ∧ _
  rw [hz]
  exact ⟨⟨_, he, rfl⟩, h _ he (Heap.get?_push_of_some _ (Heap.get?_push_size _ B.free)) (by rw [Heap.size_push, hz]) (fun b u x => Heap.get?_push_of_some _ (Heap.get?_push_of_some _ x))⟩
end
/-- the tuple at a, each item in a new pair -/
def IteT (K : PySem.W.Frag) (a : Addr) : It :=
  ⟨fun i H => ∃ (xs : List V) (x : V), SqT K H a xs ∧ xs[i]? = some x, fun i H v H' => ∃ T x, v = .ref T ∧ H T = none ∧ H' = upd H T (.tup [.int (i : Nat), x]) ∧ (∀ xs, SqT K H a xs → xs[i]? = some x), fun i H => ∃ xs : List V, SqT K H a xs ∧ xs.length = i⟩
theorem turn_enumT {P : Program} {w : World} {K : PySem.W.Frag} {elts : List Expr} {kk : Nat} {tpos : Pos} {a e it : Addr} (ai : a ≠ it) (hne : e ≠ it) (hea : e ≠ a) :
    Turn P w K (.Tuple elts kk tpos) (IteT K a) [e, it] e (fun i h => (∃ old, IsEnum h e it ((i : Nat) : Int) old) ∧ h.IsTupleIter it a i) where
  mem := List.mem_cons_self
  obj := fun i h st b hb => by
    obtain ⟨⟨old, he⟩, ⟨o, ho, hc, hd⟩⟩ := st
    rcases List.mem_cons.mp hb with rfl | z
    · exact ⟨_, he, fun v q => nomatch q⟩
    · obtain rfl := List.mem_singleton.mp z
      exact ⟨o, ho, fun v q => by rw [hd] at q; cases q⟩
  keep := fun i h h' st k => by
    obtain ⟨⟨old, he⟩, hi⟩ := st
    exact ⟨⟨old, k e List.mem_cons_self _ he⟩, hi.at fun o q => k it (by simp) o q⟩
  item := by
    intro X hP hw hK hc i pins s σ H E I hf st hg
    subst hP hw hK
    obtain ⟨⟨old, he⟩, hit⟩ := st
    obtain ⟨xs, x, hq, hx⟩ := hg
    obtain ⟨its, rv, p, hz⟩ := I.tuple hq
    obtain ⟨u, hu, ru⟩ := rv.get hx
    have hel : e < s.heap.objs.size := Heap.lt_size he
    have hil : it < s.heap.objs.size := by
      obtain ⟨_, q, _⟩ := hit
      exact Heap.lt_size q
    have hin : i < its.toArray.size := by
      have := (List.getElem?_eq_some_iff.mp hu).1
      simpa using this
    have pt : s.heap.IsTuple a its.toArray := p
    refine wpAny_pyNext_enum_itemD (Draws.tuple (A := X.A.in1) (I.ok.hd hc) it a ai its.toArray) he ⟨hit, pt⟩ hin hne (by simp [hne, hea]) fun y h' tk hy ho hst hT hsz hk => ?_
    have ey : u = y := by
      have h1 : its.toArray[i]? = some u := by simpa using hu
      exact Option.some.inj (h1.symm.trans hy)
    subst ey
    refine ⟨_, rfl, wpAny_letOwnedTupleGo_enum (s := { s with heap := h', toks := tk + 1 }) ho fun h'' he' sb => ?_⟩
    have hT2 : h''.get? s.heap.objs.size = some { cls := .type "tuple", data := .seq #[.int i tk, u] } := (sb.2 _ (Nat.ne_of_gt hel)).trans hT
    have new : ObjOk X.prog X.w (upd H s.heap.objs.size (.tup [.int (i : Nat), x])) h'' s.heap.objs.size (.tup [.int (i : Nat), x]) :=
      ⟨by show 2 ≤ sizeLine; decide, [.int i tk, u], .cons ⟨_, rfl⟩ (.cons ru .nil), _, hT2, rfl, _, rfl⟩
    have I1 : Inv X pins σ (upd H s.heap.objs.size (.tup [.int (i : Nat), x])) { s with heap := h'', toks := tk + 1 } :=
      I.turnedNew (ch := [e, it]) (fun b ob hb q => (sb.2 b (fun z => hb (by simp [z]))).trans (hk b ob (fun z => hb (by simp [z])) (fun z => hb (by simp [z])) q)) hf (Nat.le_refl _) new
    have e1 : ((i + 1 : Nat) : Int) = (i : Int) + 1 := by omega
    refine ⟨.ref s.heap.objs.size, _, I1, rfl, ⟨_, x, rfl, I.hok.fresh (Nat.le_refl _), rfl, fun ys hy => by rw [I.tuple_inj hy hq]; exact hx⟩, ⟨⟨u, by rw [e1]; exact he'⟩, hst.1.at fun o q => (sb.2 it (Ne.symm hne)).trans q⟩, fun b hb => ?_⟩
    have hb' : b < s.heap.objs.size := by
      rcases List.mem_cons.mp hb with rfl | z
      · exact hel
      · obtain rfl := List.mem_singleton.mp z
        exact hil
    rw [upd_ne (Nat.ne_of_lt hb')]
    exact (hf b hb).1
  done := by
    intro X hP hw hK hc i pins s σ H E I hf st hg
    subst hP hw hK
    obtain ⟨⟨old, he⟩, hit⟩ := st
    obtain ⟨xs, hq, hx⟩ := hg
    obtain ⟨its, rv, p, hz⟩ := I.tuple hq
    obtain ⟨f0, f1, f2, f3, f4, f5⟩ := hf it (by simp)
    have hl := rv.length
    have pt : s.heap.IsTuple a its.toArray := p
    have hi : i = its.toArray.size := by
      rw [← hx, hl]
      simp
    subst hi
    exact wpAny_pyNext_enum_endD (Draws.tuple (A := X.A.in1) (I.ok.hd hc) it a ai its.toArray) he ⟨hit, pt⟩ fun h' eb => ⟨rfl, I.turned (t' := s.toks) (fun b o hb q => eb b o hb q) f0 f1 f3 f4 f5⟩
  self := fun A i s Q E st h => by
    obtain ⟨⟨_, he⟩, _⟩ := st
    exact wpAny_pyIter_enum he h
/-- enumerate(list) or enumerate(tuple) -/
def iEnumA (K : PySem.W.Frag) (ta : TA) : TI := fun σ H R => ta σ H fun vs H1 => ∃ a xs, vs = [.ref a] ∧ ((SqL K H1 a xs ∧ R (Ite K a) H1) ∨ (SqT K H1 a xs ∧ R (IteT K a) H1))
theorem pi_enumA {X : Cx} {e : Expr} {ta : TA} {p pos tpos : Pos} {elts : List Expr} {kk : Nat} (hg : Gl X "enumerate") (hm : X.mg "enumerate" = none) (ha : PA X [e] ta) (hs : starEach [e] X.env = [(false, eval e X.env)] := by rfl) :
    PI X (.Tuple elts kk tpos) (.Call (.Name "enumerate" p) [e] [] pos) (iEnumA X.K ta) := ⟨fun pins s σ H R I h =>
  Call_ (ld_blt I hg hm boot_enumerate (PyProof.Rows.callWith_type1 (thn (ha.run pos pins s σ H _ I h) fun us s1 ⟨vs, H1, I1, r1, a, xs, ex, q1⟩ => by
    subst ex
    obtain ⟨u, rfl, ru⟩ := vals1 r1
    cases (show u = Value.ref a from ru)
    have fresh : ∀ b ∈ [s1.heap.objs.size + 1, s1.heap.objs.size], FpOk X pins H1 b := fun b hb => by
      have hle : s1.heap.objs.size ≤ b := by
        rcases List.mem_cons.mp hb with rfl | z
        · exact Nat.le_add_right _ _
        · exact Nat.le_of_eq (List.mem_singleton.mp z).symm
      exact I1.fpOk hle (I1.hok.fresh hle)
    rcases q1 with ⟨hq, q⟩ | ⟨hq, q⟩
    · obtain ⟨its, rv, p', hz⟩ := I1.list hq
      refine call_enumerate_list p'.isList fun h' he hit hsz hk => wpAny_pyIter_enum he ?_
      exact ⟨s1.heap.objs.size + 1, _, _, _, H1, rfl, I1.kept (t' := s1.toks) hk, turn_enum a (s1.heap.objs.size + 1) s1.heap.objs.size, ⟨⟨.none, he⟩, hit, Nat.succ_ne_self _⟩, fresh, q⟩
    · obtain ⟨its, rv, p', hz⟩ := I1.tuple hq
      have hal : a < s1.heap.objs.size := p'.lt
      refine enumT_call (begins_tuple a its.toArray) p' fun h' he hit hsz hk => wpAny_pyIter_enum he ?_
      exact ⟨s1.heap.objs.size + 1, _, _, _, H1, rfl, I1.kept (t' := s1.toks) hk, turn_enumT (a := a) (e := s1.heap.objs.size + 1) (it := s1.heap.objs.size) (Nat.ne_of_lt hal) (Nat.succ_ne_self _) (Ne.symm (Nat.ne_of_lt (Nat.lt_succ_of_lt hal))), ⟨⟨.none, he⟩, ⟨_, hit, rfl, rfl⟩⟩, fresh, q⟩) hs rfl))⟩
theorem for_enumT {K : PySem.W.Frag} {a : Addr} {xs : List V} {g : TG} {tb : TS} {D : Ends} {σ : L2.St} {H : Hp} (Pv : Nat → L2.St → Hp → Prop) (h0 : Pv 0 σ H) (hl : ∀ i σ H, i ≤ xs.length → Pv i σ H → SqT K H a xs)
    (hs : ∀ (i : Nat) (x : V) (σ : L2.St) (H : Hp) (T : Addr), xs[i]? = some x → Pv i σ H → H T = none → g (.ref T) σ (upd H T (.tup [.int (i : Nat), x])) fun σ2 H2 => tb { D with nx := Pv (i + 1), ct := Pv (i + 1), bk := D.nx } σ2 H2) (hd : ∀ σ H, Pv xs.length σ H → D.nx σ H) :
    ∃ W : Nat → Nat → L2.St → Hp → Prop, (∃ m, W 0 m σ H) ∧ ∀ i m σ H, W i m σ H →
      ((IteT K a).stop i H ∧ D.nx σ H) ∨ ((IteT K a).go i H ∧ ∃ N : L2.St → Hp → Prop, (∀ σ' H', N σ' H' → ∃ m', m' < m ∧ W (i + 1) m' σ' H') ∧ ∀ x H', (IteT K a).yld i H x H' → g x σ H' fun σ2 H2 => tb { D with nx := N, ct := N, bk := D.nx } σ2 H2) := by
  refine ⟨fun i m σ H => m = xs.length - i ∧ i ≤ xs.length ∧ Pv i σ H, ⟨xs.length, by simp, Nat.zero_le _, h0⟩, ?_⟩
  rintro i m σ H ⟨rfl, hi, p⟩
  have q := hl i σ H hi p
  by_cases hlt : i < xs.length
  · refine .inr ⟨⟨xs, xs[i], q, by simp [hlt]⟩, Pv (i + 1), fun σ' H' p' => ⟨xs.length - (i + 1), by omega, rfl, hlt, p'⟩, fun x H' y => ?_⟩
    obtain ⟨T, z, rfl, hT, rfl, e⟩ := y
    exact hs i z σ _ T (e xs q) p hT
  · have e : i = xs.length := by omega
    subst e
    exact .inl ⟨⟨xs, q, rfl⟩, hd σ H p⟩
theorem for_enumA {K : PySem.W.Frag} {a : Addr} {xs : List V} {g : TG} {tb : TS} {D : Ends} {σ : L2.St} {H0 H : Hp} (hq : SqL K H0 a xs ∨ SqT K H0 a xs) (Pv : Nat → L2.St → Hp → Prop) (h0 : Pv 0 σ H) (he : ∀ i σ G, Pv i σ G → Ex H0 G)
    (hs : ∀ (i : Nat) (x : V) (σ : L2.St) (H : Hp) (T : Addr), xs[i]? = some x → Pv i σ H → H T = none → g (.ref T) σ (upd H T (.tup [.int (i : Nat), x])) fun σ2 H2 => tb { D with nx := Pv (i + 1), ct := Pv (i + 1), bk := D.nx } σ2 H2) (hd : ∀ σ H, Pv xs.length σ H → D.nx σ H) :
    (SqL K H a xs ∧ ∃ W : Nat → Nat → L2.St → Hp → Prop, (∃ m, W 0 m σ H) ∧ ∀ i m σ H, W i m σ H →
      ((Ite K a).stop i H ∧ D.nx σ H) ∨ ((Ite K a).go i H ∧ ∃ N : L2.St → Hp → Prop, (∀ σ' H', N σ' H' → ∃ m', m' < m ∧ W (i + 1) m' σ' H') ∧ ∀ x H', (Ite K a).yld i H x H' → g x σ H' fun σ2 H2 => tb { D with nx := N, ct := N, bk := D.nx } σ2 H2)) ∨
    (SqT K H a xs ∧ ∃ W : Nat → Nat → L2.St → Hp → Prop, (∃ m, W 0 m σ H) ∧ ∀ i m σ H, W i m σ H →
      ((IteT K a).stop i H ∧ D.nx σ H) ∨ ((IteT K a).go i H ∧ ∃ N : L2.St → Hp → Prop, (∀ σ' H', N σ' H' → ∃ m', m' < m ∧ W (i + 1) m' σ' H') ∧ ∀ x H', (IteT K a).yld i H x H' → g x σ H' fun σ2 H2 => tb { D with nx := N, ct := N, bk := D.nx } σ2 H2)) :=
  hq.imp (fun q => ⟨ex_l (he _ _ _ h0) q, for_enumL Pv h0 (fun i σ G hi p => ex_l (he i σ G p) q) hs hd⟩) (fun q => ⟨ex_t (he _ _ _ h0) q, for_enumT Pv h0 (fun i σ G hi p => ex_t (he i σ G p) q) hs hd⟩)
end AA

set_option Elab.async false
set_option linter.all false
set_option maxRecDepth 100000
set_option maxHeartbeats 4000000
/-! Exceptions of one field, made and raised. -/
namespace AA
open PySem PySem.Spec PyProof.Rows L2 Evl
section
variable {P : Program} {w : World} {K : PySem.W.Frag} {mg : Str → Option Value} {base : Heap}
/-- a def that may raise, asked where it doesn't -/
theorem fn_calm {k : Nat} {f : Addr} {fd : FuncData} {ps : List Str} {sp : Sp} (G : FnOk P w K mg base (L2.CX P w) k f fd ps sp) : FnOk P w K mg base CX0 k f fd ps (fun vs H Q _ => sp vs H Q E0) := by
  refine ⟨fun vs H Q E h => G.len vs H Q E0 h, fun A outer s H args us vs Q E hr e0 hb r h => ?_⟩
  refine codeAny_mono (G.run A outer s H args us vs Q E0 hr e0 hb r h) fun r s' hq => ?_
  cases r with
  | ok fl => cases fl <;> exact hq
  | error e =>
    obtain ⟨_, _, _, _, _, _, _, _, _, _, _, _, z⟩ := hq
    exact z.elim
/-- what the top has written of an exception's class x with the field m -/
structure ExT (K : PySem.W.Frag) (mg : Str → Option Value) (x m : Str) (CB fI : Addr) : Prop where
  ox : OexC K CB
  xf : XfC K CB
  no : PySem.W.findIn K (.ref CB) m = some none
  gC : mg x = some (.ref CB)
  iC : PySem.W.findIn K (.ref CB) "__init__" = some (some (.ref fI))
  tC : PySem.W.typeIn K (.ref fI) = some (.type "function")
def spExI (CB : Addr) (m : Str) : Sp := fun vs H Q _ => ∃ (a : Addr) (v : V), vs = [.ref a, v] ∧ H a = some (exo a CB none) ∧ ∀ dx, H dx = none → dx ≠ a → Q .non (upd (upd H dx (exd dx [(m, v)])) a (exo a CB (some dx)))
theorem scBadPl : FnScope ["self", "places"] ["self", "places"] (defScope sBadPlInit) := ⟨rfl, rfl, rfl, by decide +kernel, rfl, by decide +kernel, by decide +kernel⟩
theorem ok_badPl {CB f fI : Addr} {fd : FuncData} (F : L2.Fun K "__init__" "BadPlaces.__init__" sBadPlInit f fd) (T : ExT K mg "BadPlaces" "places" CB fI) : FnOk P w K mg base CX0 1 f fd ["self", "places"] (spExI CB "places") := by
  refine F.ok scBadPl (fun vs H Q E h => ?_) (fun cdv A outer s H vs Q E hr h => ?_)
  · obtain ⟨a, v, rfl, _⟩ := h
    rfl
  · obtain ⟨a, v, rfl, ha, k⟩ := h
    exact ⟨_, pss_one (ps_ost (pv 0) (pv 1) rfl), _, rfl, _, rfl, a, CB, rfl, T.ox, T.no, .inl ⟨ha, k⟩⟩
theorem scBadSt : FnScope ["self", "index"] ["self", "index"] (defScope sBadStInit) := ⟨rfl, rfl, rfl, by decide +kernel, rfl, by decide +kernel, by decide +kernel⟩
theorem ok_badSt {CB f fI : Addr} {fd : FuncData} (F : L2.Fun K "__init__" "BadSteps.__init__" sBadStInit f fd) (T : ExT K mg "BadSteps" "index" CB fI) : FnOk P w K mg base CX0 1 f fd ["self", "index"] (spExI CB "index") := by
  refine F.ok scBadSt (fun vs H Q E h => ?_) (fun cdv A outer s H vs Q E hr h => ?_)
  · obtain ⟨a, v, rfl, _⟩ := h
    rfl
  · obtain ⟨a, v, rfl, ha, k⟩ := h
    exact ⟨_, pss_one (ps_ost (pv 0) (pv 1) rfl), _, rfl, _, rfl, a, CB, rfl, T.ox, T.no, .inl ⟨ha, k⟩⟩
/-- an exception of this class with this field flies -/
def BadE (CB : Addr) (m : Str) (H : Hp) (v : V) (E : XK) : Prop := ∀ (H' : Hp) (dd : Addr), Ex H H' → H dd = none → H' dd = some (.xd [(m, v)]) → E (.ref CB) (some dd) H'
theorem BadE.ex {CB : Addr} {m : Str} {H H1 : Hp} {v : V} {E : XK} (h : BadE CB m H v E) (e : Ex H H1) : BadE CB m H1 v E := fun H' dd e' h0 h1 => h H' dd (e.trans e') (fresh_back e h0) h1
/-- raise C(e), read -/
theorem raise_go {CB : Addr} {m : Str} {H1 : Hp} {v : V} {E : XK} (kb : BadE CB m H1 v E) : ∀ a, H1 a = none → spExI CB m [.ref a, v] (upd H1 a (exo a CB none)) (fun u H2 => u = .non ∧ ∃ (d : Addr) (fs : List (Str × V)), H2 a = some (exo a CB (some d)) ∧ H2 d = some (exd d fs) ∧ H1 d = none ∧ E (.ref CB) (some d) (upd (del H2 a) d (.xd fs))) (fun _ _ _ => False) := by
  intro a ha
  refine ⟨a, v, rfl, upd_same, fun dx hdx ne => ⟨rfl, dx, _, upd_same, by rw [upd_ne ne]; exact upd_same, ?_, ?_⟩⟩
  · rw [upd_ne ne] at hdx
    exact hdx
  · have hd1 : H1 dx = none := by
      rw [upd_ne ne] at hdx
      exact hdx
    refine kb _ dx (fun b o hb => ?_) hd1 upd_same
    have hb1 : b ≠ dx := ne_of_none hb hd1
    have hb2 : b ≠ a := ne_of_none hb ha
    rw [upd_ne hb1, del_ne hb2, upd_ne hb2, upd_ne hb1, upd_ne hb2]
    exact hb
end
end AA

set_option Elab.async false
set_option linter.all false
set_option maxRecDepth 100000
set_option maxHeartbeats 4000000
/-! read_steps, of good steps. -/
namespace AA
open PySem PySem.Spec PyProof.Rows L2 Evl
theorem sqt_upd {K : PySem.W.Frag} {G : Hp} {p a : Addr} {φ : Heap → Prop} {o : HO} {xs : List V} (hp : G p = some (.ext φ)) (h : SqT K G a xs) : SqT K (upd G p o) a xs := by
  rcases h with h | h
  · refine .inl ?_
    rcases h with h | ⟨u, h⟩
    · exact .inl (by rw [upd_ne (fun z => by rw [z, hp] at h; cases h)]; exact h)
    · exact .inr ⟨u, by rw [upd_ne (fun z => by rw [z, hp] at h; cases h)]; exact h⟩
  · exact .inr h
theorem st_upd {K : PySem.W.Frag} {G : Hp} {p : Addr} {φ : Heap → Prop} {o : HO} {v : V} {s : St5} (hp : G p = some (.ext φ)) (h : Dp K G v (stD s)) : Dp K (upd G p o) v (stD s) := by
  obtain ⟨t, u, rfl, h1, h2⟩ := stD_inv h
  exact stD_mk (sqt_upd hp h1) (sqt_upd hp h2)
theorem ks_upd {K : PySem.W.Frag} {G : Hp} {p : Addr} {φ : Heap → Prop} {o : HO} {ks : List (St5 × Addr)} (hp : G p = some (.ext φ)) (h : KsOk K G ks) : KsOk K (upd G p o) ks := fun x m => st_upd hp (h x m)
theorem ks_dpa {K : PySem.W.Frag} {G : Hp} : ∀ {ks : List (St5 × Addr)}, KsOk K G ks → DpAll K G (ks.map fun x => V.ref x.2) ((ks.map (·.1)).map stD)
  | [], _ => .nil
  | x :: r, h => .cons (h x List.mem_cons_self) (ks_dpa fun y m => h y (List.mem_cons_of_mem _ m))
theorem map_get {α β : Type} {f : α → Option β} {xs : List α} {ys : List β} (h : xs.map f = ys.map some) {i : Nat} {x : α} (hx : xs[i]? = some x) : ∃ y, ys[i]? = some y ∧ f x = some y := by
  have h1 : (xs.map f)[i]? = some (f x) := by rw [List.getElem?_map, hx]; rfl
  rw [h, List.getElem?_map] at h1
  cases q : ys[i]? with
  | none =>
    rw [q] at h1
    cases h1
  | some y =>
    rw [q] at h1
    exact ⟨y, rfl, (Option.some.inj h1).symm⟩
theorem nodup_take {α : Type} {ys : List α} (h : ys.Nodup) {i : Nat} {y : α} (hy : ys[i]? = some y) : y ∉ ys.take i := by
  intro m
  obtain ⟨j, hj⟩ := List.mem_iff_getElem?.mp m
  rw [List.getElem?_take] at hj
  split at hj
  · rename_i hlt
    have : j = i := (List.getElem?_inj (List.getElem?_eq_some_iff.mp hj).1 h).mp (hj.trans hy.symm)
    omega
  · cases hj
section
variable {P : Program} {w : World} {K : PySem.W.Frag} {mg : Str → Option Value} {base : Heap}
def spIsIntegerV (K : PySem.W.Frag) : Sp := fun vs H Q _ => ∃ v : V, vs = [v] ∧ ((NotI K H v ∧ Q (.bl false) H) ∨ ∃ n, v = .int n ∧ Q (.bl true) H)
theorem ok_isIntegerV {f : Addr} {fd : FuncData} (F : L2.Fun K "is_integer" "is_integer" sIsInteger f fd) (T : Bn mg) : FnOk P w K mg base CX0 1 f fd ["thing"] (spIsIntegerV K) := by
  refine F.ok scIsInteger (fun vs H Q E h => ?_) (fun cdv A outer s H vs Q E hr h => ?_)
  · obtain ⟨v, rfl, _⟩ := h
    rfl
  · obtain ⟨v, rfl, h⟩ := h
    refine ⟨_, pss_one (ps_ret (pe_and (pe_callB call_is1 (by rfl) T.isinstance boot_isinstance (pa_cons (pv 0) (pa_cons (pe_bltn (v := .ty "int") (by rfl) T.int boot_int rfl) pa_nil)))
      (pe_one (pe_not (pe_callB call_is1 (by rfl) T.isinstance boot_isinstance (pa_cons (pv 0) (pa_cons (pe_bltn (v := .ty "bool") (by rfl) T.bool boot_bool rfl) pa_nil))))))), ?_⟩
    rcases h with ⟨⟨t, bi, bb, h1, h2, h3, h4⟩, k⟩ | ⟨n, rfl, k⟩
    · refine ⟨_, rfl, v, _, _, .type "int", _, rfl, .ty _, h1 _ nt_le, h2, _, rfl, ?_⟩
      cases bi with
      | false => exact iteF k
      | true =>
        refine iteT ?_
        refine ⟨_, rfl, v, _, _, .type "bool", _, rfl, .ty _, h1 _ nt_le, h3, _, rfl, ?_⟩
        cases bb with
        | true => exact k
        | false => cases h4
    · refine ⟨_, rfl, _, _, _, .type "int", _, rfl, .ty _, ty_dp (d := .int n) (.int n), kd_int (.int n), _, rfl, ?_⟩
      refine iteT ?_
      exact ⟨_, rfl, _, _, _, .type "bool", _, rfl, .ty _, ty_dp (d := .int n) (.int n), kd_bool (.int n), _, rfl, k⟩
/-- steps in a row, read -/
inductive RdAll (K : PySem.W.Frag) (n : Int) (H : Hp) : List V → List St5 → Prop
  | nil : RdAll K n H [] []
  | cons {v : V} {d : PyData} {s : St5} {vs : List V} {ss : List St5} (h : Dp K H v d) (hr : rdStep n d = some s) (t : RdAll K n H vs ss) : RdAll K n H (v :: vs) (s :: ss)
theorem RdAll.ex {n : Int} {H H' : Hp} (e : Ex H H') : ∀ {vs : List V} {ss : List St5}, RdAll K n H vs ss → RdAll K n H' vs ss
  | _, _, .nil => .nil
  | _, _, .cons h hr t => .cons (dp_ex e _ _ h) hr (RdAll.ex e t)
theorem RdAll.len {n : Int} {H : Hp} : ∀ {vs : List V} {ss : List St5}, RdAll K n H vs ss → vs.length = ss.length
  | _, _, .nil => rfl
  | _, _, .cons _ _ t => by rw [List.length_cons, List.length_cons, RdAll.len t]
theorem RdAll.get {n : Int} {H : Hp} : ∀ {vs : List V} {ss : List St5} {i : Nat} {v : V}, RdAll K n H vs ss → vs[i]? = some v → ∃ d s, Dp K H v d ∧ rdStep n d = some s ∧ ss[i]? = some s
  | _, _, _, _, .nil, e => by simp at e
  | _, _, 0, _, .cons h hr t, e => by
    cases (Option.some.inj e)
    exact ⟨_, _, h, hr, rfl⟩
  | _, _, i + 1, _, .cons h hr t, e => RdAll.get (i := i) t e
/-- what read_steps is handed: no list; a list whose first bad one is at an index; good steps -/
def StArg (K : PySem.W.Frag) (n : Int) (H : Hp) (v : V) (Bad : Nat → Prop) (Good : List St5 → Prop) : Prop :=
  (Lk K H v false ∧ Bad 0) ∨ ∃ (a : Addr) (xs : List V) (ss : List St5), v = .ref a ∧ SqA K H a xs ∧ ss.Nodup ∧ ss.length ≤ 1000000 ∧
    ((RdAll K n H xs ss ∧ Good ss) ∨ ∃ (pre : List V) (z : V) (r : List V), xs = pre ++ z :: r ∧ RdAll K n H pre ss ∧ (RdNo K n H z ∨ ∃ d s, Dp K H z d ∧ rdStep n d = some s ∧ s ∈ ss) ∧ Bad ss.length)
theorem StArg.ex {n : Int} {H H' : Hp} {v : V} {B : Nat → Prop} {G : List St5 → Prop} (h : StArg K n H v B G) (e : Ex H H') : StArg K n H' v B G := by
  rcases h with ⟨h1, h2⟩ | ⟨a, xs, ss, h1, h2, h3, h4, h⟩
  · exact .inl ⟨h1.ex e, h2⟩
  · refine .inr ⟨a, xs, ss, h1, h2.ex e, h3, h4, h.imp (fun z => ⟨z.1.ex e, z.2⟩) ?_⟩
    rintro ⟨pre, z, r, h5, h6, h7, h8⟩
    exact ⟨pre, z, r, h5, h6.ex e, h7.imp (fun y => y.ex e) (fun ⟨d, s, y1, y2⟩ => ⟨d, s, dp_ex e _ _ y1, y2⟩), h8⟩
theorem StArg.imp {n : Int} {H : Hp} {v : V} {B B' : Nat → Prop} {G G' : List St5 → Prop} (h : StArg K n H v B G) (hb : ∀ i, B i → B' i) (hg : ∀ ss, G ss → G' ss) : StArg K n H v B' G' := by
  rcases h with ⟨h1, h2⟩ | ⟨a, xs, ss, h1, h2, h3, h4, h⟩
  · exact .inl ⟨h1, hb _ h2⟩
  · refine .inr ⟨a, xs, ss, h1, h2, h3, h4, h.imp (fun z => ⟨z.1, hg _ z.2⟩) ?_⟩
    rintro ⟨pre, z, r, h5, h6, h7, h8⟩
    exact ⟨pre, z, r, h5, h6, h7, hb _ h8⟩
def spReadSteps (K : PySem.W.Frag) (CB : Addr) : Sp := fun vs H Q E => ∃ (n : Int) (v : V), vs = [.int n, v] ∧ StArg K n H v (fun i => BadE CB "index" H (.int (i : Nat)) E)
  (fun ss => ∀ H' p ys, Ex H H' → H p = none → H' p = some (.lst ys) → DpAll K H' ys (ss.map stD) → Q (.ref p) H')
theorem scReadSteps : FnScope ["places", "things", "found", "index", "thing", "step"] ["places", "things"] (defScope sReadSteps) := ⟨rfl, rfl, rfl, by decide +kernel, rfl, by decide +kernel, by decide +kernel⟩
theorem ok_readSteps {f CB fI : Addr} {fd fdI : FuncData} (F : L2.Fun K "read_steps" "read_steps" sReadSteps f fd) (T : Bn mg) (TB : ExT K mg "BadSteps" "index" CB fI) (GI : FnOk P w K mg base CX0 1 fI fdI ["self", "index"] (spExI CB "index")) (bI : Binds K fdI ["self", "index"] [])
    (cR : C8.Cal P w K mg base 3 "read_step" (spReadStep K) []) (cL : C8.Cal P w K mg base 1 "is_list" (spIsList K) []) :
    FnOk P w K mg base (L2.CX P w) 4 f fd ["places", "things"] (spReadSteps K CB) := by
  refine F.okX scReadSteps (fun vs H Q E h => ?_) (fun cdv A outer s H vs Q E hr h => ?_)
  · obtain ⟨n, v, rfl, _⟩ := h
    rfl
  · obtain ⟨n, v, rfl, h⟩ := h
    have hun := hr.un
    have hu9 : (A.deeper (envOfC "read_steps" (defScope sReadSteps) s.heap.objs.size f cdv)).units + 9 < cLine := by omega
    refine ⟨_, pss_cons (ps_if (pt_not (pt_val (C8.pe_c cL hr (by decide) (by rfl) (pa_cons (pv 1) pa_nil))))
        (pss_one (ps_raise rfl (takes_of rfl rfl rfl rfl) (pmk_oex TB.ox TB.iC TB.tC GI (hr.mono (by decide)) bI .nil pass0 (by rfl) TB.gC (pa_cons pe_int pa_nil)))) pss_nil)
      (pss_cons (ps_set (i := 2) scReadSteps.nd rfl (Or.inl rfl) pe_snew)
      (pss_cons (ps_for (passes_of rfl) rfl (pi_enumA (by rfl) T.enumerate (pa_cons (pv 1) pa_nil)) (pg_tup (n := 2) rfl (pgs_cons (pg_name (i := 3) scReadSteps.nd rfl (Or.inl rfl)) (pgs_cons (pg_name (i := 4) scReadSteps.nd rfl (Or.inl rfl)) pgs_nil)))
        (pss_cons (ps_set (i := 5) scReadSteps.nd rfl (Or.inl rfl) (C8.pe_c cR hr (by decide) (by rfl) (pa_cons (pv 0) (pa_cons (pv 4) pa_nil))))
        (pss_cons (ps_if (PW.pt (pw_or (pt_cmp (pc_isN (pv 5))) (pw_or1 (pt_cmp (pc_sin hu9 (pv 5) (pv 2))))))
          (pss_one (ps_raise rfl (takes_of rfl rfl rfl rfl) (pmk_oex TB.ox TB.iC TB.tC GI (hr.mono (by decide)) bI .nil pass0 (by rfl) TB.gC (pa_cons (pv 3) pa_nil)))) pss_nil)
        (pss_one (ps_sput hu9 (pv 2) (pv 5) (by rfl))))))
      (pss_one (ps_ret (pe_callTy (call_list_sd (by rfl)) (by rfl) T.list boot_list (pa_cons (pv 2) pa_nil)))))), ?_⟩
    rcases h with ⟨hl, kb⟩ | ⟨a, xs, ss, rfl, hs, hnd, hsz, h⟩
    · refine ⟨_, rfl, v, false, rfl, hl, fun H1 e1 => ⟨_, rfl, iteT ?_⟩⟩
      exact ⟨by show 1 ≤ 1000; decide, raise_go (kb.ex e1)⟩
    obtain ⟨pre, r, rfl, hpre, hr0⟩ : ∃ (pre r : List V), xs = pre ++ r ∧ RdAll K n H pre ss ∧ ((r = [] ∧ ∀ H' p ys, Ex H H' → H p = none → H' p = some (.lst ys) → DpAll K H' ys (ss.map stD) → Q (.ref p) H') ∨
        ∃ (z : V) (r' : List V), r = z :: r' ∧ (RdNo K n H z ∨ ∃ d s, Dp K H z d ∧ rdStep n d = some s ∧ s ∈ ss) ∧ BadE CB "index" H (.int (ss.length : Nat)) E) := by
      rcases h with ⟨h1, h2⟩ | ⟨pre, z, r, h1, h2, h3, h4⟩
      · exact ⟨xs, [], (List.append_nil _).symm, h1, .inl ⟨rfl, h2⟩⟩
      · exact ⟨pre, z :: r, h1, h2, .inr ⟨z, r, rfl, h3, h4⟩⟩
    have hlen := hpre.len
    refine ⟨_, rfl, .ref a, true, rfl, lk_sq hs, fun H1 e1 => ⟨_, rfl, ?_⟩⟩
    refine iteF ?_
    refine fun p hp => ?_
    refine ⟨_, rfl, a, pre ++ r, rfl, for_enumA (K := K) (a := a) (xs := pre ++ r) (H0 := H) hs
      (fun i σ G => ∃ (x3 x4 x5 : Option V) (ks : List (St5 × Addr)), σ = [some (.int n), some (.ref a), some (.ref p), x3, x4, x5] ∧ Ex H1 G ∧ G p = some (SD P w p ks) ∧ KsOk K G ks ∧ ks.map (·.1) = ss.take i ∧ i ≤ ss.length) ?_ ?_ ?_ ?_⟩
    · exact ⟨none, none, none, [], rfl, Ex.new hp, upd_same, KsOk.nil, by rw [List.take_zero]; rfl, Nat.zero_le _⟩
    · rintro i σ G ⟨x3, x4, x5, ks, rfl, q1, _⟩
      exact e1.trans q1
    · rintro i x σ G T hx ⟨x3, x4, x5, ks, rfl, q1, q2, q3, q4, q5⟩ hT
      have eT := Ex.new (o := .tup [.int (i : Nat), x]) hT
      refine ⟨T, _, rfl, SqT.of upd_same, rfl, _, _, rfl, _, _, rfl, rfl, ?_⟩
      have hkl : ks.length ≤ 1000000 := by
        have := congrArg List.length q4
        rw [List.length_map, List.length_take] at this
        omega
      by_cases hlt : i < pre.length
      · rw [List.getElem?_append_left hlt] at hx
        obtain ⟨di, si, hxd, hrd, hsi⟩ := hpre.get hx
        refine ⟨_, rfl, _, rfl, n, x, rfl, .inr ⟨di, dp_ex (e1.trans (q1.trans eT)) _ _ hxd, fun G2 r eG2 hr2 => ?_⟩⟩
        rw [hrd] at hr2
        obtain ⟨b, c, rfl, _⟩ := stD_inv hr2
        have hp2 : G2 p = some (SD P w p ks) := eG2 _ _ (eT _ _ q2)
        have hk2 : KsOk K G2 ks := (q3.ex eT).ex eG2
        have hni : si ∉ ks.map (·.1) := by
          rw [q4]
          exact nodup_take hnd hsi
        refine ⟨_, rfl, _, rfl, ?_⟩
        refine iteF ?_
        refine ⟨_, rfl, _, rfl, _, ⟨p, ks, b, si, rfl, rfl, hp2, hk2, hr2, rfl⟩, _, rfl, ?_⟩
        rw [decide_eq_false hni]
        refine iteF ?_
        refine ⟨_, rfl, _, rfl, p, ks, b, si, rfl, rfl, hp2, hk2, hr2, hni, sz_m hkl, ?_⟩
        refine ⟨_, _, _, ks ++ [(si, b)], rfl, Ex.mut ((q1.trans eT).trans eG2) hp, upd_same, (ks_upd hp2 hk2).snoc (st_upd hp2 hr2), ?_, by omega⟩
        rw [List.map_append, q4, List.take_succ, hsi]
        rfl
      · have hie : i = pre.length := by omega
        rcases hr0 with ⟨rfl, _⟩ | ⟨z, r', rfl, hbad, kb⟩
        · rw [List.append_nil] at hx
          exact absurd (List.getElem?_eq_some_iff.mp hx).1 hlt
        · rw [hie, List.getElem?_append_right (Nat.le_refl _), Nat.sub_self] at hx
          cases (Option.some.inj hx)
          have il : i = ss.length := by omega
          subst il
          rcases hbad with hno | ⟨d, s', hzd, hrs, hms⟩
          · refine ⟨_, rfl, _, rfl, n, _, rfl, .inl ⟨hno.ex (e1.trans (q1.trans eT)), fun G2 eG2 => ?_⟩⟩
            refine ⟨_, rfl, _, rfl, iteT (iteT ?_)⟩
            exact ⟨_, rfl, by show 1 ≤ 1000; decide, raise_go (kb.ex (e1.trans (q1.trans (eT.trans eG2))))⟩
          · refine ⟨_, rfl, _, rfl, n, _, rfl, .inr ⟨d, dp_ex (e1.trans (q1.trans eT)) _ _ hzd, fun G2 r eG2 hr2 => ?_⟩⟩
            rw [hrs] at hr2
            obtain ⟨b, c, rfl, _⟩ := stD_inv hr2
            have hp2 : G2 p = some (SD P w p ks) := eG2 _ _ (eT _ _ q2)
            have hk2 : KsOk K G2 ks := (q3.ex eT).ex eG2
            have hmi : s' ∈ ks.map (·.1) := by
              rw [q4, List.take_length]
              exact hms
            refine ⟨_, rfl, _, rfl, ?_⟩
            refine iteF ?_
            refine ⟨_, rfl, _, rfl, _, ⟨p, ks, b, s', rfl, rfl, hp2, hk2, hr2, rfl⟩, _, rfl, ?_⟩
            rw [decide_eq_true hmi]
            refine iteT ?_
            exact ⟨_, rfl, by show 1 ≤ 1000; decide, raise_go (kb.ex (e1.trans (q1.trans (eT.trans eG2))))⟩
    · rintro σ G ⟨x3, x4, x5, ks, rfl, q1, q2, q3, q4, q5⟩
      have hrn : r = [] := by
        rw [List.length_append] at q5
        exact List.eq_nil_of_length_eq_zero (by omega)
      subst hrn
      rcases hr0 with ⟨_, k⟩ | ⟨z, r', h0, _⟩
      · rw [List.append_nil, hlen, List.take_length] at q4
        refine ⟨_, rfl, p, ks, rfl, q2, q3, fun l hl2 => ?_⟩
        have e2 := e1.trans q1
        refine k _ l _ (e2.trans (Ex.new hl2)) (fresh_back e2 hl2) upd_same ?_
        have q5 := ks_dpa (q3.ex (Ex.new (o := .lst (ks.map fun x => V.ref x.2)) hl2))
        rw [q4] at q5
        exact q5
      · cases h0
end
end AA

set_option Elab.async false
set_option linter.all false
set_option maxRecDepth 100000
set_option maxHeartbeats 4000000
/-! The class of webs. -/
namespace AA
open PySem PySem.Spec PyProof.Rows L2 Evl
theorem nps_ : ¬ (("_places" : Str) = "_steps") := by decide +kernel
theorem npk_ : ¬ (("_places" : Str) = "known") := by decide +kernel
theorem nsk_ : ¬ (("_steps" : Str) = "known") := by decide +kernel
def wf (n : Int) (l kd : Addr) : List (Str × V) := putF "known" (.ref kd) (putF "_steps" (.ref l) (putF "_places" (.int n) []))
theorem wf_places (n : Int) (l kd : Addr) : (wf n l kd).lookup ("_places" : Str) = some (.int n) := by
  unfold wf
  rw [lookup_putF, if_neg npk_, lookup_putF, if_neg nps_, lookup_putF, if_pos rfl]
theorem wf_steps (n : Int) (l kd : Addr) : (wf n l kd).lookup ("_steps" : Str) = some (.ref l) := by
  unfold wf
  rw [lookup_putF, if_neg nsk_, lookup_putF, if_pos rfl]
theorem wf_known (n : Int) (l kd : Addr) : (wf n l kd).lookup ("known" : Str) = some (.ref kd) := by
  unfold wf
  rw [lookup_putF, if_pos rfl]
theorem wf_no (n : Int) (l kd : Addr) {m : Str} (h1 : ¬ m = "_steps") (h2 : ¬ m = "_places") (h3 : ¬ m = "known") : (wf n l kd).lookup m = none := by
  unfold wf
  rw [lookup_putF, if_neg h3, lookup_putF, if_neg h1, lookup_putF, if_neg h2]
  all_goals rfl
/-- a web stands at x: n places, the steps ss in some list -/
def WebAt (K : PySem.W.Frag) (C : Addr) (H : Hp) (x : Addr) (n : Int) (ss : List St5) : Prop := ∃ (dx l kd : Addr) (ys : List V), H x = some (.ins C dx (wf n l kd)) ∧ H l = some (.lst ys) ∧ DpAll K H ys (ss.map stD)
theorem WebAt.ex {K : PySem.W.Frag} {C : Addr} {H H' : Hp} {x : Addr} {n : Int} {ss : List St5} (h : WebAt K C H x n ss) (e : Ex H H') : WebAt K C H' x n ss := by
  obtain ⟨dx, l, kd, ys, h1, h2, h3⟩ := h
  exact ⟨dx, l, kd, ys, e _ _ h1, e _ _ h2, dpa_ex e _ _ h3⟩
/-- what the top has written of the class -/
structure WebTxt (K : PySem.W.Frag) (mg : Str → Option Value) (C : Addr) : Prop where
  cl : Cls K C
  nP : NoAttr K C "_places"
  nS : NoAttr K C "_steps"
  nK : NoAttr K C "known"
  mgC : mg "Web" = some (.ref C)
theorem sqt_upd2 {K : PySem.W.Frag} {G : Hp} {p a : Addr} {o : HO} {xs : List V} (hp : ∀ xs u, G p ≠ some (.tup xs) ∧ G p ≠ some (.frz u (.tup xs))) (h : SqT K G a xs) : SqT K (upd G p o) a xs := by
  rcases h with h | h
  · refine .inl ?_
    rcases h with h | ⟨u, h⟩
    · exact .inl (by rw [upd_ne (fun z => (hp xs { cls := .none, data := .fields #[] }).1 (by rw [← z]; exact h))]; exact h)
    · exact .inr ⟨u, by rw [upd_ne (fun z => (hp xs u).2 (by rw [← z]; exact h))]; exact h⟩
  · exact .inr h
theorem sts_upd {K : PySem.W.Frag} {G : Hp} {p : Addr} {o : HO} (hp : ∀ xs u, G p ≠ some (.tup xs) ∧ G p ≠ some (.frz u (.tup xs))) : ∀ {vs : List V} {ss : List St5}, DpAll K G vs (ss.map stD) → DpAll K (upd G p o) vs (ss.map stD)
  | [], [], _ => .nil
  | v :: vs, s :: ss, h => by
    cases h with
    | cons h1 h2 =>
      obtain ⟨t, u, rfl, h3, h4⟩ := stD_inv h1
      exact .cons (stD_mk (sqt_upd2 hp h3) (sqt_upd2 hp h4)) (sts_upd hp h2)
  | [], _ :: _, h => by cases h
  | _ :: _, [], h => by cases h
theorem hid_up {H : Hp} {x : Addr} {o : HO} : Ex (hid x x H) (upd H x o) := fun z u h => by
  obtain ⟨h1, h2, _⟩ := hid_some h
  rw [upd_ne h2]
  exact h1
theorem hid_up2 {H H' : Hp} {x : Addr} {o : HO} (e : Ex (hid x x H) H') : Ex (hid x x H) (upd H' x o) := fun z u h => by
  rw [upd_ne (hid_some h).2.1]
  exact e _ _ h
section
variable {P : Program} {w : World} {K : PySem.W.Frag} {mg : Str → Option Value} {base : Heap}
/-- what Web is made of -/
def WbArg (K : PySem.W.Frag) (H : Hp) (v u : V) (BadP : Prop) (BadS : Nat → Prop) (Good : Int → List St5 → Prop) : Prop :=
  ((NotI K H v ∨ ∃ n, v = .int n ∧ n < 1) ∧ BadP) ∨ ∃ n, v = .int n ∧ 1 ≤ n ∧ StArg K n H u BadS (Good n)
theorem WbArg.ex {H H' : Hp} {v u : V} {B : Prop} {S : Nat → Prop} {G : Int → List St5 → Prop} (h : WbArg K H v u B S G) (e : Ex H H') : WbArg K H' v u B S G :=
  h.imp (fun z => ⟨z.1.imp (fun y => y.ex e) id, z.2⟩) (fun ⟨n, z1, z2, z3⟩ => ⟨n, z1, z2, z3.ex e⟩)
theorem WbArg.imp {H : Hp} {v u : V} {B B' : Prop} {S S' : Nat → Prop} {G G' : Int → List St5 → Prop} (h : WbArg K H v u B S G) (hb : B → B') (hs : ∀ i, S i → S' i) (hg : ∀ n ss, G n ss → G' n ss) : WbArg K H v u B' S' G' :=
  Or.imp (fun z => ⟨z.1, hb z.2⟩) (fun ⟨n, z1, z2, z3⟩ => ⟨n, z1, z2, z3.imp hs (hg n)⟩) h
def spWebInit (K : PySem.W.Frag) (C CP CS : Addr) : Sp := fun vs H Q E => ∃ (x dx : Addr) (v u : V), vs = [.ref x, v, u] ∧ H x = some (.ins C dx []) ∧
  WbArg K (hid x x H) v u (BadE CP "places" (hid x x H) v E) (fun i => BadE CS "index" (hid x x H) (.int (i : Nat)) E)
    (fun n ss => ∀ (H' : Hp) (ts : List St5) (dy l kd : Addr) (ys : List V), Ex (hid x x H) H' → H' x = some (.ins C dy (wf n l kd)) → H l = none → H' l = some (.lst ys) → DpAll K H' ys (ts.map stD) → ts.Perm ss → SrS ts → Q .non H')
theorem scWebInit : FnScope ["self", "places", "steps"] ["self", "places", "steps"] (defScope sWebInit) := ⟨rfl, rfl, rfl, by decide +kernel, rfl, by decide +kernel, by decide +kernel⟩
theorem ok_webInit {f C CP CS fP fS fR : Addr} {fd fdP fdR : FuncData} (F : L2.Fun K "__init__" "Web.__init__" sWebInit f fd) (B : Bn mg) (T : WebTxt K mg C) (TP : ExT K mg "BadPlaces" "places" CP fP) (GP : FnOk P w K mg base CX0 1 fP fdP ["self", "places"] (spExI CP "places")) (bP : Binds K fdP ["self", "places"] [])
    (cI : C8.Cal P w K mg base 1 "is_integer" (spIsIntegerV K) []) (GR : FnOk P w K mg base (L2.CX P w) 4 fR fdR ["places", "things"] (spReadSteps K CS)) (mR : mg "read_steps" = some (.ref fR)) (kR : PySem.W.keepIn K (.ref fR) = true) (bR : Binds K fdR ["places", "things"] []) :
    FnOk P w K mg base (L2.CX P w) 5 f fd ["self", "places", "steps"] (spWebInit K C CP CS) := by
  refine F.okX scWebInit (fun vs H Q E h => ?_) (fun cdv A outer s H vs Q E hr h => ?_)
  · obtain ⟨x, dx, v, u, rfl, _⟩ := h
    rfl
  · obtain ⟨x, dx, v, u, rfl, hx, h⟩ := h
    refine ⟨_, pss_cons (ps_if (PW.pt (pw_or (pt_not (pt_val (C8.pe_c cI hr (by decide) (by rfl) (pa_cons (pv 1) pa_nil)))) (pw_or1 (pt_cmpR op_lt (pv 1) pe_int (nomark _)))))
        (pss_one (ps_raise rfl (takes_of rfl rfl rfl rfl) (pmk_oex TP.ox TP.iC TP.tC GP (hr.mono (by decide)) bP .nil pass0 (by rfl) TP.gC (pa_cons (pv 1) pa_nil)))) pss_nil)
      (pss_cons (ps_fld (pv 0) (pv 1) rfl)
      (pss_cons (ps_fld (pv 0) (pe_callB (cr_sortSt hr) (by rfl) B.sorted boot_sorted (pa_cons (pe_callS (E := WE fun cls d _ H => E cls d H) GR (hr.mono (by decide)) (by rfl) mR kR bR (fun σ => passAt (takes_of rfl rfl rfl rfl) σ) (pa_cons (pv 1) (pa_cons (pv 2) pa_nil))) pa_nil)) rfl)
      (pss_one (ps_fld (pv 0) pe_dnewK rfl)))), ?_⟩
    rcases h with ⟨hb, kb⟩ | ⟨n, rfl, hn, hst⟩
    · have kb' := kb.ex (hid_ex (H := H))
      rcases hb with hni | ⟨n, rfl, hn⟩
      · refine ⟨_, rfl, v, rfl, .inl ⟨hni.ex hid_ex, ⟨_, rfl, iteT (iteT ?_)⟩⟩⟩
        exact ⟨_, rfl, by show 1 ≤ 1000; decide, raise_go kb'⟩
      · refine ⟨_, rfl, .int n, rfl, .inr ⟨n, rfl, ⟨_, rfl, iteF ?_⟩⟩⟩
        refine ⟨_, rfl, _, _, rfl, rfl, _, rfl, ?_⟩
        refine dec_ite (fun z => ?_) (fun z => ?_)
        · exact ⟨_, rfl, by show 1 ≤ 1000; decide, raise_go kb'⟩
        · omega
    refine ⟨_, rfl, .int n, rfl, .inr ⟨n, rfl, ⟨_, rfl, iteF ?_⟩⟩⟩
    refine ⟨_, rfl, _, _, rfl, rfl, _, rfl, ?_⟩
    refine dec_ite (fun z => ?_) (fun _ => ?_)
    · omega
    refine ⟨_, rfl, _, rfl, x, C, dx, _, rfl, hx, T.cl, T.nP, by show 0 < 1000; decide, ?_⟩
    refine ⟨_, rfl, _, rfl, n, u, rfl, (hst.ex hid_up).imp (fun i z => z.ex hid_up) (fun ss k H1 p ys e1 hp0 hp hys => ?_)⟩
    refine ⟨p, ys, ss, rfl, SqL.of hp, hys, fun zs ts l hz hts hD hso hl2 => ?_⟩
    have hx1 : H1 x = some (.ins C dx (putF "_places" (.int n) [])) := e1 _ _ upd_same
    have hxl : x ≠ l := ne_of_none hx1 hl2
    refine ⟨_, rfl, x, C, dx, _, rfl, by rw [upd_ne hxl]; exact hx1, T.cl, T.nS, by show 1 < 1000; decide, ?_⟩
    have hD1 := dpa_ex (Ex.new (o := .lst zs) hl2) _ _ hD
    have e1' : Ex (hid x x H) (upd H1 l (.lst zs)) := (hid_up.trans e1).trans (Ex.new hl2)
    have hx2 : upd H1 l (.lst zs) x = some (.ins C dx (putF "_places" (.int n) [])) := by
      rw [upd_ne hxl]
      exact hx1
    have hl3 : upd H1 l (.lst zs) l = some (.lst zs) := upd_same
    have l0 : H l = none := by
      have := fresh_back e1 hl2
      rw [upd_ne hxl.symm] at this
      exact this
    generalize upd H1 l (.lst zs) = G1 at *
    have hnt : ∀ (f : List (Str × V)) (G : Hp), G x = some (.ins C dx f) → ∀ (xs : List V) (u : Obj), G x ≠ some (.tup xs) ∧ G x ≠ some (.frz u (.tup xs)) := fun f G hG xs u => by
      rw [hG]
      exact ⟨(fun z => nomatch z), (fun z => nomatch z)⟩
    intro kd hkd
    have hkx : x ≠ kd := fun z => by
      rw [← z, upd_same] at hkd
      cases hkd
    have hkl : l ≠ kd := fun z => by
      rw [← z, upd_ne hxl.symm, hl3] at hkd
      cases hkd
    refine ⟨_, rfl, x, C, dx, _, rfl, by rw [upd_ne hkx]; exact upd_same, T.cl, T.nK, by show 2 < 1000; decide, ?_⟩
    refine k _ ts dx l kd zs (hid_up2 ((hid_up2 e1').trans (Ex.new hkd))) upd_same l0 ?_ ?_ hts hso
    · rw [upd_ne hxl.symm, upd_ne hkl, upd_ne hxl.symm]
      exact hl3
    · have hx3 : ∀ o : HO, upd (upd G1 x (.ins C dx (putF "_steps" (.ref l) (putF "_places" (.int n) [])))) kd o x = some (.ins C dx (putF "_steps" (.ref l) (putF "_places" (.int n) []))) := fun o => by
        rw [upd_ne hkx]
        exact upd_same
      exact sts_upd (hnt _ _ (hx3 _)) (dpa_ex (Ex.new hkd) _ _ (sts_upd (hnt _ _ hx2) hD1))
def spPlaces (K : PySem.W.Frag) (C : Addr) : Sp := fun vs H Q _ => ∃ (x : Addr) (n : Int) (ss : List St5), vs = [.ref x] ∧ WebAt K C H x n ss ∧ Q (.int n) H
theorem scPlaces : FnScope ["self"] ["self"] (defScope sWebPlaces) := ⟨rfl, rfl, rfl, by decide +kernel, rfl, by decide +kernel, by decide +kernel⟩
theorem ok_places {f C : Addr} {fd : FuncData} (F : L2.Fun K "places" "Web.places" sWebPlaces f fd) (T : WebTxt K mg C) : FnOk P w K mg base CX0 1 f fd ["self"] (spPlaces K C) := by
  refine F.ok scPlaces (fun vs H Q E h => ?_) (fun cdv A outer s H vs Q E hr h => ?_)
  · obtain ⟨x, n, ss, rfl, _⟩ := h
    rfl
  · obtain ⟨x, n, ss, rfl, ⟨dx, l, kd, ys, h1, h2, h3⟩, k⟩ := h
    exact ⟨_, pss_one (ps_ret (pe_fld (pv 0) rfl)), _, rfl, x, C, dx, _, _, rfl, h1, T.cl, T.nP, wf_places _ _ _, k⟩
def spSteps (K : PySem.W.Frag) (C : Addr) : Sp := fun vs H Q _ => ∃ (x : Addr) (n : Int) (ss : List St5), vs = [.ref x] ∧ WebAt K C H x n ss ∧ ∀ p ys, H p = none → DpAll K H ys (ss.map stD) → Q (.ref p) (upd H p (.lst ys))
theorem scSteps : FnScope ["self"] ["self"] (defScope sWebSteps) := ⟨rfl, rfl, rfl, by decide +kernel, rfl, by decide +kernel, by decide +kernel⟩
theorem ok_steps {f C : Addr} {fd : FuncData} (F : L2.Fun K "steps" "Web.steps" sWebSteps f fd) (B : Bn mg) (T : WebTxt K mg C) : FnOk P w K mg base CX0 1 f fd ["self"] (spSteps K C) := by
  refine F.ok scSteps (fun vs H Q E h => ?_) (fun cdv A outer s H vs Q E hr h => ?_)
  · obtain ⟨x, n, ss, rfl, _⟩ := h
    rfl
  · obtain ⟨x, n, ss, rfl, ⟨dx, l, kd, ys, h1, h2, h3⟩, k⟩ := h
    refine ⟨_, pss_one (ps_ret (pe_callTy call_list_of (by rfl) B.list boot_list (pa_cons (pe_fld (pv 0) rfl) pa_nil))), ?_⟩
    exact ⟨_, rfl, x, C, dx, _, _, rfl, h1, T.cl, T.nS, wf_steps _ _ _, l, ys, rfl, .inl (SqL.of h2), fun p hp => k p ys hp h3⟩
/-- webs beside one another -/
theorem sts_eqv : ∀ ss ts : List St5, PyData.eqvAll (ss.map stD) (ts.map stD) = decide (ss = ts)
  | [], [] => rfl
  | [], _ :: _ => rfl
  | _ :: _, [] => rfl
  | s :: r, t :: q => by
    show (PyData.eqv (stD s) (stD t) && PyData.eqvAll (r.map stD) (q.map stD)) = decide (s :: r = t :: q)
    rw [stD_eqv, sts_eqv r q, Bool.eq_iff_iff]
    simp
def spEqV (K : PySem.W.Frag) (C : Addr) : Sp := fun vs H Q _ => ∃ (x : Addr) (v : V) (n : Int) (ss : List St5), vs = [.ref x, v] ∧ WebAt K C H x n ss ∧
  ((∃ t : Value, TyF K H v t ∧ PySem.W.kitOne K t (.ref C) = some false ∧ Q (.bl false) H) ∨ ∃ (y : Addr) (m : Int) (ts : List St5), v = .ref y ∧ WebAt K C H y m ts ∧ ∀ H', Ext H H' → Q (.bl (decide (n = m) && decide (ss = ts))) H')
theorem scWebEq : FnScope ["self", "other"] ["self", "other"] (defScope sWebEq) := ⟨rfl, rfl, rfl, by decide +kernel, rfl, by decide +kernel, by decide +kernel⟩
theorem ok_webEqV {f C : Addr} {fd : FuncData} (F : L2.Fun K "__eq__" "Web.__eq__" sWebEq f fd) (B : Bn mg) (T : WebTxt K mg C) (IC : InsK K C) (hC : PySem.W.kitOne K (.ref C) (.ref C) = some true) : FnOk P w K mg base CX0 1 f fd ["self", "other"] (spEqV K C) := by
  refine F.ok scWebEq (fun vs H Q E h => ?_) (fun cdv A outer s H vs Q E hr h => ?_)
  · obtain ⟨x, v, n, ss, rfl, _⟩ := h
    rfl
  · obtain ⟨x, v, n, ss, rfl, ⟨dx, l, kd, ys, h1, h2, h3⟩, h⟩ := h
    refine ⟨_, pss_one (ps_ret (pe_and (pe_callB call_is1 (by rfl) B.isinstance boot_isinstance (pa_cons (pv 1) (pa_cons (pe_glob (v := .ref C) (by rfl) T.mgC rfl) pa_nil)))
      (pe_and (pe_cmpR op_eq (pe_fld (pv 0) rfl) (pe_fld (pv 1) rfl) (nomark _)) (pe_one (pe_cmpR (op_eqD hr.units) (pe_fld (pv 0) rfl) (pe_fld (pv 1) rfl) (nomark _)))))), ?_⟩
    rcases h with ⟨t, ht, hk, k⟩ | ⟨y, m, ts, rfl, ⟨dy, l2, kd2, ys2, g1, g2, g3⟩, k⟩
    · exact ⟨_, rfl, v, _, t, .ref C, false, rfl, .own C, ht, hk, false, rfl, iteF k⟩
    · refine ⟨_, rfl, .ref y, _, .ref C, .ref C, true, rfl, .own C, .inl (.base (.ins g1 IC.cl IC.ha IC.hn IC.ht IC.hm)), hC, true, rfl, ?_⟩
      refine iteT ?_
      refine ⟨_, rfl, x, C, dx, _, _, rfl, h1, T.cl, T.nP, wf_places _ _ _, _, rfl, y, C, dy, _, _, rfl, g1, T.cl, T.nP, wf_places _ _ _, rfl, _, rfl, ?_⟩
      have k0 := k H Ext.rfl'
      by_cases hnm : n = m
      · rw [decide_eq_true hnm] at k0
        rw [decide_eq_true (by rw [hnm])]
        refine iteT ?_
        refine ⟨_, rfl, x, C, dx, _, _, rfl, h1, T.cl, T.nS, wf_steps _ _ _, _, rfl, y, C, dy, _, _, rfl, g1, T.cl, T.nS, wf_steps _ _ _, ?_⟩
        have hD : Dp K H (.ref l) (.list (ss.map stD)) := .lst (SqL.of h2) h3
        have hD2 : Dp K H (.ref l2) (.list (ts.map stD)) := .lst (SqL.of g2) g3
        refine ⟨_, _, hD, hD2, stDs_shaped ss, stDs_shaped ts, ?_⟩
        rw [show PyData.eqv (.list (ss.map stD)) (.list (ts.map stD)) = decide (ss = ts) from sts_eqv ss ts]
        exact k0
      · rw [decide_eq_false hnm] at k0
        rw [decide_eq_false (fun z => hnm (V.int.inj z))]
        exact iteF k0
end
end AA

set_option Elab.async false
set_option linter.all false
set_option maxRecDepth 100000
set_option maxHeartbeats 4000000
/-! An own class's == and != with a thing of any kind. -/
namespace AA
open PySem PySem.Spec PyProof.Rows L2 Evl
/-- the type of a thing -/
inductive Ty6 (H : Hp) : V → Value → Prop
  | non : Ty6 H .non (.type "NoneType")
  | int (i : Int) : Ty6 H (.int i) (.type "int")
  | str (x : Str) : Ty6 H (.str x) (.type "str")
  | lst {a : Addr} {xs : List V} (e : H a = some (.lst xs)) : Ty6 H (.ref a) (.type "list")
  | tup {a : Addr} {xs : List V} (e : H a = some (.tup xs)) : Ty6 H (.ref a) (.type "tuple")
  | dK {a : Addr} (e : H a = some (.dK [])) : Ty6 H (.ref a) (.type "dict")
  | ins {a C dx : Addr} {fs : List (Str × V)} (e : H a = some (.ins C dx fs)) : Ty6 H (.ref a) (.ref C)
theorem Ty6.ex {H H' : Hp} {v : V} {t : Value} (e : Ex H H') (h : Ty6 H v t) : Ty6 H' v t := by
  cases h with
  | non => exact .non
  | int i => exact .int i
  | str x => exact .str x
  | lst h => exact .lst (e _ _ h)
  | tup h => exact .tup (e _ _ h)
  | dK h => exact .dK (e _ _ h)
  | ins h => exact .ins (e _ _ h)
section
variable {X : Cx} {pins : List (Addr × Obj)} {σ : L2.St} {H : Hp} {s : Shared}
theorem ty6_looks {M : Model} {x : V} {u T : Value} (I : Inv X pins σ H s) (r : RelV x u) (t : Ty6 H x T) : PySem.W.Looks M s.heap (typeOf u) T := by
  cases t with
  | non =>
    cases (show u = Value.none from r)
    exact PySem.W.Looks.of_pure rfl
  | int i =>
    obtain ⟨t, rfl⟩ := (show ∃ t, u = Value.int i t from r)
    exact PySem.W.Looks.of_pure rfl
  | str x =>
    obtain ⟨t, rfl⟩ := (show ∃ t, u = Value.str x t from r)
    exact PySem.W.Looks.of_pure rfl
  | lst e =>
    cases (show u = Value.ref _ from r)
    obtain ⟨_, its, n, _, h1⟩ := (show ObjOk X.prog X.w H s.heap _ (.lst _) from I.hok _ _ e)
    exact fun A Q E s' k q => wpAny_typeOf_ref (k _ _ h1) q
  | tup e =>
    cases (show u = Value.ref _ from r)
    obtain ⟨_, its, _, ob, h1, h2, _⟩ := (show ObjOk X.prog X.w H s.heap _ (.tup _) from I.hok _ _ e)
    exact fun A Q E s' k q => wpAny_typeOf_ref (k _ _ h1) (by rw [h2]; exact q)
  | dK e =>
    cases (show u = Value.ref _ from r)
    obtain ⟨_, _, vs, _, o, es, ep, h1, h2, _⟩ := (show ObjOk X.prog X.w H s.heap _ (.dK []) from I.hok _ _ e)
    exact fun A Q E s' k q => wpAny_typeOf_ref (k _ _ h1) (by rw [h2.1]; exact q)
  | ins e =>
    cases (show u = Value.ref _ from r)
    obtain ⟨mA, J, _⟩ := ins_get I.hok e
    obtain ⟨od, J, _⟩ := J.look
    exact J.type
end
section
variable {prog : Program} {w : World} {A : Around} {E : Value → Shared → Prop} {s : Shared} {K : PySem.W.Frag} {x C f : Addr} {ox : Obj} {od : Option Obj}
theorem ifBoundB {M : Model} {name : Str} {id : String} {args : List Value} {Q : Option Value → Shared → Prop} (X : K.In s.heap) (I : PySem.W.InstAt s.heap x ox C od) (hs : PySem.W.findIn K (.ref C) name = some (some (.builtin id)))
    (hb : ∀ v, bindSpecial (.builtin id) v = pure (.builtin id, [v])) (h : wpAny M A (call (.builtin id) (.ref x :: args)) (fun v => Q (some v)) E s) : wpAny M A (callSpecialIfBound? (.ref x) name args) Q E s := by
  simp only [callSpecialIfBound?, bindSpecialIfBound?]
  refine wpAny_holding (wpAny_bind (wpAny_bind (wpAny_bind (I.type.here ((PySem.W.looks_findIn X hs).here ?_)))))
  refine wpAny_bind (wpAny_askSetting (wpAny_ite ?_))
  have fin : wpAny M A (call (.builtin id) ([.ref x] ++ args) >>= fun v => pure (some v)) Q E s := wpAny_bind (wpAny_mono h (fun v s' h' => wpAny_pure h') fun _ _ h' => h')
  split
  · exact wpAny_bind ((PySem.W.Looks.of_pure (hb _)).here (wpAny_pure (by exact fin)))
  · exact wpAny_tryCatch (wpAny_bind ((PySem.W.Looks.of_pure (hb _)).here (wpAny_pure (by exact fin))))
theorem ne_entry {b : Value} {Q : Fin → Shared → Prop} (X : K.In s.heap) (I : PySem.W.InstAt s.heap x ox C od) (hs : PySem.W.findIn K (.ref C) "__eq__" = some (some (.ref f))) (hf : PySem.W.isFn K (.ref f) = true) (hu : A.units < cLine)
    (hcall : wpAny (model prog w) A (call (.ref f) [.ref x, b]) (fun v s' => ∃ r, v = .bool r ∧ Q (.done (.ret (.bool (!r)))) s') E s) :
    wpAny (model prog w) A (Builtin.«object.__ne__» ⟨[.ref x, b], []⟩) Q E s := by
  unfold Builtin.«object.__ne__»
  repeat (first
    | with_reducible refine wpAny_cRoomFor hu ?_
    | (refine wpAny_bind (m := callSpecialIfBound? (.ref x) (Str.ofString "__eq__") [b])
        (PySem.W.ifBound_K X I hs hf (wpAny_mono hcall (fun v s' hr => by
          obtain ⟨r, rfl, hq⟩ := hr
          repeat (first | exact hq | exact wpAny_pure hq | exact wpAny_truthy_bool hq | (refine wpAny_bind (m := truthy (.bool _)) (wpAny_truthy_bool ?_)) | wp_step)) fun _ _ e => e)))
    | wp_step)
theorem ne_bind (v : Value) : bindSpecial (.builtin "object.__ne__") v = pure (.builtin "object.__ne__", [v]) := F.cmp_object.ne.bind v
/-- x != b where x's class has an own == -/
theorem cmpNe_K {h₀ : Heap} {L : Addr} {m : Str → Option Value} {b tb : Value} {Q : Value → Shared → Prop} (hu : A.units + 1 < cLine) (F : Fr h₀ L s.heap m) (X₀ : K.In h₀) (I : PySem.W.InstAt s.heap x ox C od) (hb : PySem.W.Looks (model prog w) s.heap (typeOf b) tb) (hn : PySem.W.notFirst K C tb = true)
    (hne : PySem.W.findIn K (.ref C) "__ne__" = some (some (.builtin "object.__ne__"))) (hs : PySem.W.findIn K (.ref C) "__eq__" = some (some (.ref f))) (hf : PySem.W.isFn K (.ref f) = true) (hm : PySem.W.mroIn K C (.type "object") = some true)
    (h : wpAny (model prog w) A.in1 (call (.ref f) [.ref x, b]) (fun v s' => ∃ r, v = .bool r ∧ Q (.bool (!r)) s') E s) : wpAny (model prog w) A (richCompare .NotEq (.ref x) b) Q E s := by
  have X := X₀.keeps F.keep
  have sub : PySem.W.Looks (model prog w) s.heap (isInstance (.ref x) (.type "object")) true := I.type.andThen (PySem.W.looks_mroIn X hm)
  have one : wpAny (model prog w) A (tryCompare (.ref x) (cmpInfo .NotEq).2.1 b) (fun r s' => ∃ v, r = some v ∧ Q v s') E s := by
    unfold tryCompare
    refine wpAny_bind (ifBoundB X I hne ne_bind (wpAny_call (codeAny_call_builtin PySem.F.cmp_object.ne.plain PySem.F.cmpEntry_ne
      (PySem.W.check_slot PySem.F.cmpKind_ne PySem.F.cmpSplit_ne sub (PySem.F.cmpArgs_ne _ _) (ne_entry (A := A.in1) X I hs hf hu (wpAny_mono h (fun v s' hv => ?_) fun _ _ e => e))))))
    obtain ⟨r, rfl, hq⟩ := hv
    first | exact ⟨r, rfl, wpAny_pure ⟨_, rfl, hq⟩⟩ | exact ⟨r, rfl, wpAny_pure (wpAny_pure ⟨_, rfl, hq⟩)⟩ | exact ⟨r, rfl, ⟨_, rfl, hq⟩⟩
  unfold richCompare
  simp only [oneThing_ref]
  refine wpAny_holding (wpAny_bind (wpAny_cRoomFor (Nat.lt_of_succ_lt hu) ?_))
  refine wpAny_bind (I.type.here (wpAny_bind (hb.here ?_)))
  split
  · rename_i q
    have e : PySem.W.subIn K tb (.ref C) = some false := by
      rcases Bool.or_eq_true_iff.mp hn with e | e
      · rw [beq_iff_eq.mp e] at q; simp at q
      · exact beq_iff_eq.mp e
    refine wpAny_bind ((PySem.W.looks_subIn X e).here ?_)
    simp only [Bool.false_eq_true, if_false]
    refine wpAny_bind (wpAny_mono one (fun r s' z => ?_) fun _ _ e => e)
    obtain ⟨v, rfl, hq⟩ := z
    exact wpAny_pure hq
  · refine wpAny_bind (wpAny_pure ?_)
    simp only [Bool.false_eq_true, if_false]
    refine wpAny_bind (wpAny_mono one (fun r s' z => ?_) fun _ _ e => e)
    obtain ⟨v, rfl, hq⟩ := z
    exact wpAny_pure hq
end
section
variable {X : Cx} {n : Nat} {C f : Addr} {fd : FuncData} {ps : List Str} {sp : Sp}
/-- x == y, x != y where x is an instance of C, whose own == keeps sp -/
def rCmpV (K : PySem.W.Frag) (C : Addr) (sp : Sp) (ng : Bool) : R2 := fun x y H Q => ∃ (a dx : Addr) (fs : List (Str × V)) (T : Value), x = .ref a ∧ H a = some (.ins C dx fs) ∧ Ty6 H y T ∧ PySem.W.notFirst K C T = true ∧ sp [x, y] H (fun v H' => ∃ r, v = .bl r ∧ Q (.bl (r ^^ ng)) H') E0
theorem run_eqV (F : FnOk X.prog X.w X.K X.mg X.base CX0 n f fd ps sp) (hb : Binds X.K fd ps []) {A : Around} {pins : List (Addr × Obj)} {s : Shared} {σ : L2.St} {H : Hp} {a : Addr} {y : V} {u : Value} {Q : Bool → Hp → Prop} (sb : Sub X n A) (I : Inv X pins σ H s) (ry : RelV y u)
    (hsp : sp [.ref a, y] H (fun v H' => ∃ r, v = .bl r ∧ Q r H') E0) : wpAny (model X.prog X.w) A (call (.ref f) [.ref a, u]) (fun v s' => ∃ r, v = .bool r ∧ ∃ H', Inv X pins σ H' s' ∧ Q r H') X.xe s := by
  have e0 : Env0 X.prog X.w X.K X.mg X.base A X.stack s H := by
    have e := I.env0
    exact ⟨by rw [sb.fr]; exact e.frames, e.mod, e.bs, e.bsz, e.funs, e.frf, e.hok, e.bare⟩
  have hl := F.len _ _ _ _ hsp
  have r2 : Vals [V.ref a, y] [Value.ref a, u] := .cons rfl (.cons ry .nil)
  refine wpAny_call (codeAny_mono (F.run A X.stack s H ⟨[.ref a, u], []⟩ [.ref a, u] [.ref a, y] _ E0 sb.room e0 (by
    have := hb s [.ref a, u] I.kIn (by simpa using hl)
    simpa using this) r2 hsp) fun r s' hq => ?_)
  cases r with
  | error e => exact (show False from hq).elim
  | ok fl =>
    cases fl with
    | ret w =>
      obtain ⟨z, H', I', rz, r, ez, ex⟩ := I.after hq
      subst ez
      cases rz
      exact ⟨r, rfl, H', I', ex⟩
    | next => exact False.elim hq
    | brk => exact False.elim hq
    | cont => exact False.elim hq
theorem op_eqV (F : FnOk X.prog X.w X.K X.mg X.base CX0 n f fd ps sp) (hb : Binds X.K fd ps []) (hs : PySem.W.findIn X.K (.ref C) "__eq__" = some (some (.ref f))) (hf : PySem.W.isFn X.K (.ref f) = true) (hr : Room n X.A) : OpR X (compareOp .Eq) (rCmpV X.K C sp false) := by
  intro pins s σ H x y v u Q I rx ry hq
  obtain ⟨a, dx, fs, T, rfl, ha, hT, hn, hsp⟩ := hq
  cases (show v = Value.ref a from rx)
  obtain ⟨mA, J, _⟩ := ins_get I.hok ha
  obtain ⟨od, J, _⟩ := J.look
  obtain ⟨m, hF⟩ := I.fr
  have sb : Sub X n X.A := ⟨hr, rfl⟩
  show wpAny (model X.prog X.w) X.A (richCompare .Eq (.ref a) u) (EP X pins σ Q) X.xe s
  refine PySem.W.cmp_K (op := .Eq) (tb := T) sb.room.units0 hF I.ok.mod.kin J (ty6_looks I ry hT) hn hs hf ?_
  refine wpAny_mono (run_eqV F hb sb I ry (Q := fun r H' => Q (.bl (r ^^ false)) H') hsp) (fun v s' hv => ?_) fun _ _ e => e
  obtain ⟨r, rfl, H', I', q⟩ := hv
  rw [Bool.xor_false] at q
  exact ⟨.bl r, H', I', rfl, q⟩
theorem op_neV (F : FnOk X.prog X.w X.K X.mg X.base CX0 n f fd ps sp) (hb : Binds X.K fd ps []) (hs : PySem.W.findIn X.K (.ref C) "__eq__" = some (some (.ref f))) (hf : PySem.W.isFn X.K (.ref f) = true)
    (hne : PySem.W.findIn X.K (.ref C) "__ne__" = some (some (.builtin "object.__ne__"))) (hm : PySem.W.mroIn X.K C (.type "object") = some true) (hr : Room (n + 1) X.A) : OpR X (compareOp .NotEq) (rCmpV X.K C sp true) := by
  intro pins s σ H x y v u Q I rx ry hq
  obtain ⟨a, dx, fs, T, rfl, ha, hT, hn, hsp⟩ := hq
  cases (show v = Value.ref a from rx)
  obtain ⟨mA, J, _⟩ := ins_get I.hok ha
  obtain ⟨od, J, _⟩ := J.look
  obtain ⟨m, hF⟩ := I.fr
  have sb : Sub X (n + 1) X.A := ⟨hr, rfl⟩
  have hun := hr.un
  show wpAny (model X.prog X.w) X.A (richCompare .NotEq (.ref a) u) (EP X pins σ Q) X.xe s
  refine cmpNe_K (tb := T) (by omega) hF I.ok.mod.kin J (ty6_looks I ry hT) hn hne hs hf hm ?_
  refine wpAny_mono (run_eqV F hb sb.in1 I ry (Q := fun r H' => Q (.bl (r ^^ true)) H') hsp) (fun v s' hv => ?_) fun _ _ e => e
  obtain ⟨r, rfl, H', I', q⟩ := hv
  rw [Bool.xor_true] at q
  exact ⟨r, rfl, .bl (!r), H', I', rfl, q⟩
end
end AA

set_option Elab.async false
set_option linter.all false
set_option maxRecDepth 100000
set_option maxHeartbeats 4000000
/-! xs[::-1]; name = {k: v for ..}; a walk over zip. -/
namespace AA
open PySem PySem.Spec PyProof.Rows L2 Evl
theorem vals_rev : ∀ {xs : List V} {us : List Value}, Vals xs us → Vals xs.reverse us.reverse
  | _, _, .nil => .nil
  | x :: xs, u :: us, .cons r t => by
    rw [List.reverse_cons, List.reverse_cons]
    exact (vals_rev t).append (.cons r .nil)
/-- xs[::-1] of a list -/
theorem pe_rev {X : Cx} {e st : Expr} {te ts : TE} {p2 pos : Pos} (he : PE X e te) (hst : PE X st ts) : PE X (.Subscript e (.Slice none none (some st) p2) pos)
    (fun σ H Q => te σ H fun x H1 => tPart ts σ H1 fun k H2 => k = some (-1) ∧ ∃ a xs, x = .ref a ∧ SqL X.K H2 a xs ∧ ∀ p, H2 p = none → Q (.ref p) (upd H2 p (.lst xs.reverse))) := by
  refine ⟨fun pins s σ H Q I h => ?_⟩
  refine Subscript_ (thn (he.run pins s σ H _ I h) fun v s1 ⟨x, H1, I1, r1, q1⟩ => ?_)
  refine wpAny_Slice (thn ((po_none (X := X)).run pins s1 σ H1 (fun l G => l = none ∧ tPart ts σ G fun k H2 => k = some (-1) ∧ ∃ a xs, x = .ref a ∧ SqL X.K H2 a xs ∧ ∀ p, H2 p = none → Q (.ref p) (upd H2 p (.lst xs.reverse))) I1 ⟨rfl, q1⟩) fun vl s2 ⟨l, H2, I2, pl, el, q2⟩ => thn ((po_none (X := X)).run pins s2 σ H2 (fun l G => l = none ∧ tPart ts σ G fun k H2 => k = some (-1) ∧ ∃ a xs, x = .ref a ∧ SqL X.K H2 a xs ∧ ∀ p, H2 p = none → Q (.ref p) (upd H2 p (.lst xs.reverse))) I2 ⟨rfl, q2⟩) fun vu s3 ⟨u, H3, I3, pu, eu, q3⟩ => thn ((po_some hst).run pins s3 σ H3 _ I3 q3) fun vk s4 ⟨k, H4, I4, pk, ek, q4⟩ => ?_)
  subst el eu ek
  obtain ⟨a, xs, rfl, hx, q⟩ := q4
  cases r1
  have I5 : Inv X pins σ H4 { s4 with heap := s4.heap.push { cls := .type "slice", data := .fields #[vl, vu, vk] } } := I4.kept (t' := s4.toks) fun b ob q => Heap.get?_push_of_some _ q
  obtain ⟨its, r, ht, hz⟩ := I5.list hx
  have hlen := r.length
  refine tail_any (ops := [.ref a, .ref s4.heap.objs.size]) ht.isList.typeIs slot_list_getitem.lookup ?_ (by with_unfolding_all rfl)
  refine wpAny_getItem_list_slice ht.isList (Heap.IsSliceOf.new ..) pl pu pk (by simp) ?_ (by rw [List.size_toArray] <;> omega)
  rw [PySem.W.krv_pick]
  refine ⟨.ref _, _, I5.laid (o := .lst xs.reverse) (fun b ob q => Heap.get?_push_of_some _ q) (Nat.le_refl _) ?_, rfl, q _ (I5.hok.fresh (Nat.le_refl _))⟩
  exact ⟨by rw [List.length_reverse]; exact hz, _, 0, vals_rev r, Heap.get?_push_size _ rfl⟩
theorem sw_trueD {k v : Expr} {gs : List Comprehension} {scope : Scope} {pos py : Pos} {y : Str} {l : Nat} {env : Env} (hk : env.scope.kind = .function) (hy : env.scope.names.lookup y = some .local) (hl : (py.line == pos.line) = true)
    (ha : (scope.names.any fun (n, k) => n == y && (k == .local || k == .cell)) = false) : swapsWith (.DictComp k v gs scope pos) (some (.Name y py)) l env = pure true := by
  have ky : env.kindOf y = some .local := hy
  have hb : env.blockKind = .function := by
    unfold Env.blockKind
    rw [hk]
    rfl
  unfold swapsWith
  simp only [hb, ky, ha, Expr.pos, hl]
  rfl
theorem ps_setDc {X : Cx} {i : Nat} {y : Str} {py : Pos} {kx vx tg iter : Expr} {ifs : List Expr} {scope : Scope} {own : List (Str × Nat)} {pos spos : Pos} {wi : TI} {g : TG} {tt : TT} {tk tv : TE} (hc : X.calm = true) (hN : X.N.Nodup) (hy : X.N[i]? = some y) (hyl : X.env.scope.names.lookup y = some .local)
    (hsw : swapsWith (.DictComp kx vx [⟨tg, iter, ifs, 0⟩] scope pos) (some (.Name y py)) spos.line X.env = pure true) (hi : PI X tg iter wi) (ok : BlkOk X.N X.env.scope scope own)
    (hg : ∀ (s : Shared) (H : Hp) (C : Addr) (cl : List (Str × Addr)) (fp : List Addr), PG (X.blk s H scope (compEnvC scope cl C X.env) fp) tg g) (ht : ∀ (s : Shared) (H : Hp) (C : Addr) (cl : List (Str × Addr)) (fp : List Addr), PTs (X.blk s H scope (compEnvC scope cl C X.env) fp) ifs tt)
    (hk : ∀ (s : Shared) (H : Hp) (C : Addr) (cl : List (Str × Addr)) (fp : List Addr), PE (X.blk s H scope (compEnvC scope cl C X.env) fp) kx tk)
    (he : ∀ (s : Shared) (H : Hp) (C : Addr) (cl : List (Str × Addr)) (fp : List Addr), PE (X.blk s H scope (compEnvC scope cl C X.env) fp) vx tv) (hs : ∀ x, foldedSetIterable iter X.env x = pure x := by intro _; rfl) :
    PS X (.Assign [.Name y py] (.DictComp kx vx [⟨tg, iter, ifs, 0⟩] scope pos) spos) (tAsg (tDc wi g tt tk tv (own.map (·.2))) (gName i)) := ⟨fun pins t σ G D I h => by
  rw [exec_Assign_Name_used _ _ _ _ hsw]
  refine wpAny_bind (wpAny_standAt (wpAny_bind ?_))
  show wpAny _ X.A (do let _ ← comprehension (.DictComp kx vx [⟨tg, iter, ifs, 0⟩] scope pos) scope X.env (firstIterPos [⟨tg, iter, ifs, 0⟩] pos) newDict false (eval iter X.env) (some (assign (.Name y py) X.env))) _ _ t
  have h : tDc wi g tt tk tv (own.map (·.2)) σ G (fun x G1 => gName i x σ G1 D.nx) := h
  refine wpAny_bind (thn (dc_core (Qf := fun _ s' => SP X pins D .next s') hc hN I hi ok hg ht hk he hs h fun L C s' m G' I' q hn f => ?_) fun _ s' hq => wpAny_pure (wpAny_pure hq))
  show wpAny _ _ (assign (.Name y py) X.env (.ref L)) _ _ _
  refine wpAny_assign_Name (store_ok2 (v := V.ref L) I' hN hy (.inl hyl) rfl (fun s2 I2 ⟨a, sb, ha⟩ => ?_) (.inr hyl))
  obtain ⟨f0, f1, f2, f3, f4, f5⟩ := f
  have haC : C ≠ a := ha.elim (fun z => by rw [z]; exact f1) (fun z e => f4 y a z e.symm)
  exact ⟨m, hn.sameBut sb haC, fun h3 sb3 => ⟨_, G', I2.turned (t' := s2.toks) (fun b o hb e => (sb3.2 b hb).trans e) f0 f1 f3 f4 f5, q⟩⟩⟩
theorem dc_list {K : PySem.W.Frag} {a : Addr} {xs : List V} {g : TG} {tt : TT} {tk tv : TE} {vs : List Nat} {σ : L2.St} {H1 : Hp} {D : Addr} {Qd : Hp → Prop} (Pv : Nat → Hp → Prop) (h0 : Pv 0 (upd H1 D (.dK []))) (hl : ∀ i H, i ≤ xs.length → Pv i H → SqL K H a xs)
    (hs : ∀ i x H, xs[i]? = some x → Pv i H → g x (wipe σ vs) H fun σ2 H2 => wipe σ2 vs = wipe σ vs ∧ tt σ2 H2 fun b H3 =>
      if b = true then tk σ2 H3 fun y H4 => tv σ2 H4 fun z H5 => ∃ kvs k, y = kV k ∧ H5 D = some (.dK kvs) ∧ kvs.length < sizeLine ∧ Pv (i + 1) (upd H5 D (.dK (putK kvs k z))) else Pv (i + 1) H3) (hd : ∀ H, Pv xs.length H → Qd H) :
    ∃ W : Nat → Nat → Hp → Prop, (∃ m, W 0 m (upd H1 D (.dK []))) ∧ ∀ i m H, W i m H →
      ((Itl K a).stop i H ∧ Qd H) ∨ ((Itl K a).go i H ∧ ∃ Nx : Hp → Prop, (∀ H', Nx H' → ∃ m', m' < m ∧ W (i + 1) m' H') ∧ ∀ x H', (Itl K a).yld i H x H' → g x (wipe σ vs) H' fun σ2 H2 => wipe σ2 vs = wipe σ vs ∧ tt σ2 H2 fun b H3 =>
        if b = true then tk σ2 H3 fun y H4 => tv σ2 H4 fun z H5 => ∃ kvs k, y = kV k ∧ H5 D = some (.dK kvs) ∧ kvs.length < sizeLine ∧ Nx (upd H5 D (.dK (putK kvs k z))) else Nx H3) := by
  refine ⟨fun i m H => m = xs.length - i ∧ i ≤ xs.length ∧ Pv i H, ⟨xs.length, by simp, Nat.zero_le _, h0⟩, ?_⟩
  rintro i m H ⟨rfl, hi, p⟩
  have q := hl i H hi p
  by_cases hlt : i < xs.length
  · refine .inr ⟨⟨xs, xs[i], q, by simp [hlt]⟩, Pv (i + 1), fun H' p' => ⟨xs.length - (i + 1), by omega, rfl, hlt, p'⟩, fun x H' y => ?_⟩
    obtain ⟨e, y⟩ := y
    subst e
    exact hs i x _ (y xs q) p
  · have e : i = xs.length := by omega
    subst e
    exact .inl ⟨⟨xs, q, Nat.le_refl _⟩, hd H p⟩
/-- a loop over zip of two lists -/
theorem for_zipL {K : PySem.W.Frag} {a b : Addr} {xs ys : List V} {g : TG} {tb : TS} {D : Ends} {σ : L2.St} {H : Hp} (hl : ys.length ≤ xs.length) (Pv : Nat → L2.St → Hp → Prop) (h0 : Pv 0 σ H) (hq : ∀ i σ H, Pv i σ H → SqL K H a xs ∧ SqL K H b ys)
    (hs : ∀ (i : Nat) (x y : V) (σ : L2.St) (H : Hp) (T : Addr), xs[i]? = some x → ys[i]? = some y → Pv i σ H → H T = none → g (.ref T) σ (upd H T (.tup [x, y])) fun σ2 H2 => tb { D with nx := Pv (i + 1), ct := Pv (i + 1), bk := D.nx } σ2 H2) (hd : ∀ σ H, Pv ys.length σ H → D.nx σ H) :
    ∃ W : Nat → Nat → L2.St → Hp → Prop, (∃ m, W 0 m σ H) ∧ ∀ i m σ H, W i m σ H →
      ((Itz K a b).stop i H ∧ D.nx σ H) ∨ ((Itz K a b).go i H ∧ ∃ N : L2.St → Hp → Prop, (∀ σ' H', N σ' H' → ∃ m', m' < m ∧ W (i + 1) m' σ' H') ∧ ∀ x H', (Itz K a b).yld i H x H' → g x σ H' fun σ2 H2 => tb { D with nx := N, ct := N, bk := D.nx } σ2 H2) := by
  refine ⟨fun i m σ H => m = ys.length - i ∧ i ≤ ys.length ∧ Pv i σ H, ⟨ys.length, by simp, Nat.zero_le _, h0⟩, ?_⟩
  rintro i m σ H ⟨rfl, hi, p⟩
  obtain ⟨q1, q2⟩ := hq i σ H p
  by_cases hlt : i < ys.length
  · have g2 : ys[i]? = some ys[i] := List.getElem?_eq_getElem hlt
    have g1 : xs[i]? = some (xs[i]'(by omega)) := List.getElem?_eq_getElem (by omega)
    refine .inr ⟨⟨xs, ys, _, _, q1, q2, g1, g2⟩, Pv (i + 1), fun σ' H' p' => ⟨ys.length - (i + 1), by omega, rfl, hlt, p'⟩, fun x H' y => ?_⟩
    obtain ⟨T, z1, z2, rfl, hT, rfl, f1, f2⟩ := y
    exact hs i z1 z2 σ H T (f1 _ q1) (f2 _ q2) p hT
  · have e : i = ys.length := by omega
    subst e
    exact .inl ⟨⟨xs, ys, q1, q2, .inr (Nat.le_refl _)⟩, hd σ H p⟩
theorem cut_mid (xs : List V) (i j : Nat) (h : i + j ≤ xs.length) : cutV xs (some (i : Int)) (some ((i : Int) + j)) = (xs.drop i).take j := by
  have e : ((i : Int) + j) = ((i + j : Nat) : Int) := by omega
  unfold cutV
  rw [e, HT.sIx_nat, HT.sIx_nat, Nat.min_eq_left h, Nat.min_eq_left (show i ≤ xs.length by omega)]
  congr 1
  omega
end AA

set_option Elab.async false
set_option linter.all false
set_option maxRecDepth 100000
set_option maxHeartbeats 4000000
/-! first_wrong; the errors of doors. -/
namespace AA
open PySem PySem.Spec PyProof.Rows L2 Evl
/-- the keys of a dict are these numbers -/
def Ks (kvs : List (Key × V)) (ns : List Int) : Prop := kvs.length ≤ ns.length ∧ ∀ i : Int, (valV kvs (.inl i)).isSome = decide (i ∈ ns)
theorem ks_nil : Ks [] [] := ⟨Nat.le_refl _, fun i => by rw [valV_nil, decide_eq_false (by simp)]; rfl⟩
theorem ks_put {kvs : List (Key × V)} {ns : List Int} {i : Int} {v : V} (h : Ks kvs ns) : Ks (putK kvs (.inl i) v) (ns ++ [i]) := by
  refine ⟨by have := length_putK kvs (.inl i) v; have := h.1; rw [List.length_append]; show _ ≤ _ + 1; omega, fun j => ?_⟩
  rw [valV_put]
  by_cases e : j = i
  · subst e
    rw [if_pos rfl, decide_eq_true (by simp)]
    rfl
  · rw [if_neg (fun z => e (Sum.inl.inj z)), h.2 j]
    by_cases m : j ∈ ns
    · rw [decide_eq_true m, decide_eq_true (List.mem_append_left _ m)]
    · rw [decide_eq_false m, decide_eq_false (fun z => (List.mem_append.mp z).elim m (fun y => e (by simpa using y)))]
section
variable {P : Program} {w : World} {K : PySem.W.Frag} {mg : Str → Option Value} {base : Heap}
theorem scBadIn : FnScope ["self", "index"] ["self", "index"] (defScope sBadInInit) := ⟨rfl, rfl, rfl, by decide +kernel, rfl, by decide +kernel, by decide +kernel⟩
theorem ok_badIn {CB f fI : Addr} {fd : FuncData} (F : L2.Fun K "__init__" "BadIns.__init__" sBadInInit f fd) (T : ExT K mg "BadIns" "index" CB fI) : FnOk P w K mg base CX0 1 f fd ["self", "index"] (spExI CB "index") := by
  refine F.ok scBadIn (fun vs H Q E h => ?_) (fun cdv A outer s H vs Q E hr h => ?_)
  · obtain ⟨a, v, rfl, _⟩ := h
    rfl
  · obtain ⟨a, v, rfl, ha, k⟩ := h
    exact ⟨_, pss_one (ps_ost (pv 0) (pv 1) rfl), _, rfl, _, rfl, a, CB, rfl, T.ox, T.no, .inl ⟨ha, k⟩⟩
theorem scBadOu : FnScope ["self", "index"] ["self", "index"] (defScope sBadOuInit) := ⟨rfl, rfl, rfl, by decide +kernel, rfl, by decide +kernel, by decide +kernel⟩
theorem ok_badOu {CB f fI : Addr} {fd : FuncData} (F : L2.Fun K "__init__" "BadOuts.__init__" sBadOuInit f fd) (T : ExT K mg "BadOuts" "index" CB fI) : FnOk P w K mg base CX0 1 f fd ["self", "index"] (spExI CB "index") := by
  refine F.ok scBadOu (fun vs H Q E h => ?_) (fun cdv A outer s H vs Q E hr h => ?_)
  · obtain ⟨a, v, rfl, _⟩ := h
    rfl
  · obtain ⟨a, v, rfl, ha, k⟩ := h
    exact ⟨_, pss_one (ps_ost (pv 0) (pv 1) rfl), _, rfl, _, rfl, a, CB, rfl, T.ox, T.no, .inl ⟨ha, k⟩⟩
/-- a thing that is no door, where these stood before -/
def NoDoor (K : PySem.W.Frag) (H : Hp) (n : Int) (tk : List Int) (z : V) : Prop := NotI K H z ∨ ∃ i, z = .int i ∧ (i < 0 ∨ n ≤ i ∨ i ∈ tk)
/-- doors, of n places, beside those taken: none; a list whose first bad one is at an index; good ones -/
def DrArg (K : PySem.W.Frag) (n : Int) (H : Hp) (v : V) (tk : List Int) (Bad : Nat → Prop) (Good : List Int → Prop) : Prop :=
  (Lk K H v false ∧ Bad 0) ∨ ∃ (a : Addr) (xs : List V), v = .ref a ∧ SqA K H a xs ∧ ((xs = [] ∧ Bad 0) ∨
    ∃ ds : List Int, ds.length ≤ 1000 ∧ ds.Nodup ∧ (∀ i ∈ ds, 0 ≤ i ∧ i < n ∧ i ∉ tk) ∧ ((xs = ds.map V.int ∧ ds ≠ [] ∧ Good ds) ∨ ∃ z r, xs = ds.map V.int ++ z :: r ∧ NoDoor K H n (tk ++ ds) z ∧ Bad ds.length))
theorem NoDoor.ex {H H' : Hp} {n : Int} {tk : List Int} {z : V} (h : NoDoor K H n tk z) (e : Ex H H') : NoDoor K H' n tk z := h.imp (fun y => y.ex e) id
theorem DrArg.ex {H H' : Hp} {n : Int} {v : V} {tk : List Int} {B : Nat → Prop} {G : List Int → Prop} (h : DrArg K n H v tk B G) (e : Ex H H') : DrArg K n H' v tk B G := by
  rcases h with ⟨h1, h2⟩ | ⟨a, xs, h1, h2, h⟩
  · exact .inl ⟨h1.ex e, h2⟩
  · refine .inr ⟨a, xs, h1, h2.ex e, h.imp id ?_⟩
    rintro ⟨ds, q1, q2, q3, q4⟩
    refine ⟨ds, q1, q2, q3, q4.imp id ?_⟩
    rintro ⟨z, r, p1, p2, p3⟩
    exact ⟨z, r, p1, p2.ex e, p3⟩
theorem DrArg.imp {H : Hp} {n : Int} {v : V} {tk : List Int} {B B' : Nat → Prop} {G G' : List Int → Prop} (h : DrArg K n H v tk B G) (hb : ∀ i, B i → B' i) (hg : ∀ ds, G ds → G' ds) : DrArg K n H v tk B' G' := by
  rcases h with ⟨h1, h2⟩ | ⟨a, xs, h1, h2, h⟩
  · exact .inl ⟨h1, hb _ h2⟩
  · refine .inr ⟨a, xs, h1, h2, h.imp (fun z => ⟨z.1, hb _ z.2⟩) ?_⟩
    rintro ⟨ds, q1, q2, q3, q4⟩
    refine ⟨ds, q1, q2, q3, q4.imp (fun z => ⟨z.1, z.2.1, hg _ z.2.2⟩) ?_⟩
    rintro ⟨z, r, p1, p2, p3⟩
    exact ⟨z, r, p1, p2, hb _ p3⟩
def spFirst (K : PySem.W.Frag) : Sp := fun vs H Q _ => ∃ (n : Int) (v : V) (t : Addr) (tk : List Int), vs = [.int n, v, .ref t] ∧ SqA K H t (tk.map V.int) ∧ tk.length ≤ 1000 ∧
  DrArg K n H v tk (fun i => ∀ H', Ex H H' → Q (.int (i : Nat)) H') (fun _ => ∀ H', Ex H H' → Q .non H')
abbrev nmFirst : List Str := ["places", "doors", "taken", "seen", "index", "door", "place"]
theorem scFirst : FnScope nmFirst ["places", "doors", "taken"] (defScope sFirstWrong) := ⟨rfl, rfl, rfl, by decide +kernel, rfl, by decide +kernel, by decide +kernel⟩
theorem ok_first {f : Addr} {fd : FuncData} (F : L2.Fun K "first_wrong" "first_wrong" sFirstWrong f fd) (T : Bn mg) (cL : C8.Cal P w K mg base 1 "is_list" (spIsList K) []) (cI : C8.Cal P w K mg base 1 "is_integer" (spIsIntegerV K) []) :
    FnOk P w K mg base CX0 2 f fd ["places", "doors", "taken"] (spFirst K) := by
  refine F.ok scFirst (fun vs H Q E h => ?_) (fun cdv A outer s H vs Q E hr h => ?_)
  · obtain ⟨n, v, t, tk, rfl, _⟩ := h
    rfl
  · obtain ⟨n, v, t, tk, rfl, hT, htk, h⟩ := h
    have hun := hr.un
    have hu1 : (A.deeper (envOfC "first_wrong" (defScope sFirstWrong) s.heap.objs.size f cdv)).units + 1 < cLine := by omega
    refine ⟨_, pss_cons (ps_if (PW.pt (pw_or (pt_not (pt_val (C8.pe_c cL hr (by decide) (by rfl) (pa_cons (pv 1) pa_nil)))) (pw_or1 (pt_not (pt_truth (pv 1) (fun _ => rfl))))))
        (pss_one (ps_ret pe_int)) pss_nil)
      (Evl.pss_cut (ps_setDc (i := 3) (own := [("place", 6)]) (g := gName 6) (tt := tYes) (by rfl) scFirst.nd rfl rfl (sw_trueD rfl rfl rfl (by decide +kernel)) (pi_or (pi_list (pv 2)) (pi_tup (pv 2))) (blkOk_by (N := nmFirst) (sc := defScope sFirstWrong) (by decide +kernel))
          (fun _ _ _ _ _ => pg_name (i := 6) scFirst.nd rfl (Or.inl rfl)) (fun _ _ _ _ _ => pts_nil) (fun _ _ _ _ _ => pv 6) (fun _ _ _ _ _ => pe_bl))
      (pss_cons (ps_for PassesOwn.never rfl (pi_enumA (by rfl) T.enumerate (pa_cons (pv 1) pa_nil)) (pg_tup (n := 2) rfl (pgs_cons (pg_name (i := 4) scFirst.nd rfl (Or.inl rfl)) (pgs_cons (pg_name (i := 5) scFirst.nd rfl (Or.inl rfl)) pgs_nil)))
        (pss_cons (ps_if (PW.pt (pw_or (pt_not (pt_val (C8.pe_c cI hr (by decide) (by rfl) (pa_cons (pv 5) pa_nil)))) (pw_or (pt_cmpR op_lt (pv 5) pe_int (nomark _)) (pw_or (pt_cmpR op_ge (pv 5) (pv 0) (nomark _)) (pw_or1 (pt_cmp (pc_din hu1 (pv 5) (pv 3))))))))
          (pss_one (ps_ret (pv 4))) pss_nil)
        (pss_one (ps_dput hu1 (pv 3) (pv 5) pe_bl (by rfl)))))
      (pss_one (ps_ret pe_non)))), ?_⟩
    rcases h with ⟨hl, kb⟩ | ⟨a, xs, rfl, hs, h⟩
    · exact ⟨_, rfl, v, false, rfl, hl, fun H1 e1 => ⟨_, rfl, iteT (iteT (kb H1 e1))⟩⟩
    refine ⟨_, rfl, .ref a, true, rfl, lk_sq hs, fun H1 e1 => ⟨_, rfl, iteF ?_⟩⟩
    have tru : ∀ b : Bool, b = !xs.isEmpty → TruV K (.ref a) H1 b := fun b hb => (hs.ex e1).elim (fun z => .inl ⟨xs, z, hb⟩) (fun z => .inr (.inl ⟨xs, z, hb⟩))
    refine ⟨_, rfl, !xs.isEmpty, tru _ rfl, ?_⟩
    rcases h with ⟨rfl, kb⟩ | ⟨ds, hdl, hnd, hok, h⟩
    · exact iteT (kb H1 e1)
    obtain ⟨r, rfl, hne, hr0⟩ : ∃ r : List V, xs = ds.map V.int ++ r ∧ ds.map V.int ++ r ≠ [] ∧ ((r = [] ∧ ∀ H', Ex H H' → Q .non H') ∨ ∃ z r', r = z :: r' ∧ NoDoor K H n (tk ++ ds) z ∧ ∀ H', Ex H H' → Q (.int (ds.length : Nat)) H') := by
      rcases h with ⟨h1, h2, h3⟩ | ⟨z, r, h1, h2, h3⟩
      · exact ⟨[], by rw [h1, List.append_nil], by rw [List.append_nil]; exact fun z => h2 (List.map_eq_nil_iff.mp z), .inl ⟨rfl, h3⟩⟩
      · exact ⟨z :: r, h1, by simp, .inr ⟨z, r, rfl, h2, h3⟩⟩
    have he : (ds.map V.int ++ r).isEmpty = false := by
      cases q : ds.map V.int ++ r with
      | nil => exact absurd q hne
      | cons => rfl
    rw [he]
    refine iteF ?_
    refine ⟨fun σ G => ∃ D kvs, σ = [some (.int n), some (.ref a), some (.ref t), some (.ref D), none, none, none] ∧ Ex H G ∧ G D = some (.dK kvs) ∧ H1 D = none ∧ Ks kvs tk, ?_, ?_⟩
    · have turn : ∀ (D : Addr), H1 D = none → ∀ (i : Nat) (x : V) (G : Hp), (tk.map V.int)[i]? = some x → (Ex H1 G ∧ ∃ kvs, G D = some (.dK kvs) ∧ Ks kvs (tk.take i)) →
          ∃ kvs k, x = kV k ∧ G D = some (.dK kvs) ∧ kvs.length < sizeLine ∧ (Ex H1 (upd G D (.dK (putK kvs k (.bl true)))) ∧ ∃ kvs', upd G D (.dK (putK kvs k (.bl true))) D = some (.dK kvs') ∧ Ks kvs' (tk.take (i + 1))) := by
        rintro D hD i x G hx ⟨q1, kvs, q2, q3⟩
        obtain ⟨c, hc, rfl⟩ := get_ints hx
        have il := (List.getElem?_eq_some_iff.mp hc).1
        have := q3.1
        rw [List.length_take] at this
        refine ⟨kvs, .inl c, rfl, q2, sz_m (by omega), Ex.mut q1 hD, _, upd_same, ?_⟩
        rw [List.take_add_one, hc]
        exact ks_put q3
      rcases hT with hT | hT
      · refine Or.inl ⟨_, rfl, t, rfl, ⟨_, ex_l e1 hT⟩, fun D hD => ?_⟩
        refine dc_list (xs := tk.map V.int) (fun i G => Ex H1 G ∧ ∃ kvs, G D = some (.dK kvs) ∧ Ks kvs (tk.take i)) ⟨Ex.new hD, [], upd_same, ks_nil⟩ (fun i G _ q => ex_l (e1.trans q.1) hT) ?_ ?_
        · rintro i x G hx q
          exact ⟨rfl, ⟨_, rfl, turn D hD i x G hx q⟩⟩
        · rintro G ⟨q1, kvs, q2, q3⟩
          rw [List.length_map, List.take_length] at q3
          exact ⟨D, kvs, rfl, e1.trans q1, q2, hD, q3⟩
      · refine Or.inr ⟨_, rfl, t, rfl, ⟨_, ex_t e1 hT⟩, fun D hD => ?_⟩
        refine dc_tup (xs := tk.map V.int) (fun i G => Ex H1 G ∧ ∃ kvs, G D = some (.dK kvs) ∧ Ks kvs (tk.take i)) ⟨Ex.new hD, [], upd_same, ks_nil⟩ (fun i G _ q => ex_t (e1.trans q.1) hT) ?_ ?_
        · rintro i x G hx q
          exact ⟨rfl, ⟨_, rfl, turn D hD i x G hx q⟩⟩
        · rintro G ⟨q1, kvs, q2, q3⟩
          rw [List.length_map, List.take_length] at q3
          exact ⟨D, kvs, rfl, e1.trans q1, q2, hD, q3⟩
    rintro σ G0 ⟨D, kvs0, rfl, e0, hD0, hDn, hks0⟩
    have hDH : H D = none := by
      cases q : H D with
      | none => rfl
      | some o =>
        rw [e1 _ _ q] at hDn
        cases hDn
    refine ⟨_, rfl, a, ds.map V.int ++ r, rfl, for_enumA (K := K) (a := a) (xs := ds.map V.int ++ r) (H0 := H) hs
      (fun i σ G => ∃ (x4 x5 : Option V) (kvs : List (Key × V)), σ = [some (.int n), some (.ref a), some (.ref t), some (.ref D), x4, x5, none] ∧ Ex H G ∧ G D = some (.dK kvs) ∧ Ks kvs (tk ++ ds.take i) ∧ i ≤ ds.length) ?_ ?_ ?_ ?_⟩
    · exact ⟨none, none, kvs0, rfl, e0, hD0, by rw [List.take_zero, List.append_nil]; exact hks0, Nat.zero_le _⟩
    · rintro i σ G ⟨x4, x5, kvs, rfl, q1, _⟩
      exact q1
    · rintro i x σ G T hx ⟨x4, x5, kvs, rfl, q1, q2, q3, q4⟩ hT0
      have eT := Ex.new (o := .tup [.int (i : Nat), x]) hT0
      refine ⟨T, _, rfl, SqT.of upd_same, rfl, _, _, rfl, _, _, rfl, rfl, ?_⟩
      have hD2 := eT _ _ q2
      generalize upd G T (.tup [.int (i : Nat), x]) = G2 at eT hD2 ⊢
      have e2 := q1.trans eT
      by_cases hlt : i < ds.length
      · rw [List.getElem?_append_left (by rw [List.length_map]; exact hlt)] at hx
        obtain ⟨c, hc, rfl⟩ := get_ints hx
        obtain ⟨c0, c1, c2⟩ := hok c (mem_of_get hc)
        refine ⟨_, rfl, _, rfl, .inr ⟨c, rfl, ⟨_, rfl, iteF ?_⟩⟩⟩
        refine ⟨_, rfl, _, _, rfl, rfl, _, rfl, ?_⟩
        refine dec_ite (fun z => by omega) (fun _ => ?_)
        refine ⟨_, rfl, _, rfl, _, _, rfl, rfl, _, rfl, ?_⟩
        refine dec_ite (fun z => by omega) (fun _ => ?_)
        have hnk : (valV kvs (.inl c)).isSome = false := by
          rw [q3.2 c, decide_eq_false]
          intro z
          rcases List.mem_append.mp z with z | z
          · exact c2 z
          · exact nodup_take hnd hc z
        refine ⟨_, rfl, _, rfl, D, _, rfl, DGet.k (k := .inl c) hD2, _, rfl, ?_⟩
        rw [hnk]
        refine iteF ?_
        have hlen := q3.1
        rw [List.length_append, List.length_take] at hlen
        refine ⟨_, rfl, _, rfl, D, _, rfl, DPut.k (k := .inl c) hD2 (sz_m (by omega)), _, _, _, rfl, e2.mut hDH, upd_same, ?_, hlt⟩
        rw [List.take_add_one, hc, ← List.append_assoc]
        exact ks_put q3
      · have hie : i = ds.length := by omega
        subst hie
        rw [List.getElem?_append_right (by rw [List.length_map]; exact Nat.le_refl _), List.length_map, Nat.sub_self] at hx
        rcases hr0 with ⟨rfl, _⟩ | ⟨z, r', rfl, hz, kb⟩
        · cases hx
        cases (Option.some.inj hx)
        rw [List.take_length] at q3
        rcases hz with hni | ⟨c, rfl, hc⟩
        · exact ⟨_, rfl, _, rfl, .inl ⟨hni.ex e2, ⟨_, rfl, iteT (iteT ⟨_, rfl, kb _ e2⟩)⟩⟩⟩
        · refine ⟨_, rfl, _, rfl, .inr ⟨c, rfl, ⟨_, rfl, iteF ?_⟩⟩⟩
          refine ⟨_, rfl, _, _, rfl, rfl, _, rfl, ?_⟩
          refine dec_ite (fun z => iteT ⟨_, rfl, kb _ e2⟩) (fun z1 => ?_)
          refine ⟨_, rfl, _, rfl, _, _, rfl, rfl, _, rfl, ?_⟩
          refine dec_ite (fun z => iteT ⟨_, rfl, kb _ e2⟩) (fun z2 => ?_)
          have hin : (valV kvs (.inl c)).isSome = true := by
            rw [q3.2 c, decide_eq_true]
            rcases hc with hc | hc | hc
            · omega
            · omega
            · exact hc
          refine ⟨_, rfl, _, rfl, D, _, rfl, DGet.k (k := .inl c) hD2, _, rfl, ?_⟩
          rw [hin]
          exact iteT ⟨_, rfl, kb _ e2⟩
    · rintro σ G ⟨x4, x5, kvs, rfl, q1, q2, q3, q4⟩
      rw [List.length_append, List.length_map] at q4
      have hrn : r = [] := List.eq_nil_of_length_eq_zero (by omega)
      subst hrn
      rcases hr0 with ⟨_, k⟩ | ⟨z, r', h0, _⟩
      · exact k _ q1
      · cases h0
end
end AA

set_option Elab.async false
set_option linter.all false
set_option maxRecDepth 100000
set_option maxHeartbeats 4000000
/-! What the law's own looks lean on. -/
namespace AA
open PySem PySem.Spec PyProof.Rows L2 Evl
mutual
def dOk : PyData → Bool
  | .list xs => decide (xs.length ≤ 1000000) && dOkA xs
  | .tuple xs => decide (xs.length ≤ 1000000) && dOkA xs
  | .str z => PyData.strOk z
  | .dict _ => false
  | _ => true
def dOkA : List PyData → Bool
  | [] => true
  | x :: xs => dOk x && dOkA xs
end
mutual
theorem sm_two {K : PySem.W.Frag} {C : Addr} {R : Addr → Addr → Hp → Prop} {H : Hp} : ∀ (d : PyData) (v u : V) (n : Nat), Dp K H v d → Dp K H u d → dOk d = true → d.depth < n → Sm K C R H n v u
  | _, _, _, 0, _, _, _, h => absurd h (Nat.not_lt_zero _)
  | .none, v, u, n + 1, hd, he, _, _ => by
    cases hd
    cases he
    exact .inl ⟨rfl, rfl⟩
  | .bool b, v, u, n + 1, hd, he, _, _ => by
    cases hd
    cases he
    exact .inl ⟨rfl, rfl⟩
  | .int i, v, u, n + 1, hd, he, _, _ => by
    cases hd
    cases he
    exact .inl ⟨rfl, rfl⟩
  | .str z, v, u, n + 1, hd, he, ho, _ => by
    cases hd
    cases he
    exact .inl ⟨rfl, ho⟩
  | .list xs, v, u, n + 1, hd, he, ho, h => by
    cases hd with
    | lst h1 h2 =>
      cases he with
      | lst g1 g2 =>
        have ho' : (decide (xs.length ≤ 1000000) && dOkA xs) = true := ho
        rw [Bool.and_eq_true] at ho'
        have hl := dpa_len h2
        have hz := of_decide_eq_true ho'.1
        exact .inr (.inl ⟨_, _, _, _, rfl, rfl, h1, g1, sm_twoA xs _ _ n h2 g2 ho'.2 (Nat.lt_of_succ_lt_succ h), by omega⟩)
  | .tuple xs, v, u, n + 1, hd, he, ho, h => by
    cases hd with
    | tup h1 h2 =>
      cases he with
      | tup g1 g2 =>
        have ho' : (decide (xs.length ≤ 1000000) && dOkA xs) = true := ho
        rw [Bool.and_eq_true] at ho'
        have hl := dpa_len h2
        have hz := of_decide_eq_true ho'.1
        exact .inr (.inr (.inl ⟨_, _, _, _, rfl, rfl, h1, g1, sm_twoA xs _ _ n h2 g2 ho'.2 (Nat.lt_of_succ_lt_succ h), by omega⟩))
  | .dict _, v, u, n + 1, _, _, ho, _ => by cases ho
theorem sm_twoA {K : PySem.W.Frag} {C : Addr} {R : Addr → Addr → Hp → Prop} {H : Hp} : ∀ (ds : List PyData) (vs us : List V) (n : Nat), DpAll K H vs ds → DpAll K H us ds → dOkA ds = true → PyData.depthAll ds < n → Paired (Sm K C R H n) vs us
  | [], _, _, _, h, g, _, _ => by
    cases h
    cases g
    exact .nil
  | d :: ds, _, _, n, h, g, ho, hn => by
    cases h with
    | cons h1 h2 =>
      cases g with
      | cons g1 g2 =>
        have ho' : (dOk d && dOkA ds) = true := ho
        rw [Bool.and_eq_true] at ho'
        have hn' : max (PyData.depth d) (PyData.depthAll ds) < n := hn
        exact .cons (sm_two d _ _ n h1 g1 ho'.1 (by omega)) (sm_twoA ds _ _ n h2 g2 ho'.2 (by omega))
end
theorem tps_in {H : Hp} {a b : Addr} {m : Nat} (S : SAt H a b m) : Ex (tps H) (hid a b H) := fun x o h => by
  obtain ⟨h1, xs, rfl⟩ := tps_some h
  obtain ⟨ns, c1, c2, c3, ha, hb, _⟩ := S
  have xa : x ≠ a := fun z => by
    rw [z, ha] at h1
    cases h1
  have xb : x ≠ b := fun z => by
    rw [z, hb] at h1
    cases h1
  rw [hid_ne xa xb]
  exact h1
theorem rd_st {n : Int} {s : St5} (h : StOk n s) : rdStep n (stD s) = some s := by
  rw [rd_at (d := stD s) (c := .tuple [.int s.p, .int s.q]) rfl rfl, if_pos ⟨h.o0, h.o1, h.t0, h.t1, h.k⟩]
theorem lsa_two {i j : Int} {ys : List PyData} (h : LsA [.int i, .int j] ys) : ys = [.int i, .int j] := by
  cases h with
  | cons h1 h =>
    cases h with
    | cons h2 h =>
      cases h
      cases h1
      cases h2
      rfl
theorem ls_items {xs : List PyData} {d : PyData} (h : Ls (.tuple xs) d ∨ Ls (.list xs) d) : LsA xs (itemsD d) ∧ isListD d = true := by
  rcases h with h | h
  · cases h with
    | tl h => exact ⟨h, rfl⟩
    | tt h => exact ⟨h, rfl⟩
  · cases h with
    | ll h => exact ⟨h, rfl⟩
    | lt h => exact ⟨h, rfl⟩
theorem ls_step {n : Int} {s : St5} {d : PyData} (h : Ls (stD s) d) (o : StOk n s) : rdStep n d = some s := by
  obtain ⟨h1, _⟩ := ls_items (.inl (show Ls (.tuple [.int s.one, .int s.other, .tuple [.int s.p, .int s.q], .int s.ticks, .int s.change]) d from h))
  generalize hit : itemsD d = l at h1
  cases h1 with
  | cons a1 h1 =>
    cases h1 with
    | cons a2 h1 =>
      cases h1 with
      | cons a3 h1 =>
        cases h1 with
        | cons a4 h1 =>
          cases h1 with
          | cons a5 h1 =>
            cases h1
            cases a1
            cases a2
            cases a4
            cases a5
            obtain ⟨h2, _⟩ := ls_items (.inl a3)
            rw [rd_at hit (lsa_two h2), if_pos ⟨o.o0, o.o1, o.t0, o.t1, o.k⟩]
theorem ls_steps {n : Int} : ∀ {ws : List St5} {ds : List PyData}, LsA (ws.map stD) ds → (∀ s ∈ ws, StOk n s) → ds.map (rdStep n) = ws.map some
  | [], _, h, _ => by
    cases h
    rfl
  | s :: ws, _, h, o => by
    cases h with
    | cons h1 h2 =>
      rw [List.map_cons, List.map_cons, ls_step h1 (o s List.mem_cons_self), ls_steps h2 fun t ht => o t (List.mem_cons_of_mem _ ht)]
theorem rd_steps {n : Int} : ∀ {ws : List St5}, (∀ s ∈ ws, StOk n s) → (ws.map stD).map (rdStep n) = ws.map some
  | [], _ => rfl
  | s :: ws, o => by
    rw [List.map_cons, List.map_cons, List.map_cons, rd_st (o s List.mem_cons_self), rd_steps fun t ht => o t (List.mem_cons_of_mem _ ht)]
theorem all_sts : ∀ ws : List St5, allIA (ws.map stD) = true
  | [] => rfl
  | s :: ws => by
    show (allI (stD s) && allIA (ws.map stD)) = true
    rw [all_sts ws]
    rfl
theorem cut_from (xs : List V) (j : Nat) : cutV xs (some (j : Int)) none = xs.drop j := by
  unfold cutV
  rw [HT.sIx_none, HT.sIx_nat]
  by_cases h : j ≤ xs.length
  · rw [Nat.min_eq_left h, List.take_of_length_le (by rw [List.length_drop]; omega)]
  · rw [Nat.min_eq_right (by omega), Nat.sub_self, List.drop_of_length_le (by omega), List.take_nil]
    exact (List.drop_of_length_le (by omega)).symm
theorem dpa_take {K : PySem.W.Frag} {H : Hp} : ∀ {xs : List V} {ds : List PyData} (j : Nat), DpAll K H xs ds → DpAll K H (xs.take j) (ds.take j)
  | [], _, j, h => by
    cases h
    rw [List.take_nil, List.take_nil]
    exact .nil
  | x :: xs, _, 0, h => .nil
  | x :: xs, _, j + 1, h => by
    cases h with
    | cons h1 h2 => exact .cons h1 (dpa_take j h2)
theorem sqt_hid {G : Hp} {K : PySem.W.Frag} {a b t : Addr} {m : Nat} {xs : List V} (S : SAt G a b m) (h : SqT K G t xs) : SqT K (hid a b G) t xs := by
  obtain ⟨ns, c1, c2, c3, ha, hb, _⟩ := S
  rcases h with h | h
  · refine .inl ?_
    rcases h with h | ⟨u, h⟩
    · have xa : t ≠ a := fun z => by rw [z, ha] at h; cases h
      have xb : t ≠ b := fun z => by rw [z, hb] at h; cases h
      exact .inl (by rw [hid_ne xa xb]; exact h)
    · have xa : t ≠ a := fun z => by rw [z, ha] at h; cases h
      have xb : t ≠ b := fun z => by rw [z, hb] at h; cases h
      exact .inr ⟨u, by rw [hid_ne xa xb]; exact h⟩
  · exact .inr h
theorem sts_hid {G : Hp} {K : PySem.W.Frag} {a b : Addr} {m : Nat} (S : SAt G a b m) : ∀ {vs : List V} {ss : List St5}, DpAll K G vs (ss.map stD) → DpAll K (hid a b G) vs (ss.map stD)
  | [], [], _ => .nil
  | v :: vs, s :: ss, h => by
    cases h with
    | cons h1 h2 =>
      obtain ⟨t, u, rfl, h3, h4⟩ := stD_inv h1
      exact .cons (stD_mk (sqt_hid S h3) (sqt_hid S h4)) (sts_hid S h2)
  | [], _ :: _, h => by cases h
  | _ :: _, [], h => by cases h
theorem made_ex {H : Hp} {x dx : Addr} {o : HO} (nx : H x = none) (ndx : H dx = none) : Ex H (hid x x (upd (upd H dx (.own x)) x o)) := fun z u h => by
  have h1 : z ≠ x := ne_of_none h nx
  have h2 : z ≠ dx := ne_of_none h ndx
  rw [hid_ne h1 h1, upd_ne h1, upd_ne h2]
  exact h
theorem cnt_sts : ∀ ws : List St5, cntA (ws.map stD) = 8 * ws.length
  | [] => rfl
  | s :: ws => by
    show cnt (stD s) + cntA (ws.map stD) = 8 * (ws.length + 1)
    have e : cnt (stD s) = 8 := rfl
    rw [e, cnt_sts ws]
    omega
theorem dok_sts : ∀ ws : List St5, dOkA (ws.map stD) = true
  | [] => rfl
  | s :: ws => by
    show (dOk (stD s) && dOkA (ws.map stD)) = true
    rw [dok_sts ws]
    rfl
theorem stLt_tri {s t : St5} (h1 : stLt s t = false) (h2 : stLt t s = false) : s = t := by
  have a := stLt_no.mp h1
  have b := stLt_no.mp h2
  have e1 : s.one = t.one := by omega
  have e2 : s.other = t.other := by omega
  have e3 : s.p = t.p := by omega
  have e4 : s.q = t.q := by omega
  have e5 : s.ticks = t.ticks := by omega
  have e6 : s.change = t.change := by omega
  cases s
  cases t
  simp_all
/-- the same steps, both in order, are the same list -/
theorem srs_uniq : ∀ {ss ts : List St5}, SrS ss → SrS ts → ss.Perm ts → ss = ts
  | [], ts, _, _, p => (List.Perm.nil_eq p)
  | s :: ss, [], _, _, p => absurd p.length_eq (by simp)
  | s :: ss, t :: ts, h, g, p => by
    have h' := List.pairwise_cons.mp h
    have g' := List.pairwise_cons.mp g
    have e : s = t := by
      have m1 : s ∈ t :: ts := p.mem_iff.mp List.mem_cons_self
      have m2 : t ∈ s :: ss := p.mem_iff.mpr List.mem_cons_self
      rcases List.mem_cons.mp m1 with e | m1
      · exact e
      · rcases List.mem_cons.mp m2 with e | m2
        · exact e.symm
        · exact stLt_tri (g'.1 _ m1) (h'.1 _ m2)
    subst e
    rw [srs_uniq h'.2 g'.2 (List.Perm.cons_inv p)]
section
variable {K : PySem.W.Frag}
theorem rdall_of {n : Int} {H : Hp} : ∀ {vs : List V} {ds : List PyData} {ss : List St5}, DpAll K H vs ds → ds.map (rdStep n) = ss.map some → RdAll K n H vs ss
  | [], _, [], h, _ => .nil
  | [], _, _ :: _, h, e => by
    cases h
    cases e
  | v :: vs, _, [], h, e => by
    cases h
    cases e
  | v :: vs, _, s :: ss, h, e => by
    cases h with
    | cons h1 h2 =>
      rw [List.map_cons, List.map_cons] at e
      injection e with e1 e2
      exact .cons h1 e1 (rdall_of h2 e2)
theorem rdall_st {n : Int} {H : Hp} {vs : List V} {ss : List St5} (h : DpAll K H vs (ss.map stD)) (o : ∀ s ∈ ss, StOk n s) : RdAll K n H vs ss := rdall_of h (rd_steps o)
/-- a web, its list of steps at lw -/
def WebL (K : PySem.W.Frag) (C : Addr) (H : Hp) (x lw : Addr) (n : Int) (ss : List St5) : Prop := ∃ (dx kd : Addr) (ys : List V), H x = some (.ins C dx (wf n lw kd)) ∧ H lw = some (.lst ys) ∧ DpAll K H ys (ss.map stD)
theorem WebL.at {C : Addr} {H : Hp} {x lw : Addr} {n : Int} {ss : List St5} (h : WebL K C H x lw n ss) : WebAt K C H x n ss := let ⟨dx, kd, ys, h1, h2, h3⟩ := h; ⟨dx, lw, kd, ys, h1, h2, h3⟩
theorem WebL.ex {C : Addr} {H H' : Hp} {x lw : Addr} {n : Int} {ss : List St5} (h : WebL K C H x lw n ss) (e : Ex H H') : WebL K C H' x lw n ss := let ⟨dx, kd, ys, h1, h2, h3⟩ := h; ⟨dx, kd, ys, e _ _ h1, e _ _ h2, dpa_ex e _ _ h3⟩
theorem WebL.up {C p : Addr} {H : Hp} {x lw : Addr} {n : Int} {ss : List St5} {vs : List V} {o : HO} (h : WebL K C H x lw n ss) (hp : H p = some (.lst vs)) (hl : p ≠ lw) : WebL K C (upd H p o) x lw n ss := by
  obtain ⟨dx, kd, ys, h1, h2, h3⟩ := h
  have px : x ≠ p := fun z => by
    rw [z, hp] at h1
    cases h1
  have nt : ∀ (xs : List V) (u : Obj), H p ≠ some (.tup xs) ∧ H p ≠ some (.frz u (.tup xs)) := fun xs u => by
    rw [hp]
    exact ⟨(fun z => nomatch z), (fun z => nomatch z)⟩
  exact ⟨dx, kd, ys, by rw [upd_ne px]; exact h1, by rw [upd_ne hl.symm]; exact h2, sts_upd nt h3⟩
theorem nt_lst {G : Hp} {l : Addr} {vs : List V} (h : G l = some (.lst vs)) (xs : List V) (u : Obj) : G l ≠ some (.tup xs) ∧ G l ≠ some (.frz u (.tup xs)) := by
  rw [h]
  exact ⟨(fun z => nomatch z), (fun z => nomatch z)⟩
theorem sts_get {H : Hp} {ys : List V} {ss : List St5} {i : Nat} {y : V} (h : DpAll K H ys (ss.map stD)) (hy : ys[i]? = some y) : ∃ (t : St5) (b : Addr), ss[i]? = some t ∧ y = .ref b ∧ Dp K H (.ref b) (stD t) := by
  obtain ⟨d, h1, h2⟩ := dpa_get h hy
  rw [List.getElem?_map] at h1
  cases q : ss[i]? with
  | none =>
    rw [q] at h1
    cases h1
  | some t =>
    rw [q] at h1
    cases h1
    obtain ⟨b, c, e, _⟩ := stD_inv h2
    subst e
    exact ⟨t, b, rfl, rfl, h2⟩
theorem sts_len {H : Hp} {ys : List V} {ss : List St5} (h : DpAll K H ys (ss.map stD)) : ys.length = ss.length := by
  have := dpa_len h
  rw [List.length_map] at this
  exact this
/-- what a web that is made keeps -/
theorem made_web {C x dx lw kd dy : Addr} {H H3 : Hp} {n : Int} {ss : List St5} {ys : List V} (nx : H x = none) (ndx : H dx = none) (hw : Ex (hid x x (upd (upd H dx (.own x)) x (.ins C dx []))) H3) (fx : H3 x = some (.ins C dy (wf n lw kd))) (flw0 : upd (upd H dx (.own x)) x (.ins C dx []) lw = none) (flw : H3 lw = some (.lst ys)) (hys : DpAll K H3 ys (ss.map stD)) :
    Ex H H3 ∧ WebL K C H3 x lw n ss ∧ H lw = none := by
  have me := made_ex (o := .ins C dx []) nx ndx
  refine ⟨me.trans hw, ⟨dy, kd, ys, fx, flw, hys⟩, ?_⟩
  by_cases q1 : lw = x
  · rw [q1]
    exact nx
  · by_cases q2 : lw = dx
    · rw [q2]
      exact ndx
    · rw [upd_ne q1, upd_ne q2] at flw0
      exact flw0
end
/-- list(x) of a list or a tuple -/
abbrev rListOf (K : PySem.W.Frag) : List V → Hp → VK → Prop := fun vs G Q => ∃ p ys, vs = [V.ref p] ∧ (SqL K G p ys ∨ SqT K G p ys) ∧ ∀ l, G l = none → Q (.ref l) (upd G l (.lst ys))
end AA

set_option Elab.async false
set_option linter.all false
set_option maxRecDepth 100000
set_option maxHeartbeats 4000000
/-! The class of parts. -/
namespace AA
open PySem PySem.Spec PyProof.Rows L2 Evl
theorem nwi_ : ¬ (("_web" : Str) = "_ins") := by decide +kernel
theorem nwo_ : ¬ (("_web" : Str) = "_outs") := by decide +kernel
theorem nwk_ : ¬ (("_web" : Str) = "known") := by decide +kernel
theorem nio_ : ¬ (("_ins" : Str) = "_outs") := by decide +kernel
theorem nik_ : ¬ (("_ins" : Str) = "known") := by decide +kernel
theorem nok_ : ¬ (("_outs" : Str) = "known") := by decide +kernel
def pf (w li lo kd : Addr) : List (Str × V) := putF "known" (.ref kd) (putF "_outs" (.ref lo) (putF "_ins" (.ref li) (putF "_web" (.ref w) [])))
theorem pf_web (w li lo kd : Addr) : (pf w li lo kd).lookup ("_web" : Str) = some (.ref w) := by
  unfold pf
  rw [lookup_putF, if_neg nwk_, lookup_putF, if_neg nwo_, lookup_putF, if_neg nwi_, lookup_putF, if_pos rfl]
theorem pf_ins (w li lo kd : Addr) : (pf w li lo kd).lookup ("_ins" : Str) = some (.ref li) := by
  unfold pf
  rw [lookup_putF, if_neg nik_, lookup_putF, if_neg nio_, lookup_putF, if_pos rfl]
theorem pf_outs (w li lo kd : Addr) : (pf w li lo kd).lookup ("_outs" : Str) = some (.ref lo) := by
  unfold pf
  rw [lookup_putF, if_neg nok_, lookup_putF, if_pos rfl]
theorem pf_no (w li lo kd : Addr) {m : Str} (h1 : ¬ m = "_web") (h2 : ¬ m = "_ins") (h3 : ¬ m = "_outs") (h4 : ¬ m = "known") : (pf w li lo kd).lookup m = none := by
  unfold pf
  rw [lookup_putF, if_neg h4, lookup_putF, if_neg h3, lookup_putF, if_neg h2, lookup_putF, if_neg h1]
  all_goals rfl
/-- a part at x: its web at wb, the web's steps at lw, doors at li and lo -/
structure PtL (K : PySem.W.Frag) (CW C : Addr) (H : Hp) (x wb lw li lo : Addr) (n : Int) (ss : List St5) (is os : List Int) : Prop where
  o : ∃ dx kd, H x = some (.ins C dx (pf wb li lo kd))
  w : WebL K CW H wb lw n ss
  i : H li = some (.lst (is.map V.int))
  u : H lo = some (.lst (os.map V.int))
theorem PtL.ex {K : PySem.W.Frag} {CW C : Addr} {H H' : Hp} {x wb lw li lo : Addr} {n : Int} {ss : List St5} {is os : List Int} (h : PtL K CW C H x wb lw li lo n ss is os) (e : Ex H H') : PtL K CW C H' x wb lw li lo n ss is os :=
  ⟨let ⟨dx, kd, q⟩ := h.o; ⟨dx, kd, e _ _ q⟩, h.w.ex e, e _ _ h.i, e _ _ h.u⟩
/-- what the top has written of the class -/
structure PtTxt (K : PySem.W.Frag) (mg : Str → Option Value) (C : Addr) : Prop where
  cl : Cls K C
  nW : NoAttr K C "_web"
  nI : NoAttr K C "_ins"
  nO : NoAttr K C "_outs"
  nK : NoAttr K C "known"
  mgC : mg "Part" = some (.ref C)
section
variable {P : Program} {w : World} {K : PySem.W.Frag} {mg : Str → Option Value} {base : Heap}
/-- what Part is made of -/
def PtArg (K : PySem.W.Frag) (H : Hp) (v u vi vo : V) (BP : Prop) (BS BI BO : Nat → Prop) (Good : Int → List St5 → List Int → List Int → Prop) : Prop :=
  WbArg K H v u BP BS (fun n ss => DrArg K n H vi [] BI (fun is => DrArg K n H vo is BO (fun os => Good n ss is os)))
theorem PtArg.ex {H H' : Hp} {v u vi vo : V} {BP : Prop} {BS BI BO : Nat → Prop} {G : Int → List St5 → List Int → List Int → Prop} (h : PtArg K H v u vi vo BP BS BI BO G) (e : Ex H H') : PtArg K H' v u vi vo BP BS BI BO G :=
  (WbArg.ex h e).imp id (fun _ => id) fun n ss z => (z.ex e).imp (fun _ => id) fun is z => z.ex e
theorem PtArg.imp {H : Hp} {v u vi vo : V} {BP BP' : Prop} {BS BI BO BS' BI' BO' : Nat → Prop} {G G' : Int → List St5 → List Int → List Int → Prop} (h : PtArg K H v u vi vo BP BS BI BO G) (hp : BP → BP') (hs : ∀ i, BS i → BS' i) (hi : ∀ i, BI i → BI' i) (ho : ∀ i, BO i → BO' i) (hg : ∀ n ss is os, G n ss is os → G' n ss is os) : PtArg K H v u vi vo BP' BS' BI' BO' G' :=
  WbArg.imp h hp hs fun n ss z => z.imp hi fun is z => z.imp ho fun os z => hg n ss is os z
theorem DrArg.more {H : Hp} {n : Int} {v : V} {tk : List Int} {B : Nat → Prop} {G : List Int → Prop} (h : DrArg K n H v tk B G) : DrArg K n H v tk B (fun ds => G ds ∧ ∃ a, v = .ref a ∧ SqA K H a (ds.map V.int) ∧ ds.length ≤ 1000) := by
  rcases h with ⟨h1, h2⟩ | ⟨a, xs, h1, h2, h⟩
  · exact .inl ⟨h1, h2⟩
  · refine .inr ⟨a, xs, h1, h2, h.imp id ?_⟩
    rintro ⟨ds, q1, q2, q3, q4⟩
    refine ⟨ds, q1, q2, q3, ?_⟩
    rcases q4 with ⟨z1, z2, z3⟩ | q4
    · exact .inl ⟨z1, z2, z3, a, h1, z1 ▸ h2, q1⟩
    · exact .inr q4
theorem back_x {H G : Hp} {x l : Addr} {o : HO} (e : Ex (hid x x H) G) (hx : G x = some o) (hl : G l = none) : H l = none := by
  have n : x ≠ l := ne_of_none hx hl
  cases q : H l with
  | none => rfl
  | some o =>
    rw [e l o (by rw [hid_ne n.symm n.symm]; exact q)] at hl
    cases hl
def spPtInit (K : PySem.W.Frag) (CW C CP CS CI CO : Addr) : Sp := fun vs H Q E => ∃ (x dx : Addr) (v u vi vo : V), vs = [.ref x, v, u, vi, vo] ∧ H x = some (.ins C dx []) ∧
  PtArg K (hid x x H) v u vi vo (BadE CP "places" (hid x x H) v E) (fun i => BadE CS "index" (hid x x H) (.int (i : Nat)) E) (fun i => BadE CI "index" (hid x x H) (.int (i : Nat)) E) (fun i => BadE CO "index" (hid x x H) (.int (i : Nat)) E)
    (fun n ss is os => ∀ (H' : Hp) (ts : List St5) (wb lw li lo : Addr), Ex (hid x x H) H' → PtL K CW C H' x wb lw li lo n ts is os → H wb = none → H lw = none → H li = none → H lo = none → ts.Perm ss → SrS ts → Q .non H')
theorem scPtInit : FnScope ["self", "places", "steps", "ins", "outs", "wrong"] ["self", "places", "steps", "ins", "outs"] (defScope sPartInit) := ⟨rfl, rfl, rfl, by decide +kernel, rfl, by decide +kernel, by decide +kernel⟩
theorem hid_hid {H : Hp} {x : Addr} {o : HO} : Ex (hid x x H) (hid x x (upd H x o)) := fun z u h => by
  obtain ⟨h1, h2, _⟩ := hid_some h
  rw [hid_ne h2 h2, upd_ne h2]
  exact h1
theorem hid_in {H G : Hp} {x : Addr} (e : Ex (hid x x H) G) : Ex (hid x x H) (hid x x G) := fun z u h => by
  obtain ⟨h1, h2, _⟩ := hid_some h
  rw [hid_ne h2 h2]
  exact e _ _ h
/-- a web over another object -/
theorem WebL.upo {CW C x dx : Addr} {f : List (Str × V)} {H : Hp} {wb lw : Addr} {n : Int} {ss : List St5} {o : HO} (h : WebL K CW H wb lw n ss) (hx : H x = some (.ins C dx f)) (hw : x ≠ wb) (hl : x ≠ lw) : WebL K CW (upd H x o) wb lw n ss := by
  obtain ⟨dy, kd, ys, h1, h2, h3⟩ := h
  have nt : ∀ (xs : List V) (u : Obj), H x ≠ some (.tup xs) ∧ H x ≠ some (.frz u (.tup xs)) := fun xs u => by
    rw [hx]
    exact ⟨(fun z => nomatch z), (fun z => nomatch z)⟩
  exact ⟨dy, kd, ys, by rw [upd_ne hw.symm]; exact h1, by rw [upd_ne hl.symm]; exact h2, sts_upd nt h3⟩
theorem ok_ptInit {f CW C CP CS CI CO fW fIi fOo : Addr} {fd fdW fdI fdO : FuncData} (F : L2.Fun K "__init__" "Part.__init__" sPartInit f fd) (B : Bn mg) (T : PtTxt K mg C) (hW : mg "Web" = some (.ref CW)) (M : Mk K CW fW) (GW : FnOk P w K mg base (L2.CX P w) 5 fW fdW ["self", "places", "steps"] (spWebInit K CW CP CS)) (bW : Binds K fdW ["self", "places", "steps"] [])
    (TI : ExT K mg "BadIns" "index" CI fIi) (GI : FnOk P w K mg base CX0 1 fIi fdI ["self", "index"] (spExI CI "index")) (bI : Binds K fdI ["self", "index"] []) (TO : ExT K mg "BadOuts" "index" CO fOo) (GO : FnOk P w K mg base CX0 1 fOo fdO ["self", "index"] (spExI CO "index")) (bO : Binds K fdO ["self", "index"] [])
    (cF : C8.Cal P w K mg base 2 "first_wrong" (spFirst K) []) :
    FnOk P w K mg base (L2.CX P w) 7 f fd ["self", "places", "steps", "ins", "outs"] (spPtInit K CW C CP CS CI CO) := by
  refine F.okX scPtInit (fun vs H Q E h => ?_) (fun cdv A outer s H vs Q E hr h => ?_)
  · obtain ⟨x, dx, v, u, vi, vo, rfl, _⟩ := h
    rfl
  · obtain ⟨x, dx, v, u, vi, vo, rfl, hx, h⟩ := h
    refine ⟨_, pss_cons (ps_fld (pv 0) (pe_make (E := E) M GW (hr.mono (by decide)) (by rfl) hW bW .nil (passes_call (takes_of rfl rfl rfl rfl) fun _ _ _ _ z => z) (pa_cons (pv 1) (pa_cons (pv 2) pa_nil))) rfl)
      (pss_cons (ps_set (i := 5) scPtInit.nd rfl (Or.inl rfl) (C8.pe_c cF hr (by decide) (by rfl) (pa_cons (pv 1) (pa_cons (pv 3) (pa_cons (pe_lst pa_nil) pa_nil)))))
      (pss_cons (ps_if (pt_cmp (pc_notN (pv 5))) (pss_one (ps_raise rfl (takes_of rfl rfl rfl rfl) (pmk_oex TI.ox TI.iC TI.tC GI (hr.mono (by decide)) bI .nil pass0 (by rfl) TI.gC (pa_cons (pv 5) pa_nil)))) pss_nil)
      (pss_cons (ps_set (i := 5) scPtInit.nd rfl (Or.inl rfl) (C8.pe_c cF hr (by decide) (by rfl) (pa_cons (pv 1) (pa_cons (pv 4) (pa_cons (pv 3) pa_nil)))))
      (pss_cons (ps_if (pt_cmp (pc_notN (pv 5))) (pss_one (ps_raise rfl (takes_of rfl rfl rfl rfl) (pmk_oex TO.ox TO.iC TO.tC GO (hr.mono (by decide)) bO .nil pass0 (by rfl) TO.gC (pa_cons (pv 5) pa_nil)))) pss_nil)
      (pss_cons (ps_fld (pv 0) (pe_callTy (r := rListOf K) call_list_of (by rfl) B.list boot_list (pa_cons (pv 3) pa_nil)) rfl)
      (pss_cons (ps_fld (pv 0) (pe_callTy (r := rListOf K) call_list_of (by rfl) B.list boot_list (pa_cons (pv 4) pa_nil)) rfl)
      (pss_one (ps_fld (pv 0) pe_dnewK rfl)))))))), ?_⟩
    refine ⟨_, rfl, _, rfl, fun wb dxw nwb ndw nex => ?_⟩
    have me := made_ex (o := .ins CW dxw []) nwb ndw
    have mx := (hid_ex (a := x) (b := x) (H := H)).trans me
    rcases h with ⟨hb, kb⟩ | ⟨n, rfl, hn, hst⟩
    · exact ⟨wb, dxw, v, u, rfl, upd_same, .inl ⟨hb.imp (fun z => z.ex mx) id, kb.ex mx⟩⟩
    refine ⟨wb, dxw, .int n, u, rfl, upd_same, .inr ⟨n, rfl, hn, (hst.ex mx).imp (fun i z => z.ex mx) fun ss z H1 ts dy lw kd ys ew fx flw0 flw hys hperm hso => ⟨rfl, ?_⟩⟩⟩
    obtain ⟨e1, w1, lw0⟩ := made_web nwb ndw ew fx flw0 flw hys
    have xw : x ≠ wb := ne_of_none hx nwb
    have xl : x ≠ lw := ne_of_none hx lw0
    refine ⟨_, rfl, x, C, dx, _, rfl, e1 _ _ hx, T.cl, T.nW, by show 0 < 1000; decide, ?_⟩
    have w2 := w1.upo (o := .ins C dx (putF "_web" (.ref wb) [])) (e1 _ _ hx) xw xl
    have e2 : Ex (hid x x H) (upd H1 x (.ins C dx (putF "_web" (.ref wb) []))) := hid_up2 (hid_ex.trans e1)
    have x2 : upd H1 x (.ins C dx (putF "_web" (.ref wb) [])) x = some (.ins C dx (putF "_web" (.ref wb) [])) := upd_same
    generalize upd H1 x (.ins C dx (putF "_web" (.ref wb) [])) = H2 at w2 e2 x2 ⊢
    refine ⟨_, rfl, _, rfl, Nat.zero_le _, fun t ht => ?_⟩
    have y3 := Ex.new (o := .lst []) ht
    have f3 : upd H2 t (.lst []) t = some (.lst []) := upd_same
    generalize upd H2 t (.lst []) = H3 at y3 f3 ⊢
    have e3 := e2.trans y3
    refine ⟨n, vi, t, [], rfl, .inl (SqL.of f3), Nat.zero_le _, (z.more.ex e3).imp (fun i kb H4 e4 => ?_) fun is z2 H4 e4 => ?_⟩
    · refine ⟨_, rfl, _, rfl, ?_⟩
      refine iteT ?_
      exact ⟨_, rfl, by show 1 ≤ 1000; decide, raise_go (kb.ex (e3.trans e4))⟩
    obtain ⟨z2, ai, rfl, hai, hil⟩ := z2
    refine ⟨_, rfl, _, rfl, iteF ?_⟩
    have e34 := e3.trans e4
    refine ⟨_, rfl, _, rfl, _, rfl, n, vo, ai, is, rfl, hai.ex e34, hil, (z2.more.ex e34).imp (fun i kb H5 e5 => ?_) fun os z3 H5 e5 => ?_⟩
    · refine ⟨_, rfl, _, rfl, ?_⟩
      refine iteT ?_
      exact ⟨_, rfl, by show 1 ≤ 1000; decide, raise_go (kb.ex (e34.trans e5))⟩
    obtain ⟨k, ao, rfl, hao, hol⟩ := z3
    refine ⟨_, rfl, _, rfl, iteF ?_⟩
    have e35 := e34.trans e5
    have y25 := y3.trans (e4.trans e5)
    refine ⟨_, rfl, ai, _, rfl, hai.ex e35, fun li hli => ?_⟩
    have y6 := Ex.new (o := .lst (is.map V.int)) hli
    have f6 : upd H5 li (.lst (is.map V.int)) li = some (.lst (is.map V.int)) := upd_same
    have li0 := back_x e35 (y25 _ _ x2) hli
    generalize upd H5 li (.lst (is.map V.int)) = H6 at y6 f6 ⊢
    have x6 := (y25.trans y6) _ _ x2
    have w6 := w2.ex (y25.trans y6)
    have xli : x ≠ li := ne_of_none (y25 _ _ x2) hli
    refine ⟨_, rfl, x, C, dx, _, rfl, x6, T.cl, T.nI, by show 1 < 1000; decide, ?_⟩
    have w7 := w6.upo (o := .ins C dx (putF "_ins" (.ref li) (putF "_web" (.ref wb) []))) x6 xw xl
    have e7 : Ex (hid x x H) (upd H6 x (.ins C dx (putF "_ins" (.ref li) (putF "_web" (.ref wb) [])))) := hid_up2 (e35.trans y6)
    have x7 : upd H6 x (.ins C dx (putF "_ins" (.ref li) (putF "_web" (.ref wb) []))) x = some (.ins C dx (putF "_ins" (.ref li) (putF "_web" (.ref wb) []))) := upd_same
    have f7 : upd H6 x (.ins C dx (putF "_ins" (.ref li) (putF "_web" (.ref wb) []))) li = some (.lst (is.map V.int)) := by
      rw [upd_ne xli.symm]
      exact f6
    generalize upd H6 x (.ins C dx (putF "_ins" (.ref li) (putF "_web" (.ref wb) []))) = H7 at w7 e7 x7 f7 ⊢
    refine ⟨_, rfl, ao, _, rfl, hao.ex e7, fun lo hlo => ?_⟩
    have lo0 := back_x e7 x7 hlo
    have xlo : x ≠ lo := ne_of_none x7 hlo
    have lilo : li ≠ lo := ne_of_none f7 hlo
    have y8 := Ex.new (o := .lst (os.map V.int)) hlo
    have f8 : upd H7 lo (.lst (os.map V.int)) lo = some (.lst (os.map V.int)) := upd_same
    generalize upd H7 lo (.lst (os.map V.int)) = H8 at y8 f8 ⊢
    have x8 := y8 _ _ x7
    have w8 := w7.ex y8
    have g8 := y8 _ _ f7
    refine ⟨_, rfl, x, C, dx, _, rfl, x8, T.cl, T.nO, by show 2 < 1000; decide, ?_⟩
    have w9 := w8.upo (o := .ins C dx (putF "_outs" (.ref lo) (putF "_ins" (.ref li) (putF "_web" (.ref wb) [])))) x8 xw xl
    have e9 : Ex (hid x x H) (upd H8 x (.ins C dx (putF "_outs" (.ref lo) (putF "_ins" (.ref li) (putF "_web" (.ref wb) []))))) := hid_up2 (e7.trans y8)
    have x9 : upd H8 x (.ins C dx (putF "_outs" (.ref lo) (putF "_ins" (.ref li) (putF "_web" (.ref wb) [])))) x = some (.ins C dx (putF "_outs" (.ref lo) (putF "_ins" (.ref li) (putF "_web" (.ref wb) [])))) := upd_same
    have i9 : upd H8 x (.ins C dx (putF "_outs" (.ref lo) (putF "_ins" (.ref li) (putF "_web" (.ref wb) [])))) li = some (.lst (is.map V.int)) := by
      rw [upd_ne xli.symm]
      exact g8
    have u9 : upd H8 x (.ins C dx (putF "_outs" (.ref lo) (putF "_ins" (.ref li) (putF "_web" (.ref wb) [])))) lo = some (.lst (os.map V.int)) := by
      rw [upd_ne xlo.symm]
      exact f8
    generalize upd H8 x (.ins C dx (putF "_outs" (.ref lo) (putF "_ins" (.ref li) (putF "_web" (.ref wb) [])))) = H9 at w9 e9 x9 i9 u9 ⊢
    refine fun kd hkd => ?_
    have y10 := Ex.new (o := .dK []) hkd
    generalize upd H9 kd (.dK []) = H10 at y10 ⊢
    have x10 := y10 _ _ x9
    have w10 := w9.ex y10
    refine ⟨_, rfl, x, C, dx, _, rfl, x10, T.cl, T.nK, by show 3 < 1000; decide, ?_⟩
    refine k _ ts wb lw li lo (hid_up2 (e9.trans y10)) ⟨⟨dx, kd, upd_same⟩, w10.upo x10 xw xl, ?_, ?_⟩ nwb lw0 li0 lo0 hperm hso
    · rw [upd_ne xli.symm]
      exact y10 _ _ i9
    · rw [upd_ne xlo.symm]
      exact y10 _ _ u9
end
end AA

set_option Elab.async false
set_option linter.all false
set_option maxRecDepth 100000
set_option maxHeartbeats 4000000
/-! What a part tells; parts beside one another. -/
namespace AA
open PySem PySem.Spec PyProof.Rows L2 Evl
theorem ints_eqvA : ∀ ns ms : List Int, PyData.eqvAll (ns.map PyData.int) (ms.map PyData.int) = decide (ns = ms)
  | [], [] => rfl
  | [], _ :: _ => rfl
  | _ :: _, [] => rfl
  | s :: r, t :: q => by
    show ((s == t) && PyData.eqvAll (r.map PyData.int) (q.map PyData.int)) = decide (s :: r = t :: q)
    rw [ints_eqvA r q, Bool.eq_iff_iff]
    simp
theorem ints_eqv (ns ms : List Int) : PyData.eqv (.list (ns.map PyData.int)) (.list (ms.map PyData.int)) = decide (ns = ms) := ints_eqvA ns ms
section
variable {P : Program} {w : World} {K : PySem.W.Frag} {mg : Str → Option Value} {base : Heap}
def spPWeb (K : PySem.W.Frag) (CW C : Addr) : Sp := fun vs H Q _ => ∃ (x wb lw li lo : Addr) (n : Int) (ss : List St5) (is os : List Int), vs = [.ref x] ∧ PtL K CW C H x wb lw li lo n ss is os ∧ Q (.ref wb) H
theorem scPWeb : FnScope ["self"] ["self"] (defScope sPartWeb) := ⟨rfl, rfl, rfl, by decide +kernel, rfl, by decide +kernel, by decide +kernel⟩
theorem ok_pweb {f CW C : Addr} {fd : FuncData} (F : L2.Fun K "web" "Part.web" sPartWeb f fd) (T : PtTxt K mg C) : FnOk P w K mg base CX0 1 f fd ["self"] (spPWeb K CW C) := by
  refine F.ok scPWeb (fun vs H Q E h => ?_) (fun cdv A outer s H vs Q E hr h => ?_)
  · obtain ⟨x, wb, lw, li, lo, n, ss, is, os, rfl, _⟩ := h
    rfl
  · obtain ⟨x, wb, lw, li, lo, n, ss, is, os, rfl, ⟨⟨dx, kd, h1⟩, h2, h3, h4⟩, k⟩ := h
    exact ⟨_, pss_one (ps_ret (pe_fld (pv 0) rfl)), _, rfl, x, C, dx, _, _, rfl, h1, T.cl, T.nW, pf_web _ _ _ _, k⟩
def spPIns (K : PySem.W.Frag) (CW C : Addr) : Sp := fun vs H Q _ => ∃ (x wb lw li lo : Addr) (n : Int) (ss : List St5) (is os : List Int), vs = [.ref x] ∧ PtL K CW C H x wb lw li lo n ss is os ∧ ∀ p, H p = none → Q (.ref p) (upd H p (.lst (is.map V.int)))
theorem scPIns : FnScope ["self"] ["self"] (defScope sPartIns) := ⟨rfl, rfl, rfl, by decide +kernel, rfl, by decide +kernel, by decide +kernel⟩
theorem ok_pins {f CW C : Addr} {fd : FuncData} (F : L2.Fun K "ins" "Part.ins" sPartIns f fd) (B : Bn mg) (T : PtTxt K mg C) : FnOk P w K mg base CX0 1 f fd ["self"] (spPIns K CW C) := by
  refine F.ok scPIns (fun vs H Q E h => ?_) (fun cdv A outer s H vs Q E hr h => ?_)
  · obtain ⟨x, wb, lw, li, lo, n, ss, is, os, rfl, _⟩ := h
    rfl
  · obtain ⟨x, wb, lw, li, lo, n, ss, is, os, rfl, ⟨⟨dx, kd, h1⟩, h2, h3, h4⟩, k⟩ := h
    refine ⟨_, pss_one (ps_ret (pe_callTy call_list_of (by rfl) B.list boot_list (pa_cons (pe_fld (pv 0) rfl) pa_nil))), ?_⟩
    exact ⟨_, rfl, x, C, dx, _, _, rfl, h1, T.cl, T.nI, pf_ins _ _ _ _, li, _, rfl, .inl (SqL.of h3), fun p hp => k p hp⟩
def spPOuts (K : PySem.W.Frag) (CW C : Addr) : Sp := fun vs H Q _ => ∃ (x wb lw li lo : Addr) (n : Int) (ss : List St5) (is os : List Int), vs = [.ref x] ∧ PtL K CW C H x wb lw li lo n ss is os ∧ ∀ p, H p = none → Q (.ref p) (upd H p (.lst (os.map V.int)))
theorem scPOuts : FnScope ["self"] ["self"] (defScope sPartOuts) := ⟨rfl, rfl, rfl, by decide +kernel, rfl, by decide +kernel, by decide +kernel⟩
theorem ok_pouts {f CW C : Addr} {fd : FuncData} (F : L2.Fun K "outs" "Part.outs" sPartOuts f fd) (B : Bn mg) (T : PtTxt K mg C) : FnOk P w K mg base CX0 1 f fd ["self"] (spPOuts K CW C) := by
  refine F.ok scPOuts (fun vs H Q E h => ?_) (fun cdv A outer s H vs Q E hr h => ?_)
  · obtain ⟨x, wb, lw, li, lo, n, ss, is, os, rfl, _⟩ := h
    rfl
  · obtain ⟨x, wb, lw, li, lo, n, ss, is, os, rfl, ⟨⟨dx, kd, h1⟩, h2, h3, h4⟩, k⟩ := h
    refine ⟨_, pss_one (ps_ret (pe_callTy call_list_of (by rfl) B.list boot_list (pa_cons (pe_fld (pv 0) rfl) pa_nil))), ?_⟩
    exact ⟨_, rfl, x, C, dx, _, _, rfl, h1, T.cl, T.nO, pf_outs _ _ _ _, lo, _, rfl, .inl (SqL.of h4), fun p hp => k p hp⟩
def PtAt (K : PySem.W.Frag) (CW C : Addr) (H : Hp) (x : Addr) (n : Int) (ss : List St5) (is os : List Int) : Prop := ∃ wb lw li lo, PtL K CW C H x wb lw li lo n ss is os
theorem PtAt.ex {CW C : Addr} {H H' : Hp} {x : Addr} {n : Int} {ss : List St5} {is os : List Int} (h : PtAt K CW C H x n ss is os) (e : Ex H H') : PtAt K CW C H' x n ss is os := let ⟨a, b, c, d, q⟩ := h; ⟨a, b, c, d, q.ex e⟩
def spPEq (K : PySem.W.Frag) (CW C : Addr) : Sp := fun vs H Q _ => ∃ (x : Addr) (v : V) (n : Int) (ss : List St5) (is os : List Int), vs = [.ref x, v] ∧ PtAt K CW C H x n ss is os ∧
  ((∃ t : Value, TyF K H v t ∧ PySem.W.kitOne K t (.ref C) = some false ∧ Q (.bl false) H) ∨ ∃ (y : Addr) (m : Int) (ts : List St5) (js ps : List Int), v = .ref y ∧ PtAt K CW C H y m ts js ps ∧
    ∀ H', Ext H H' → Q (.bl ((decide (n = m) && decide (ss = ts)) && (decide (is = js) && decide (os = ps)))) H')
theorem scPEq : FnScope ["self", "other"] ["self", "other"] (defScope sPartEq) := ⟨rfl, rfl, rfl, by decide +kernel, rfl, by decide +kernel, by decide +kernel⟩
theorem ok_peq {f fE CW C : Addr} {fd fdE : FuncData} (F : L2.Fun K "__eq__" "Part.__eq__" sPartEq f fd) (B : Bn mg) (T : PtTxt K mg C) (IC : InsK K C) (hC : PySem.W.kitOne K (.ref C) (.ref C) = some true)
    (GE : FnOk P w K mg base CX0 1 fE fdE ["self", "other"] (spEqV K CW)) (bE : Binds K fdE ["self", "other"] []) (hE : PySem.W.findIn K (.ref CW) "__eq__" = some (some (.ref fE))) (iE : PySem.W.isFn K (.ref fE) = true) : FnOk P w K mg base CX0 2 f fd ["self", "other"] (spPEq K CW C) := by
  refine F.ok scPEq (fun vs H Q E h => ?_) (fun cdv A outer s H vs Q E hr h => ?_)
  · obtain ⟨x, v, n, ss, is, os, rfl, _⟩ := h
    rfl
  · obtain ⟨x, v, n, ss, is, os, rfl, ⟨wb, lw, li, lo, ⟨dx, kd, h1⟩, h2, h3, h4⟩, h⟩ := h
    refine ⟨_, pss_cons (ps_if (pt_not (pt_val (pe_callB call_is1 (by rfl) B.isinstance boot_isinstance (pa_cons (pv 1) (pa_cons (pe_glob (v := .ref C) (by rfl) T.mgC rfl) pa_nil))))) (pss_one (ps_ret pe_bl)) pss_nil)
      (pss_one (ps_ret (pe_and (pe_cmpR (op_eqV GE bE hE iE hr) (pe_fld (pv 0) rfl) (pe_fld (pv 1) rfl) (nomark _)) (pe_and (pe_cmpR (op_eqD hr.units) (pe_fld (pv 0) rfl) (pe_fld (pv 1) rfl) (nomark _)) (pe_one (pe_cmpR (op_eqD hr.units) (pe_fld (pv 0) rfl) (pe_fld (pv 1) rfl) (nomark _))))))), ?_⟩
    rcases h with ⟨t, ht, hk, k⟩ | ⟨y, m, ts, js, ps, rfl, ⟨wb2, lw2, li2, lo2, ⟨dy, kd2, g1⟩, g2, g3, g4⟩, k⟩
    · exact ⟨_, rfl, v, _, t, .ref C, false, rfl, .own C, ht, hk, false, rfl, iteT k⟩
    · refine ⟨_, rfl, .ref y, _, .ref C, .ref C, true, rfl, .own C, .inl (.base (.ins g1 IC.cl IC.ha IC.hn IC.ht IC.hm)), hC, true, rfl, ?_⟩
      refine iteF ?_
      obtain ⟨dxa, kda, ysa, hxa, _⟩ := id h2
      obtain ⟨dxb, kdb, ysb, hxb, _⟩ := id g2
      refine ⟨_, rfl, x, C, dx, _, _, rfl, h1, T.cl, T.nW, pf_web _ _ _ _, _, rfl, y, C, dy, _, _, rfl, g1, T.cl, T.nW, pf_web _ _ _ _, ?_⟩
      refine ⟨wb, dxa, _, .ref CW, rfl, hxa, .ins hxb, by simp [PySem.W.notFirst], wb, .ref wb2, n, ss, rfl, h2.at, .inr ⟨wb2, m, ts, rfl, g2.at, fun H2 e2 => ⟨_, rfl, _, rfl, ?_⟩⟩⟩
      rw [Bool.xor_false]
      have k0 := k
      have e2' : Ex H H2 := e2
      cases hb : (decide (n = m) && decide (ss = ts)) with
      | false =>
        rw [hb] at k
        exact iteF (k H2 e2)
      | true =>
        rw [hb] at k
        refine iteT ?_
        refine ⟨_, rfl, x, C, dx, _, _, rfl, e2' _ _ h1, T.cl, T.nI, pf_ins _ _ _ _, _, rfl, y, C, dy, _, _, rfl, e2' _ _ g1, T.cl, T.nI, pf_ins _ _ _ _, ?_⟩
        refine ⟨_, _, .lst (SqL.of (e2' _ _ h3)) (dp_ints is), .lst (SqL.of (e2' _ _ g3)) (dp_ints js), shaped_ints is, shaped_ints js, _, rfl, ?_⟩
        rw [ints_eqv]
        cases hi : decide (is = js) with
        | false =>
          rw [hi] at k
          exact iteF (k H2 e2)
        | true =>
          rw [hi] at k
          refine iteT ?_
          refine ⟨_, rfl, x, C, dx, _, _, rfl, e2' _ _ h1, T.cl, T.nO, pf_outs _ _ _ _, _, rfl, y, C, dy, _, _, rfl, e2' _ _ g1, T.cl, T.nO, pf_outs _ _ _ _, ?_⟩
          refine ⟨_, _, .lst (SqL.of (e2' _ _ h4)) (dp_ints os), .lst (SqL.of (e2' _ _ g4)) (dp_ints ps), shaped_ints os, shaped_ints ps, ?_⟩
          rw [ints_eqv]
          exact k H2 e2
end
end AA

set_option Elab.async false
set_option linter.all false
set_option maxRecDepth 100000
set_option maxHeartbeats 4000000
/-! name = {step: True for ..}. -/
namespace AA
open PySem PySem.Spec PyProof.Rows L2 Evl
theorem ps_setSc {X : Cx} {i : Nat} {y : Str} {py : Pos} {kx tg iter : Expr} {scope : Scope} {own : List (Str × Nat)} {j : Nat} {p0 p2 spos : Pos} {wi : TI} {g : TG} {tk : TE} (hu : X.A.units + 8 < cLine) (hc : X.calm = true) (hN : X.N.Nodup) (hy : X.N[i]? = some y) (hyl : X.env.scope.names.lookup y = some .local)
    (hsw : swapsWith (.DictComp kx (.Constant (.bool true) j p2) [⟨tg, iter, [], 0⟩] scope p0) (some (.Name y py)) spos.line X.env = pure true) (hi : PI X tg iter wi) (ok : BlkOk X.N X.env.scope scope own)
    (hg : ∀ (t : Shared) (G : Hp) (C : Addr) (cl : List (Str × Addr)) (fp : List Addr), PG (X.blk t G scope (compEnvC scope cl C X.env) fp) tg g)
    (hk : ∀ (t : Shared) (G : Hp) (C : Addr) (cl : List (Str × Addr)) (fp : List Addr), PE (X.blk t G scope (compEnvC scope cl C X.env) fp) kx tk) (hs : ∀ x, foldedSetIterable iter X.env x = pure x := by intro _; rfl) :
    PS X (.Assign [.Name y py] (.DictComp kx (.Constant (.bool true) j p2) [⟨tg, iter, [], 0⟩] scope p0) spos) (tAsg (tSc X wi g tk (own.map (·.2))) (gName i)) := ⟨fun pins t σ G D I h => by
  rw [exec_Assign_Name_used _ _ _ _ hsw]
  refine wpAny_bind (wpAny_standAt (wpAny_bind ?_))
  show wpAny _ X.A (do let _ ← comprehension (.DictComp kx (.Constant (.bool true) j p2) [⟨tg, iter, [], 0⟩] scope p0) scope X.env (firstIterPos [⟨tg, iter, [], 0⟩] p0) newDict false (eval iter X.env) (some (assign (.Name y py) X.env))) _ _ t
  have h : tSc X wi g tk (own.map (·.2)) σ G (fun x G1 => gName i x σ G1 D.nx) := h
  refine wpAny_bind (thn (sc_core (Qf := fun _ s' => SP X pins D .next s') hu hc hN I hi ok hg hk hs h fun L C s' m G' I' q hn f => ?_) fun _ s' hq => wpAny_pure (wpAny_pure hq))
  show wpAny _ _ (assign (.Name y py) X.env (.ref L)) _ _ _
  refine wpAny_assign_Name (store_ok2 (v := V.ref L) I' hN hy (.inl hyl) rfl (fun s2 I2 ⟨a, sb, ha⟩ => ?_) (.inr hyl))
  obtain ⟨f0, f1, f2, f3, f4, f5⟩ := f
  have haC : C ≠ a := ha.elim (fun z => by rw [z]; exact f1) (fun z e => f4 y a z e.symm)
  exact ⟨m, hn.sameBut sb haC, fun h3 sb3 => ⟨_, G', I2.turned (t' := s2.toks) (fun b o hb e => (sb3.2 b hb).trans e) f0 f1 f3 f4 f5, q⟩⟩⟩
end AA

set_option Elab.async false
set_option linter.all false
set_option maxRecDepth 100000
set_option maxHeartbeats 4000000
/-! read_walk. -/
namespace AA
open PySem PySem.Spec PyProof.Rows L2 Evl
/-- the walk that things make, behind steps gone already -/
def rdWalk (n : Int) (ss : List St5) : List PyData → List St5 → Option (List St5)
  | [], acc => some acc
  | d :: r, acc => match rdStep n d with
    | none => none
    | some s => if s ∈ ss then (match acc.getLast? with
      | none => rdWalk n ss r (acc ++ [s])
      | some t => if t.other = s.one then rdWalk n ss r (acc ++ [s]) else none) else none
/-- what read_walk answers -/
def WkR (K : PySem.W.Frag) (H : Hp) (r : V) : Option (List St5) → Prop
  | none => r = .non
  | some ts => ∃ (p : Addr) (ys : List V), r = .ref p ∧ H p = some (.lst ys) ∧ DpAll K H ys (ts.map stD)
theorem for_seqA {K : PySem.W.Frag} {a : Addr} {xs : List V} {g : TG} {tb : TS} {D : Ends} {σ : L2.St} {H0 H : Hp} (hq : SqL K H0 a xs ∨ SqT K H0 a xs) (Pv : Nat → L2.St → Hp → Prop) (h0 : Pv 0 σ H) (he : ∀ i σ G, Pv i σ G → Ex H0 G)
    (hs : ∀ i x σ H, xs[i]? = some x → Pv i σ H → g x σ H fun σ2 H2 => tb { D with nx := Pv (i + 1), ct := Pv (i + 1), bk := D.nx } σ2 H2) (hd : ∀ σ H, Pv xs.length σ H → D.nx σ H) :
    ((∃ xs, SqL K H a xs) ∧ ∃ W : Nat → Nat → L2.St → Hp → Prop, (∃ m, W 0 m σ H) ∧ ∀ i m σ H, W i m σ H →
      ((Itl K a).stop i H ∧ D.nx σ H) ∨ ((Itl K a).go i H ∧ ∃ N : L2.St → Hp → Prop, (∀ σ' H', N σ' H' → ∃ m', m' < m ∧ W (i + 1) m' σ' H') ∧ ∀ x H', (Itl K a).yld i H x H' → g x σ H' fun σ2 H2 => tb { D with nx := N, ct := N, bk := D.nx } σ2 H2)) ∨
    ((∃ xs, SqT K H a xs) ∧ ∃ W : Nat → Nat → L2.St → Hp → Prop, (∃ m, W 0 m σ H) ∧ ∀ i m σ H, W i m σ H →
      ((Itt K a).stop i H ∧ D.nx σ H) ∨ ((Itt K a).go i H ∧ ∃ N : L2.St → Hp → Prop, (∀ σ' H', N σ' H' → ∃ m', m' < m ∧ W (i + 1) m' σ' H') ∧ ∀ x H', (Itt K a).yld i H x H' → g x σ H' fun σ2 H2 => tb { D with nx := N, ct := N, bk := D.nx } σ2 H2)) :=
  hq.imp (fun q => ⟨⟨xs, ex_l (he _ _ _ h0) q⟩, for_list Pv h0 (fun i σ G hi p => ex_l (he i σ G p) q) hs hd⟩) (fun q => ⟨⟨xs, ex_t (he _ _ _ h0) q⟩, for_tup Pv h0 (fun i σ G hi p => ex_t (he i σ G p) q) hs hd⟩)
theorem atI_last {α : Type} (xs : List α) (x : α) : atI (xs ++ [x]) (-1) = some x := by
  have e : ixN (xs ++ [x]).length (-1) = some xs.length := by
    rw [List.length_append]
    show ixN (xs.length + 1) (-1) = _
    unfold ixN
    rw [if_neg (by omega), if_pos (by omega)]
    congr 1
    omega
  unfold atI
  rw [e]
  show (xs ++ [x])[xs.length]? = some x
  simp
theorem drop_get {α : Type} : ∀ {l : List α} {i : Nat} {x : α}, l[i]? = some x → l.drop i = x :: l.drop (i + 1)
  | [], _, _, h => by simp at h
  | a :: l, 0, x, h => by
    cases (Option.some.inj h)
    rfl
  | a :: l, i + 1, x, h => drop_get (l := l) (i := i) (x := x) h
section
variable {P : Program} {w : World} {K : PySem.W.Frag} {mg : Str → Option Value} {base : Heap}
def spReadWalk (K : PySem.W.Frag) (C : Addr) : Sp := fun vs H Q _ => ∃ (x : Addr) (n : Int) (ss : List St5) (v : V), vs = [.ref x, v] ∧ WebAt K C H x n ss ∧ ss.Nodup ∧ ss.length ≤ 1000000 ∧
  ((Lk K H v false ∧ ∀ H', Ex H H' → Q .non H') ∨
    ∃ d, Dp K H v d ∧ isListD d = true ∧ (itemsD d).length ≤ 1000000 ∧ ∀ H' r, Ex H H' → WkR K H' r (rdWalk n ss (itemsD d) []) → Q r H')
theorem scReadWalk : FnScope ["web", "thing", "step", "known", "walk", "part"] ["web", "thing"] (defScope sReadWalk) := ⟨rfl, rfl, rfl, by decide +kernel, rfl, by decide +kernel, by decide +kernel⟩
theorem ok_readWalk {f C fP fS : Addr} {fd fdP fdS : FuncData} (F : L2.Fun K "read_walk" "read_walk" sReadWalk f fd) (B : Bn mg) (T : WebTxt K mg C) (cR : C8.Cal P w K mg base 3 "read_step" (spReadStep K) []) (cL : C8.Cal P w K mg base 1 "is_list" (spIsList K) [])
    (GP : FnOk P w K mg base CX0 1 fP fdP ["self"] (spPlaces K C)) (bP : Binds K fdP ["self"] []) (mP : Meth K C "places" fP) (GS : FnOk P w K mg base CX0 1 fS fdS ["self"] (spSteps K C)) (bS : Binds K fdS ["self"] []) (mS : Meth K C "steps" fS) :
    FnOk P w K mg base CX0 4 f fd ["web", "thing"] (spReadWalk K C) := by
  refine F.ok scReadWalk (fun vs H Q E h => ?_) (fun cdv A outer s H vs Q E hr h => ?_)
  · obtain ⟨x, n, ss, v, rfl, _⟩ := h
    rfl
  · obtain ⟨x, n, ss, v, rfl, hW, hnd, hsz, k⟩ := h
    have hun := hr.un
    have hu9 : (A.deeper (envOfC "read_walk" (defScope sReadWalk) s.heap.objs.size f cdv)).units + 9 < cLine := by omega
    have hu8 : (A.deeper (envOfC "read_walk" (defScope sReadWalk) s.heap.objs.size f cdv)).units + 8 < cLine := by omega
    have hr1 : Room 1 _ := hr.mono (by decide)
    refine ⟨_, pss_cons (ps_if (pt_not (pt_val (C8.pe_c cL hr (by decide) (by rfl) (pa_cons (pv 1) pa_nil)))) (pss_one (ps_ret pe_non)) pss_nil)
      (pss_cons (ps_setSc (i := 3) (own := [("step", 2)]) hu8 rfl scReadWalk.nd rfl rfl (sw_trueD rfl rfl rfl (by decide +kernel)) (pi_list (pe_meth0 (pv 0) T.cl mS GS hr1 bS .nil pass0)) (blkOk_by (N := ["web", "thing", "step", "known", "walk", "part"]) (sc := defScope sReadWalk) (by decide +kernel))
          (fun _ _ _ _ _ => pg_name (i := 2) scReadWalk.nd rfl (Or.inl rfl)) (fun _ _ _ _ _ => pv 2))
      (pss_cons (ps_set (i := 4) scReadWalk.nd rfl (Or.inl rfl) (pe_lst pa_nil))
      (pss_cons (ps_for PassesOwn.never rfl (pi_or (pi_list (pv 1)) (pi_tup (pv 1))) (pg_name (i := 5) scReadWalk.nd rfl (Or.inl rfl))
        (pss_cons (ps_set (i := 2) scReadWalk.nd rfl (Or.inl rfl) (C8.pe_c cR hr (by decide) (by rfl) (pa_cons (pe_meth0 (pv 0) T.cl mP GP hr1 bP .nil pass0) (pa_cons (pv 5) pa_nil))))
        (pss_cons (ps_if (pt_cmp (pc_snot hu9 (pv 2) (pv 3))) (pss_one (ps_ret pe_non)) pss_nil)
        (pss_cons (ps_if (PW.pt (pw_and (pt_truth (pv 4) (fun _ => rfl)) (pw_and1 (pt_cmpR op_ne (pe_ix ix_tup (pe_ix ix_list (pv 4) (pe_un un_neg pe_int) (fun _ _ => rfl)) pe_int (fun _ _ => rfl)) (pe_ix ix_tup (pv 2) pe_int (fun _ _ => rfl)) (nomark _))))) (pss_one (ps_ret pe_non)) pss_nil)
        (pss_one (ps_expr (pe_bm PySem.F.plainAttrs_list PySem.F.slot_list_append PySem.F.type_list_append mt_append (pv 4) (pa_cons (pv 2) pa_nil))))))))
      (pss_one (ps_ret (pv 4)))))), ?_⟩
    rcases k with ⟨hlk, k⟩ | ⟨d, hd, hl, hdz, k⟩
    · exact ⟨_, rfl, v, false, rfl, hlk, fun H1 e1 => ⟨_, rfl, iteT (k H1 e1)⟩⟩
    obtain ⟨a, xs, ds, rfl, hX, hs⟩ := dp_seq hd hl
    have hlen := dpa_len hX
    have hit : itemsD d = ds := by
      rcases hs with ⟨rfl, _⟩ | ⟨rfl, _⟩ <;> rfl
    rw [hit] at k hdz
    refine ⟨_, rfl, .ref a, true, rfl, by have := lk_dp hd; rw [hl] at this; exact this, fun H1 e1 => ⟨_, rfl, ?_⟩⟩
    refine iteF ?_
    obtain ⟨dx, l0, kd0, ys0, hx1, hl01, hys0⟩ := hW.ex e1
    refine ⟨_, rfl, x, dx, _, rfl, hx1, wf_no _ _ _ (by decide +kernel) (by decide +kernel) (by decide +kernel), x, n, ss, rfl, hW.ex e1, fun p ys hp hys => ⟨p, rfl, ⟨ys, SqL.of upd_same⟩, fun D hD => ?_⟩⟩
    have e2 : Ex H1 (upd H1 p (.lst ys)) := Ex.new hp
    have hys2 := dpa_ex e2 _ _ hys
    refine sc_list (xs := ys) (fun i G => Ex (upd H1 p (.lst ys)) G ∧ ∃ ks : List (St5 × Addr), G D = some (SD P w D ks) ∧ KsOk K G ks ∧ ks.map (·.1) = ss.take i) ⟨Ex.new hD, [], upd_same, KsOk.nil, by rw [List.take_zero]; rfl⟩ (fun i G _ q => ex_l q.1 (SqL.of upd_same)) ?_ ?_
    · rintro i y G hy ⟨q1, ks, q2, q3, q4⟩
      obtain ⟨t, b, ht, rfl, hb⟩ := sts_get hys2 hy
      have hb2 := dp_ex q1 _ _ hb
      have hkl : ks.length ≤ 1000000 := by
        have := congrArg List.length q4
        rw [List.length_map, List.length_take] at this
        omega
      refine ⟨rfl, _, rfl, ks, b, t, rfl, q2, q3, hb2, by rw [q4]; exact nodup_take hnd ht, sz_m hkl, Ex.mut q1 hD, ks ++ [(t, b)], upd_same, (ks_upd q2 q3).snoc (st_upd q2 hb2), ?_⟩
      rw [List.map_append, q4, List.take_succ, ht]
      rfl
    · rintro G ⟨q1, ks, q2, q3, q4⟩
      rw [sts_len hys, List.take_length] at q4
      refine ⟨Nat.zero_le _, fun l hl2 => ?_⟩
      have e3 : Ex H G := e1.trans (e2.trans q1)
      have hDl : D ≠ l := ne_of_none q2 hl2
      have hWG : WebAt K C G x n ss := hW.ex e3
      have kon : rdWalk n ss ds [] = none → ∀ G', Ex H G' → Q .non G' := fun z G' ez => k G' .non ez (by rw [z]; rfl)
      refine Or.imp (fun z => ⟨_, rfl, a, rfl, z.1, z.2⟩) (fun z => ⟨_, rfl, a, rfl, z.1, z.2⟩) (for_seqA (K := K) (a := a) (xs := xs) (H0 := H) (hs.imp And.right And.right)
        (fun i σ G' => ∃ (x2 x5 : Option V) (ts : List St5) (us : List V), σ = [some (.ref x), some (.ref a), x2, some (.ref D), some (.ref l), x5] ∧ Ex G G' ∧ G' l = some (.lst us) ∧ DpAll K G' us (ts.map stD) ∧ rdWalk n ss ds [] = rdWalk n ss (ds.drop i) ts ∧ ts.length = i) ?_ ?_ ?_ ?_)
      · exact ⟨none, none, [], [], rfl, Ex.new hl2, upd_same, .nil, by rw [List.drop_zero], rfl⟩
      · rintro i σ G' ⟨x2, x5, ts, us, rfl, r1, _⟩
        exact e3.trans r1
      · rintro i y σ G' hy ⟨x2, x5, ts, us, rfl, r1, r2, r3, r4, r5⟩
        obtain ⟨di, hdi, hyd⟩ := dpa_get hX hy
        have hil := (List.getElem?_eq_some_iff.mp hdi).1
        rw [drop_get hdi] at r4
        have hWG' := hWG.ex r1
        obtain ⟨dx', l', kd', ys', hx', hl', _⟩ := id hWG'
        refine ⟨_, rfl, x, dx', _, rfl, hx', wf_no _ _ _ (by decide +kernel) (by decide +kernel) (by decide +kernel), x, n, ss, rfl, hWG', _, rfl, n, y, rfl, .inr ⟨di, dp_ex (e3.trans r1) _ _ hyd, fun G3 r e4 hr3 => ?_⟩⟩
        have hG3 := r1.trans e4
        have hD3 : G3 D = some (SD P w D ks) := hG3 _ _ q2
        have hk3 : KsOk K G3 ks := q3.ex hG3
        have hL3 : G3 l = some (.lst us) := e4 _ _ r2
        have hU3 : DpAll K G3 us (ts.map stD) := dpa_ex e4 _ _ r3
        refine ⟨_, rfl, _, rfl, ?_⟩
        cases hrs : rdStep n di with
        | none =>
          rw [hrs] at hr3
          cases (show r = V.non from hr3)
          refine .inr ⟨⟨D, ks, rfl, rfl, hD3, hk3⟩, _, rfl, iteT (kon ?_ _ (e3.trans hG3))⟩
          rw [r4]
          unfold rdWalk
          rw [hrs]
        | some t =>
          rw [hrs] at hr3
          obtain ⟨b, c, rfl, hb1, hb2⟩ := stD_inv hr3
          refine .inl ⟨_, ⟨D, ks, b, t, rfl, rfl, hD3, hk3, hr3, rfl⟩, _, rfl, ?_⟩
          rw [q4]
          by_cases hmem : t ∈ ss
          · rw [decide_eq_true hmem]
            refine iteF ?_
            have hgo : (match ts.getLast? with | none => rdWalk n ss (ds.drop (i + 1)) (ts ++ [t]) | some u => if u.other = t.one then rdWalk n ss (ds.drop (i + 1)) (ts ++ [t]) else none) = rdWalk n ss ds [] := by
              rw [r4]
              conv => rhs; unfold rdWalk
              rw [hrs]
              show _ = if t ∈ ss then _ else none
              rw [if_pos hmem]
            have hul : us.length ≤ 1000000 := by
              have := sts_len hU3
              omega
            have fin : rdWalk n ss ds [] = rdWalk n ss (ds.drop (i + 1)) (ts ++ [t]) → ∃ (x2 x5 : Option V) (ts' : List St5) (us' : List V), [some (V.ref x), some (V.ref a), some (V.ref b), some (V.ref D), some (V.ref l), some y] = [some (V.ref x), some (V.ref a), x2, some (V.ref D), some (V.ref l), x5] ∧ Ex G (upd G3 l (.lst (us ++ [.ref b]))) ∧
                upd G3 l (.lst (us ++ [.ref b])) l = some (.lst us') ∧ DpAll K (upd G3 l (.lst (us ++ [.ref b]))) us' (ts'.map stD) ∧ rdWalk n ss ds [] = rdWalk n ss (ds.drop (i + 1)) ts' ∧ ts'.length = i + 1 := fun z => by
              refine ⟨_, _, ts ++ [t], us ++ [.ref b], rfl, Ex.mut hG3 hl2, upd_same, sts_upd (nt_lst hL3) ?_, z, by rw [List.length_append, r5]; rfl⟩
              rw [List.map_append]
              exact dpa_app hU3 (.cons hr3 .nil)
            refine ⟨_, rfl, !us.isEmpty, .inl ⟨us, SqL.of hL3, rfl⟩, ?_⟩
            rcases List.eq_nil_or_concat ts with h0 | ⟨tr, tl, h0⟩
            · subst h0
              have hu0 : us = [] := List.eq_nil_of_length_eq_zero (sts_len hU3)
              subst hu0
              refine iteF ?_
              refine iteF ?_
              exact ⟨_, rfl, .inl ⟨rfl, _, SqL.of hL3⟩, _, rfl, l, _, _, rfl, rfl, hL3, sz_m hul, fin hgo.symm⟩
            · rw [List.concat_eq_append] at h0
              subst h0
              have hlast : (tr ++ [tl]).getLast? = some tl := by simp
              rw [hlast] at hgo
              rcases List.eq_nil_or_concat us with h1 | ⟨ur, ul, h1⟩
              · subst h1
                have := sts_len hU3
                simp at this
              · rw [List.concat_eq_append] at h1
                subst h1
                have hne : (ur ++ [ul]).isEmpty = false := by simp
                rw [hne]
                refine iteT ?_
                have hlen2 : ur.length = tr.length := by
                  have := sts_len hU3
                  simp at this
                  exact this
                obtain ⟨t2, b2, g1, g2, g3⟩ := sts_get (i := ur.length) (y := ul) hU3 (by simp)
                rw [hlen2] at g1
                have et : t2 = tl := by
                  have : (tr ++ [tl])[tr.length]? = some tl := by simp
                  rw [this] at g1
                  exact (Option.some.inj g1).symm
                subst et
                subst g2
                obtain ⟨b3, c3, hb3, g4, g5⟩ := stD_inv g3
                cases hb3
                have hat : atI (ur ++ [V.ref b2]) (-1) = some (V.ref b2) := atI_last ur _
                refine ⟨_, rfl, _, rfl, l, _, _, _, rfl, rfl, SqL.of hL3, hat, b2, _, 1, .int t2.other, rfl, rfl, g4, rfl, _, rfl, b, _, 0, .int t.one, rfl, rfl, hb1, rfl, rfl, _, rfl, ?_⟩
                have hgo : (if t2.other = t.one then rdWalk n ss (ds.drop (i + 1)) (tr ++ [t2] ++ [t]) else none) = rdWalk n ss ds [] := hgo
                by_cases heq : t2.other = t.one
                · rw [if_pos heq] at hgo
                  rw [decide_eq_true (by rw [heq])]
                  refine iteF ?_
                  exact ⟨_, rfl, .inl ⟨rfl, _, SqL.of hL3⟩, _, rfl, l, _, _, rfl, rfl, hL3, sz_m hul, fin hgo.symm⟩
                · rw [if_neg heq] at hgo
                  rw [decide_eq_false (fun z => heq (V.int.inj z))]
                  exact iteT (kon hgo.symm _ (e3.trans hG3))
          · rw [decide_eq_false hmem]
            refine iteT (kon ?_ _ (e3.trans hG3))
            rw [r4]
            unfold rdWalk
            rw [hrs]
            show (if t ∈ ss then _ else none) = none
            rw [if_neg hmem]
      · rintro σ G' ⟨x2, x5, ts, us, rfl, r1, r2, r3, r4, r5⟩
        rw [hlen, List.drop_length] at r4
        refine ⟨_, rfl, k G' _ (e3.trans r1) ?_⟩
        rw [r4]
        exact ⟨l, us, rfl, r2, r3⟩
end
end AA

set_option Elab.async false
set_option linter.all false
set_option maxRecDepth 100000
set_option maxHeartbeats 4000000
/-! check_door, is_pass. -/
namespace AA
open PySem PySem.Spec PyProof.Rows L2 Evl
/-- the walk that was read leads from one place to the other -/
def passB : Option (List St5) → Int → Int → Bool
  | none, _, _ => false
  | some ts, a, b => match ts.head?, ts.getLast? with
    | some s, some t => decide (s.one = a) && decide (t.other = b)
    | _, _ => false
section
variable {P : Program} {w : World} {K : PySem.W.Frag} {mg : Str → Option Value} {base : Heap}
theorem scBadDo : FnScope ["self", "number"] ["self", "number"] (defScope sBadDoInit) := ⟨rfl, rfl, rfl, by decide +kernel, rfl, by decide +kernel, by decide +kernel⟩
theorem ok_badDo {CB f fI : Addr} {fd : FuncData} (F : L2.Fun K "__init__" "BadDoor.__init__" sBadDoInit f fd) (T : ExT K mg "BadDoor" "number" CB fI) : FnOk P w K mg base CX0 1 f fd ["self", "number"] (spExI CB "number") := by
  refine F.ok scBadDo (fun vs H Q E h => ?_) (fun cdv A outer s H vs Q E hr h => ?_)
  · obtain ⟨a, v, rfl, _⟩ := h
    rfl
  · obtain ⟨a, v, rfl, ha, k⟩ := h
    exact ⟨_, pss_one (ps_ost (pv 0) (pv 1) rfl), _, rfl, _, rfl, a, CB, rfl, T.ox, T.no, .inl ⟨ha, k⟩⟩
theorem scBadWa : FnScope ["self", "index"] ["self", "index"] (defScope sBadWaInit) := ⟨rfl, rfl, rfl, by decide +kernel, rfl, by decide +kernel, by decide +kernel⟩
theorem ok_badWa {CB f fI : Addr} {fd : FuncData} (F : L2.Fun K "__init__" "BadWays.__init__" sBadWaInit f fd) (T : ExT K mg "BadWays" "index" CB fI) : FnOk P w K mg base CX0 1 f fd ["self", "index"] (spExI CB "index") := by
  refine F.ok scBadWa (fun vs H Q E h => ?_) (fun cdv A outer s H vs Q E hr h => ?_)
  · obtain ⟨a, v, rfl, _⟩ := h
    rfl
  · obtain ⟨a, v, rfl, ha, k⟩ := h
    exact ⟨_, pss_one (ps_ost (pv 0) (pv 1) rfl), _, rfl, _, rfl, a, CB, rfl, T.ox, T.no, .inl ⟨ha, k⟩⟩
/-- a thing that is no number of so many doors -/
def NoNum (K : PySem.W.Frag) (H : Hp) (m : Nat) (v : V) : Prop := NotI K H v ∨ ∃ j : Int, v = .int j ∧ (j < 0 ∨ (m : Int) ≤ j)
theorem NoNum.ex {H H' : Hp} {m : Nat} {v : V} (h : NoNum K H m v) (e : Ex H H') : NoNum K H' m v := h.imp (fun y => y.ex e) id
def spDoor (K : PySem.W.Frag) (CB : Addr) : Sp := fun vs H Q E => ∃ (l : Addr) (xs : List V) (v : V), vs = [.ref l, v] ∧ SqL K H l xs ∧ ((NoNum K H xs.length v ∧ BadE CB "number" H v E) ∨ ∃ i : Nat, v = .int (i : Int) ∧ i < xs.length ∧ Q .non H)
theorem scDoor : FnScope ["doors", "number"] ["doors", "number"] (defScope sCheckDoor) := ⟨rfl, rfl, rfl, by decide +kernel, rfl, by decide +kernel, by decide +kernel⟩
theorem ok_door {f CB fB : Addr} {fd fdB : FuncData} (F : L2.Fun K "check_door" "check_door" sCheckDoor f fd) (B : Bn mg) (TB : ExT K mg "BadDoor" "number" CB fB) (GB : FnOk P w K mg base CX0 1 fB fdB ["self", "number"] (spExI CB "number")) (bB : Binds K fdB ["self", "number"] [])
    (cI : C8.Cal P w K mg base 1 "is_integer" (spIsIntegerV K) []) : FnOk P w K mg base (L2.CX P w) 3 f fd ["doors", "number"] (spDoor K CB) := by
  refine F.okX scDoor (fun vs H Q E h => ?_) (fun cdv A outer s H vs Q E hr h => ?_)
  · obtain ⟨l, xs, v, rfl, _⟩ := h
    rfl
  · obtain ⟨l, xs, v, rfl, hl, h⟩ := h
    refine ⟨_, pss_one (ps_if (PW.pt (pw_or (pt_not (pt_val (C8.pe_c cI hr (by decide) (by rfl) (pa_cons (pv 1) pa_nil)))) (pw_or (pt_cmpR op_lt (pv 1) pe_int (nomark _)) (pw_or1 (pt_cmpR op_ge (pv 1) (pe_callB call_len_seq (by rfl) B.len PySem.boot_len (pa_cons (pv 0) pa_nil)) (nomark _))))))
        (pss_one (ps_raise rfl (takes_of rfl rfl rfl rfl) (pmk_oex TB.ox TB.iC TB.tC GB (hr.mono (by decide)) bB .nil pass0 (by rfl) TB.gC (pa_cons (pv 1) pa_nil)))) pss_nil), ?_⟩
    rcases h with ⟨hb, kb⟩ | ⟨i, rfl, hi, k⟩
    · rcases hb with hni | ⟨j, rfl, hj⟩
      · refine ⟨_, rfl, v, rfl, .inl ⟨hni, ⟨_, rfl, iteT (iteT ?_)⟩⟩⟩
        exact ⟨_, rfl, by show 1 ≤ 1000; decide, raise_go kb⟩
      · refine ⟨_, rfl, .int j, rfl, .inr ⟨j, rfl, ⟨_, rfl, iteF ?_⟩⟩⟩
        refine ⟨_, rfl, _, _, rfl, rfl, _, rfl, ?_⟩
        refine dec_ite (fun z => iteT ⟨_, rfl, by show 1 ≤ 1000; decide, raise_go kb⟩) (fun z => ?_)
        refine ⟨_, rfl, _, rfl, l, xs, rfl, .inl hl, _, _, rfl, rfl, _, rfl, ?_⟩
        refine dec_ite (fun z => ⟨_, rfl, by show 1 ≤ 1000; decide, raise_go kb⟩) (fun z => ?_)
        omega
    · refine ⟨_, rfl, .int (i : Int), rfl, .inr ⟨_, rfl, ⟨_, rfl, iteF ?_⟩⟩⟩
      refine ⟨_, rfl, _, _, rfl, rfl, _, rfl, ?_⟩
      refine dec_ite (fun z => by omega) (fun z => ?_)
      refine ⟨_, rfl, _, rfl, l, xs, rfl, .inl hl, _, _, rfl, rfl, _, rfl, ?_⟩
      refine dec_ite (fun z => by omega) (fun z => ?_)
      exact k
def spPass (K : PySem.W.Frag) (CW C CB : Addr) : Sp := fun vs H Q E => ∃ (p wb lw li lo : Addr) (n : Int) (ss : List St5) (is os : List Int) (vi vj v : V), vs = [.ref p, vi, vj, v] ∧ PtL K CW C H p wb lw li lo n ss is os ∧ ss.Nodup ∧ ss.length ≤ 1000000 ∧
  ((NoNum K H is.length vi ∧ BadE CB "number" H vi E) ∨ ∃ i a, vi = .int (i : Nat) ∧ is[i]? = some a ∧ ((NoNum K H os.length vj ∧ BadE CB "number" H vj E) ∨ ∃ j b, vj = .int (j : Nat) ∧ os[j]? = some b ∧
    ((Lk K H v false ∧ ∀ H', Ex H H' → Q (.bl false) H') ∨ ∃ d, Dp K H v d ∧ isListD d = true ∧ (itemsD d).length ≤ 1000000 ∧ ∀ H', Ex H H' → Q (.bl (passB (rdWalk n ss (itemsD d) []) a b)) H')))
theorem scPass : FnScope ["part", "i", "j", "thing", "ins", "outs", "walk"] ["part", "i", "j", "thing"] (defScope sIsPass) := ⟨rfl, rfl, rfl, by decide +kernel, rfl, by decide +kernel, by decide +kernel⟩
theorem ok_pass {f CW C CB gW gN gO fDo : Addr} {fd ddW ddN ddO fdD : FuncData} (F : L2.Fun K "is_pass" "is_pass" sIsPass f fd) (B : Bn mg) (T : PtTxt K mg C)
    (GW : FnOk P w K mg base CX0 1 gW ddW ["self"] (spPWeb K CW C)) (bW : Binds K ddW ["self"] []) (mW : Meth K C "web" gW) (GN : FnOk P w K mg base CX0 1 gN ddN ["self"] (spPIns K CW C)) (bN : Binds K ddN ["self"] []) (mN : Meth K C "ins" gN) (GO : FnOk P w K mg base CX0 1 gO ddO ["self"] (spPOuts K CW C)) (bO : Binds K ddO ["self"] []) (mO : Meth K C "outs" gO)
    (GD : FnOk P w K mg base (L2.CX P w) 3 fDo fdD ["doors", "number"] (spDoor K CB)) (mD : mg "check_door" = some (.ref fDo)) (kD : PySem.W.keepIn K (.ref fDo) = true) (bD : Binds K fdD ["doors", "number"] [])
    (cR : C8.Cal P w K mg base 4 "read_walk" (spReadWalk K CW) []) : FnOk P w K mg base (L2.CX P w) 5 f fd ["part", "i", "j", "thing"] (spPass K CW C CB) := by
  refine F.okX scPass (fun vs H Q E h => ?_) (fun cdv A outer s H vs Q E hr h => ?_)
  · obtain ⟨p, wb, lw, li, lo, n, ss, is, os, vi, vj, v, rfl, _⟩ := h
    rfl
  · obtain ⟨p, wb, lw, li, lo, n, ss, is, os, vi, vj, v, rfl, hP, hnd, hsz, h⟩ := h
    have hr1 : Room 1 _ := hr.mono (by decide)
    refine ⟨_, pss_cons (ps_set (i := 4) scPass.nd rfl (Or.inl rfl) (pe_meth0 (pv 0) T.cl mN GN hr1 bN .nil pass0))
      (pss_cons (ps_set (i := 5) scPass.nd rfl (Or.inl rfl) (pe_meth0 (pv 0) T.cl mO GO hr1 bO .nil pass0))
      (pss_cons (ps_expr (pe_callS (E := WE fun cls d _ H => E cls d H) GD (hr.mono (by decide)) (by rfl) mD kD bD (fun σ => passAt (takes_of rfl rfl rfl rfl) σ) (pa_cons (pv 4) (pa_cons (pv 1) pa_nil))))
      (pss_cons (ps_expr (pe_callS (E := WE fun cls d _ H => E cls d H) GD (hr.mono (by decide)) (by rfl) mD kD bD (fun σ => passAt (takes_of rfl rfl rfl rfl) σ) (pa_cons (pv 5) (pa_cons (pv 2) pa_nil))))
      (pss_cons (ps_set (i := 6) scPass.nd rfl (Or.inl rfl) (C8.pe_c cR hr (by decide) (by rfl) (pa_cons (pe_meth0 (pv 0) T.cl mW GW hr1 bW .nil pass0) (pa_cons (pv 3) pa_nil))))
      (pss_cons (ps_if (pt_not (pt_truth (pv 6) (fun _ => rfl))) (pss_one (ps_ret pe_bl)) pss_nil)
      (pss_one (ps_ret (pe_and (pe_cmpR op_eq (pe_ix ix_tup (pe_ix ix_list (pv 6) pe_int (fun _ _ => rfl)) pe_int (fun _ _ => rfl)) (pe_ix ix_list (pv 4) (pv 1) (fun _ _ => rfl)) (nomark _))
        (pe_one (pe_cmpR op_eq (pe_ix ix_tup (pe_ix ix_list (pv 6) (pe_un un_neg pe_int) (fun _ _ => rfl)) pe_int (fun _ _ => rfl)) (pe_ix ix_list (pv 5) (pv 2) (fun _ _ => rfl)) (nomark _)))))))))))
      , ?_⟩
    obtain ⟨dxp, kdp, hx⟩ := hP.o
    have no : ∀ {m : Str}, ¬ m = "_web" → ¬ m = "_ins" → ¬ m = "_outs" → ¬ m = "known" → (pf wb li lo kdp).lookup m = none := fun h1 h2 h3 h4 => pf_no _ _ _ _ h1 h2 h3 h4
    refine ⟨_, rfl, p, dxp, _, rfl, hx, no (by decide +kernel) (by decide +kernel) (by decide +kernel) (by decide +kernel), p, wb, lw, li, lo, n, ss, is, os, rfl, hP, fun q1 hq1 => ?_⟩
    have y1 := Ex.new (o := .lst (is.map V.int)) hq1
    have f1 : upd H q1 (.lst (is.map V.int)) q1 = some (.lst (is.map V.int)) := upd_same
    generalize upd H q1 (.lst (is.map V.int)) = G1 at y1 f1 ⊢
    refine ⟨_, rfl, p, dxp, _, rfl, y1 _ _ hx, no (by decide +kernel) (by decide +kernel) (by decide +kernel) (by decide +kernel), p, wb, lw, li, lo, n, ss, is, os, rfl, hP.ex y1, fun q2 hq2 => ?_⟩
    have y2 := Ex.new (o := .lst (os.map V.int)) hq2
    have f2 : upd G1 q2 (.lst (os.map V.int)) q2 = some (.lst (os.map V.int)) := upd_same
    generalize upd G1 q2 (.lst (os.map V.int)) = G2 at y2 f2 ⊢
    have e2 := y1.trans y2
    have g1 := y2 _ _ f1
    have hmi : (is.map V.int).length = is.length := List.length_map ..
    have hmo : (os.map V.int).length = os.length := List.length_map ..
    refine ⟨_, rfl, _, rfl, q1, _, vi, rfl, SqL.of g1, ?_⟩
    rcases h with ⟨hb, kb⟩ | ⟨i, a, rfl, hi, h⟩
    · exact .inl ⟨by rw [hmi]; exact hb.ex e2, kb.ex e2⟩
    have il := (List.getElem?_eq_some_iff.mp hi).1
    refine .inr ⟨i, rfl, by rw [hmi]; exact il, ?_⟩
    refine ⟨_, rfl, _, rfl, q2, _, vj, rfl, SqL.of f2, ?_⟩
    rcases h with ⟨hb, kb⟩ | ⟨j, b, rfl, hj, h⟩
    · exact .inl ⟨by rw [hmo]; exact hb.ex e2, kb.ex e2⟩
    have jl := (List.getElem?_eq_some_iff.mp hj).1
    refine .inr ⟨j, rfl, by rw [hmo]; exact jl, ?_⟩
    refine ⟨_, rfl, p, dxp, _, rfl, e2 _ _ hx, no (by decide +kernel) (by decide +kernel) (by decide +kernel) (by decide +kernel), p, wb, lw, li, lo, n, ss, is, os, rfl, hP.ex e2, _, rfl, wb, n, ss, v, rfl, (hP.ex e2).w.at, hnd, hsz, ?_⟩
    rcases h with ⟨hlk, k⟩ | ⟨d, hd, hl, hdz, k⟩
    · exact .inl ⟨hlk.ex e2, fun G3 e3 => ⟨_, rfl, false, rfl, iteT (k _ (e2.trans e3))⟩⟩
    refine .inr ⟨d, dp_ex e2 _ _ hd, hl, hdz, fun G3 r e3 hr3 => ?_⟩
    have k3 := k G3 (e2.trans e3)
    cases hw : rdWalk n ss (itemsD d) [] with
    | none =>
      rw [hw] at hr3 k3
      cases (show r = V.non from hr3)
      exact ⟨_, rfl, false, rfl, iteT k3⟩
    | some ts =>
      rw [hw] at hr3 k3
      obtain ⟨pw, ys, rfl, hpw, hys⟩ := hr3
      have hyl := sts_len hys
      refine ⟨_, rfl, !ys.isEmpty, .inl ⟨ys, SqL.of hpw, rfl⟩, ?_⟩
      cases ts with
      | nil =>
        have : ys = [] := List.eq_nil_of_length_eq_zero hyl
        subst this
        exact iteT k3
      | cons s0 sr =>
        have hne : ys.isEmpty = false := by
          cases ys with
          | nil => cases hyl
          | cons => rfl
        rw [hne]
        refine iteF ?_
        obtain ⟨y0, hy0⟩ : ∃ y0, ys[0]? = some y0 := ⟨_, List.getElem?_eq_getElem (by rw [hyl]; exact Nat.succ_pos _)⟩
        obtain ⟨t0, b0, ht0, rfl, hb0⟩ := sts_get hys hy0
        cases (Option.some.inj ht0)
        obtain ⟨_, c0, e0, p1, _⟩ := stD_inv hb0
        cases e0
        obtain ⟨yl, hyl'⟩ : ∃ yl, ys[sr.length]? = some yl := ⟨_, List.getElem?_eq_getElem (by rw [hyl]; exact Nat.lt_succ_self _)⟩
        obtain ⟨tl, bl, htl, rfl, hbl⟩ := sts_get hys hyl'
        obtain ⟨_, cl, el, pl, _⟩ := stD_inv hbl
        cases el
        have hlast : (s0 :: sr).getLast? = some tl := by
          rw [List.getLast?_eq_getElem?]
          exact htl
        have hat : atI ys (-1) = some (V.ref bl) := by
          have : ys.length = sr.length + 1 := hyl
          unfold atI
          have e : ixN ys.length (-1) = some sr.length := by
            rw [this]
            unfold ixN
            rw [if_neg (by omega), if_pos (by omega)]
            congr 1
            omega
          rw [e]
          exact hyl'
        have hkb : passB (some (s0 :: sr)) a b = (decide (s0.one = a) && decide (tl.other = b)) := by
          show (match (s0 :: sr).head?, (s0 :: sr).getLast? with | some s, some t => decide (s.one = a) && decide (t.other = b) | _, _ => false) = _
          rw [hlast]
          rfl
        rw [hkb] at k3
        have z1 := e3 _ _ g1
        have z2 := e3 _ _ f2
        have ia : atI (is.map V.int) (i : Int) = some (V.int a) := atI_nat (by rw [List.getElem?_map, hi]; rfl)
        have jb : atI (os.map V.int) (j : Int) = some (V.int b) := atI_nat (by rw [List.getElem?_map, hj]; rfl)
        refine ⟨_, rfl, pw, _, 0, _, rfl, rfl, SqL.of hpw, atI_nat (j := 0) hy0, _, _, 0, .int s0.one, rfl, rfl, p1, rfl, _, rfl, _, rfl, q1, _, (i : Int), .int a, rfl, rfl, SqL.of z1, ia, rfl, _, rfl, ?_⟩
        cases ha : decide (s0.one = a) with
        | false =>
          rw [ha] at k3
          rw [dec_int, ha]
          exact iteF k3
        | true =>
          rw [ha] at k3
          rw [dec_int, ha]
          refine iteT ?_
          refine ⟨_, rfl, _, rfl, pw, _, (-1 : Int), _, rfl, rfl, SqL.of hpw, hat, _, _, 1, .int tl.other, rfl, rfl, pl, rfl, _, rfl, _, rfl, q2, _, (j : Int), .int b, rfl, rfl, SqL.of z2, jb, rfl, ?_⟩
          rw [dec_int]
          exact k3
end
end AA

set_option Elab.async false
set_option linter.all false
set_option maxRecDepth 100000
set_option maxHeartbeats 4000000
/-! read_way, read_ways. -/
namespace AA
open PySem PySem.Spec PyProof.Rows L2 Evl
def mxI (i o : Int) : Int := if o > i then o else i
/-- the way back that a thing is -/
def rdWay (i o : Int) (d : PyData) : Option St5 := match rdStep (mxI i o) d with
  | some s => if s.one < o ∧ s.other < i then some s else none
  | none => none
section
variable {P : Program} {w : World} {K : PySem.W.Frag} {mg : Str → Option Value} {base : Heap}
def spWayB (K : PySem.W.Frag) : Sp := fun vs H Q _ => ∃ (i o : Int) (v : V), vs = [.int i, .int o, v] ∧ ((RdNo K (mxI i o) H v ∧ ∀ H', Ex H H' → Q .non H') ∨ ∃ d, Dp K H v d ∧ ∀ H' r, Ex H H' → RdR K H' r (rdWay i o d) → Q r H')
theorem scWayB : FnScope ["ins", "outs", "thing", "way"] ["ins", "outs", "thing"] (defScope sReadWay) := ⟨rfl, rfl, rfl, by decide +kernel, rfl, by decide +kernel, by decide +kernel⟩
theorem ok_wayB {f : Addr} {fd : FuncData} (F : L2.Fun K "read_way" "read_way" sReadWay f fd) (T : Bn mg) (cR : C8.Cal P w K mg base 3 "read_step" (spReadStep K) []) : FnOk P w K mg base CX0 4 f fd ["ins", "outs", "thing"] (spWayB K) := by
  refine F.ok scWayB (fun vs H Q E h => ?_) (fun cdv A outer s H vs Q E hr h => ?_)
  · obtain ⟨i, o, v, rfl, _⟩ := h
    rfl
  · obtain ⟨i, o, v, rfl, h⟩ := h
    refine ⟨_, pss_cons (ps_set (i := 3) scWayB.nd rfl (Or.inl rfl) (C8.pe_c cR hr (by decide) (by rfl) (pa_cons (pe_callB (call_max2 (by rfl)) (by rfl) T.max (by decide +kernel) (pa_cons (pv 0) (pa_cons (pv 1) pa_nil))) (pa_cons (pv 2) pa_nil))))
      (pss_cons (ps_if (PW.pt (pw_or (pt_cmp (pc_isN (pv 3))) (pw_or (pt_cmpR op_ge (pe_ix ix_tup (pv 3) pe_int (fun _ _ => rfl)) (pv 1) (nomark _)) (pw_or1 (pt_cmpR op_ge (pe_ix ix_tup (pv 3) pe_int (fun _ _ => rfl)) (pv 0) (nomark _)))))) (pss_one (ps_ret pe_non)) pss_nil)
      (pss_one (ps_ret (pv 3)))), ?_⟩
    rcases h with ⟨hno, k⟩ | ⟨d, hd, k⟩
    · exact ⟨_, rfl, _, rfl, i, o, rfl, _, rfl, _, v, rfl, .inl ⟨hno, fun H1 e1 => ⟨_, rfl, _, rfl, iteT (iteT (k H1 e1))⟩⟩⟩
    · refine ⟨_, rfl, _, rfl, i, o, rfl, _, rfl, _, v, rfl, .inr ⟨d, hd, fun H1 r e1 hr1 => ?_⟩⟩
      have k1 := k H1 r e1
      unfold rdWay at k1
      have hr1 : RdR K H1 r (rdStep (mxI i o) d) := hr1
      cases hs : rdStep (mxI i o) d with
      | none =>
        rw [hs] at hr1 k1
        cases (show r = V.non from hr1)
        exact ⟨_, rfl, _, rfl, iteT (iteT (k1 rfl))⟩
      | some t =>
        rw [hs] at hr1 k1
        obtain ⟨b, c, rfl, p1, p2⟩ := stD_inv hr1
        have non : ¬ (t.one < o ∧ t.other < i) → ∀ G', Ex H1 G' → Q .non G' := fun z G' eG => by
          refine k G' .non (e1.trans eG) ?_
          unfold rdWay
          rw [hs]
          show RdR K G' .non (if t.one < o ∧ t.other < i then some t else none)
          rw [if_neg z]
          rfl
        refine ⟨_, rfl, _, rfl, iteF ?_⟩
        refine ⟨_, rfl, b, _, 0, .int t.one, rfl, rfl, p1, rfl, _, rfl, _, _, rfl, rfl, _, rfl, ?_⟩
        refine dec_ite (fun z => iteT (non (fun y => by omega) _ (Ex.refl _))) (fun z1 => ?_)
        refine ⟨_, rfl, b, _, 1, .int t.other, rfl, rfl, p1, rfl, _, rfl, _, _, rfl, rfl, _, rfl, ?_⟩
        refine dec_ite (fun z => non (fun y => by omega) _ (Ex.refl _)) (fun z2 => ?_)
        have hc : t.one < o ∧ t.other < i := ⟨by omega, by omega⟩
        refine ⟨_, rfl, k1 ?_⟩
        show RdR K H1 (.ref b) (if t.one < o ∧ t.other < i then some t else none)
        rw [if_pos hc]
        exact hr1
/-- ways back in a row, read -/
inductive WyAll (K : PySem.W.Frag) (i o : Int) (H : Hp) : List V → List St5 → Prop
  | nil : WyAll K i o H [] []
  | cons {v : V} {d : PyData} {s : St5} {vs : List V} {ss : List St5} (h : Dp K H v d) (hr : rdWay i o d = some s) (t : WyAll K i o H vs ss) : WyAll K i o H (v :: vs) (s :: ss)
theorem WyAll.ex {i o : Int} {H H' : Hp} (e : Ex H H') : ∀ {vs : List V} {ss : List St5}, WyAll K i o H vs ss → WyAll K i o H' vs ss
  | _, _, .nil => .nil
  | _, _, .cons h hr t => .cons (dp_ex e _ _ h) hr (WyAll.ex e t)
theorem WyAll.len {i o : Int} {H : Hp} : ∀ {vs : List V} {ss : List St5}, WyAll K i o H vs ss → vs.length = ss.length
  | _, _, .nil => rfl
  | _, _, .cons _ _ t => by rw [List.length_cons, List.length_cons, WyAll.len t]
theorem WyAll.get {i o : Int} {H : Hp} : ∀ {vs : List V} {ss : List St5} {j : Nat} {v : V}, WyAll K i o H vs ss → vs[j]? = some v → ∃ d s, Dp K H v d ∧ rdWay i o d = some s ∧ ss[j]? = some s
  | _, _, _, _, .nil, e => by simp at e
  | _, _, 0, _, .cons h hr t, e => by
    cases (Option.some.inj e)
    exact ⟨_, _, h, hr, rfl⟩
  | _, _, j + 1, _, .cons h hr t, e => WyAll.get (j := j) t e
/-- what read_ways is handed -/
def WyArg (K : PySem.W.Frag) (i o : Int) (H : Hp) (v : V) (Bad : Nat → Prop) (Good : List St5 → Prop) : Prop :=
  (Lk K H v false ∧ Bad 0) ∨ ∃ (a : Addr) (xs : List V) (ss : List St5), v = .ref a ∧ SqA K H a xs ∧ ss.Nodup ∧ ss.length ≤ 1000000 ∧
    ((WyAll K i o H xs ss ∧ Good ss) ∨ ∃ (pre : List V) (z : V) (r : List V), xs = pre ++ z :: r ∧ WyAll K i o H pre ss ∧ (RdNo K (mxI i o) H z ∨ ∃ d, Dp K H z d ∧ ∀ s, rdWay i o d = some s → s ∈ ss) ∧ Bad ss.length)
theorem WyArg.ex {i o : Int} {H H' : Hp} {v : V} {B : Nat → Prop} {G : List St5 → Prop} (h : WyArg K i o H v B G) (e : Ex H H') : WyArg K i o H' v B G := by
  rcases h with ⟨h1, h2⟩ | ⟨a, xs, ss, h1, h2, h3, h4, h⟩
  · exact .inl ⟨h1.ex e, h2⟩
  · refine .inr ⟨a, xs, ss, h1, h2.ex e, h3, h4, h.imp (fun z => ⟨z.1.ex e, z.2⟩) ?_⟩
    rintro ⟨pre, z, r, h5, h6, h7, h8⟩
    exact ⟨pre, z, r, h5, h6.ex e, h7.imp (fun y => y.ex e) (fun ⟨d, y1, y2⟩ => ⟨d, dp_ex e _ _ y1, y2⟩), h8⟩
theorem WyArg.imp {i o : Int} {H : Hp} {v : V} {B B' : Nat → Prop} {G G' : List St5 → Prop} (h : WyArg K i o H v B G) (hb : ∀ i, B i → B' i) (hg : ∀ ss, G ss → G' ss) : WyArg K i o H v B' G' := by
  rcases h with ⟨h1, h2⟩ | ⟨a, xs, ss, h1, h2, h3, h4, h⟩
  · exact .inl ⟨h1, hb _ h2⟩
  · refine .inr ⟨a, xs, ss, h1, h2, h3, h4, h.imp (fun z => ⟨z.1, hg _ z.2⟩) ?_⟩
    rintro ⟨pre, z, r, h5, h6, h7, h8⟩
    exact ⟨pre, z, r, h5, h6, h7, hb _ h8⟩
def spWays (K : PySem.W.Frag) : Sp := fun vs H Q _ => ∃ (i o : Int) (v : V), vs = [.int i, .int o, v] ∧ WyArg K i o H v (fun j => ∀ H' p, Ex H H' → H p = none → H' p = some (.tup [.non, .int (j : Nat)]) → Q (.ref p) H')
  (fun ss => ∀ H' p l ys, Ex H H' → H p = none → H l = none → H' p = some (.tup [.ref l, .non]) → H' l = some (.lst ys) → DpAll K H' ys (ss.map stD) → Q (.ref p) H')
theorem scWays : FnScope ["ins", "outs", "things", "found", "index", "thing", "way"] ["ins", "outs", "things"] (defScope sReadWays) := ⟨rfl, rfl, rfl, by decide +kernel, rfl, by decide +kernel, by decide +kernel⟩
theorem ok_ways {f : Addr} {fd : FuncData} (F : L2.Fun K "read_ways" "read_ways" sReadWays f fd) (T : Bn mg) (cR : C8.Cal P w K mg base 4 "read_way" (spWayB K) []) (cL : C8.Cal P w K mg base 1 "is_list" (spIsList K) []) : FnOk P w K mg base CX0 5 f fd ["ins", "outs", "things"] (spWays K) := by
  refine F.ok scWays (fun vs H Q E h => ?_) (fun cdv A outer s H vs Q E hr h => ?_)
  · obtain ⟨i, o, v, rfl, _⟩ := h
    rfl
  · obtain ⟨n, o, v, rfl, h⟩ := h
    have hun := hr.un
    have hu9 : (A.deeper (envOfC "read_ways" (defScope sReadWays) s.heap.objs.size f cdv)).units + 9 < cLine := by omega
    refine ⟨_, pss_cons (ps_if (pt_not (pt_val (C8.pe_c cL hr (by decide) (by rfl) (pa_cons (pv 2) pa_nil))))
        (pss_one (ps_ret (pe_tup (pa_cons pe_non (pa_cons pe_int pa_nil))))) pss_nil)
      (pss_cons (ps_set (i := 3) scWays.nd rfl (Or.inl rfl) pe_snew)
      (pss_cons (ps_for PassesOwn.never rfl (pi_enumA (by rfl) T.enumerate (pa_cons (pv 2) pa_nil)) (pg_tup (n := 2) rfl (pgs_cons (pg_name (i := 4) scWays.nd rfl (Or.inl rfl)) (pgs_cons (pg_name (i := 5) scWays.nd rfl (Or.inl rfl)) pgs_nil)))
        (pss_cons (ps_set (i := 6) scWays.nd rfl (Or.inl rfl) (C8.pe_c cR hr (by decide) (by rfl) (pa_cons (pv 0) (pa_cons (pv 1) (pa_cons (pv 5) pa_nil)))))
        (pss_cons (ps_if (PW.pt (pw_or (pt_cmp (pc_isN (pv 6))) (pw_or1 (pt_cmp (pc_sin hu9 (pv 6) (pv 3))))))
          (pss_one (ps_ret (pe_tup (pa_cons pe_non (pa_cons (pv 4) pa_nil))))) pss_nil)
        (pss_one (ps_sput hu9 (pv 3) (pv 6) (by rfl))))))
      (pss_one (ps_ret (pe_tup (pa_cons (pe_callTy (call_list_sd (by rfl)) (by rfl) T.list boot_list (pa_cons (pv 3) pa_nil)) (pa_cons pe_non pa_nil))))))), ?_⟩
    rcases h with ⟨hl, kb⟩ | ⟨a, xs, ss, rfl, hs, hnd, hsz, h⟩
    · refine ⟨_, rfl, v, false, rfl, hl, fun H1 e1 => ⟨_, rfl, iteT ?_⟩⟩
      exact ⟨by show 2 ≤ sizeLine; decide, fun p hp => kb _ p (e1.trans (Ex.new hp)) (fresh_back e1 hp) upd_same⟩
    obtain ⟨pre, r, rfl, hpre, hr0⟩ : ∃ (pre r : List V), xs = pre ++ r ∧ WyAll K n o H pre ss ∧ ((r = [] ∧ ∀ H' p l ys, Ex H H' → H p = none → H l = none → H' p = some (.tup [.ref l, .non]) → H' l = some (.lst ys) → DpAll K H' ys (ss.map stD) → Q (.ref p) H') ∨
        ∃ (z : V) (r' : List V), r = z :: r' ∧ (RdNo K (mxI n o) H z ∨ ∃ d, Dp K H z d ∧ ∀ s, rdWay n o d = some s → s ∈ ss) ∧ ∀ H' p, Ex H H' → H p = none → H' p = some (.tup [.non, .int (ss.length : Nat)]) → Q (.ref p) H') := by
      rcases h with ⟨h1, h2⟩ | ⟨pre, z, r, h1, h2, h3, h4⟩
      · exact ⟨xs, [], (List.append_nil _).symm, h1, .inl ⟨rfl, h2⟩⟩
      · exact ⟨pre, z :: r, h1, h2, .inr ⟨z, r, rfl, h3, h4⟩⟩
    have hlen := hpre.len
    refine ⟨_, rfl, .ref a, true, rfl, lk_sq hs, fun H1 e1 => ⟨_, rfl, ?_⟩⟩
    refine iteF ?_
    refine fun p hp => ?_
    refine ⟨_, rfl, a, pre ++ r, rfl, for_enumA (K := K) (a := a) (xs := pre ++ r) (H0 := H) hs
      (fun i σ G => ∃ (x3 x4 x5 : Option V) (ks : List (St5 × Addr)), σ = [some (.int n), some (.int o), some (.ref a), some (.ref p), x3, x4, x5] ∧ Ex H1 G ∧ G p = some (SD P w p ks) ∧ KsOk K G ks ∧ ks.map (·.1) = ss.take i ∧ i ≤ ss.length) ?_ ?_ ?_ ?_⟩
    · exact ⟨none, none, none, [], rfl, Ex.new hp, upd_same, KsOk.nil, by rw [List.take_zero]; rfl, Nat.zero_le _⟩
    · rintro i σ G ⟨x3, x4, x5, ks, rfl, q1, _⟩
      exact e1.trans q1
    · rintro i x σ G T' hx ⟨x3, x4, x5, ks, rfl, q1, q2, q3, q4, q5⟩ hT
      have eT := Ex.new (o := .tup [.int (i : Nat), x]) hT
      refine ⟨T', _, rfl, SqT.of upd_same, rfl, _, _, rfl, _, _, rfl, rfl, ?_⟩
      have hkl : ks.length ≤ 1000000 := by
        have := congrArg List.length q4
        rw [List.length_map, List.length_take] at this
        omega
      by_cases hlt : i < pre.length
      · rw [List.getElem?_append_left hlt] at hx
        obtain ⟨di, si, hxd, hrd, hsi⟩ := hpre.get hx
        refine ⟨_, rfl, _, rfl, _, rfl, n, o, x, rfl, .inr ⟨di, dp_ex (e1.trans (q1.trans eT)) _ _ hxd, fun G2 r eG2 hr2 => ?_⟩⟩
        rw [hrd] at hr2
        obtain ⟨b, c, rfl, _⟩ := stD_inv hr2
        have hp2 : G2 p = some (SD P w p ks) := eG2 _ _ (eT _ _ q2)
        have hk2 : KsOk K G2 ks := (q3.ex eT).ex eG2
        have hni : si ∉ ks.map (·.1) := by
          rw [q4]
          exact nodup_take hnd hsi
        refine ⟨_, rfl, _, rfl, ?_⟩
        refine iteF ?_
        refine ⟨_, rfl, _, rfl, _, ⟨p, ks, b, si, rfl, rfl, hp2, hk2, hr2, rfl⟩, _, rfl, ?_⟩
        rw [decide_eq_false hni]
        refine iteF ?_
        refine ⟨_, rfl, _, rfl, p, ks, b, si, rfl, rfl, hp2, hk2, hr2, hni, sz_m hkl, ?_⟩
        refine ⟨_, _, _, ks ++ [(si, b)], rfl, Ex.mut ((q1.trans eT).trans eG2) hp, upd_same, (ks_upd hp2 hk2).snoc (st_upd hp2 hr2), ?_, by omega⟩
        rw [List.map_append, q4, List.take_succ, hsi]
        rfl
      · have hie : i = pre.length := by omega
        rcases hr0 with ⟨rfl, _⟩ | ⟨z, r', rfl, hbad, kb⟩
        · rw [List.append_nil] at hx
          exact absurd (List.getElem?_eq_some_iff.mp hx).1 hlt
        · rw [hie, List.getElem?_append_right (Nat.le_refl _), Nat.sub_self] at hx
          cases (Option.some.inj hx)
          have il : i = ss.length := by omega
          subst il
          have fin : ∀ {G2 : Hp}, Ex (upd G T' (.tup [.int (ss.length : Nat), x])) G2 → ∀ q, G2 q = none → Q (.ref q) (upd G2 q (.tup [.non, .int (ss.length : Nat)])) := fun {G2} eG2 q hq => by
            have e2 := e1.trans (q1.trans (eT.trans eG2))
            exact kb _ q (e2.trans (Ex.new hq)) (fresh_back e2 hq) upd_same
          rcases hbad with hno | ⟨d, hzd, hrs⟩
          · refine ⟨_, rfl, _, rfl, _, rfl, n, o, _, rfl, .inl ⟨hno.ex (e1.trans (q1.trans eT)), fun G2 eG2 => ?_⟩⟩
            exact ⟨_, rfl, _, rfl, iteT (iteT ⟨_, rfl, by show 2 ≤ sizeLine; decide, fin eG2⟩)⟩
          · refine ⟨_, rfl, _, rfl, _, rfl, n, o, _, rfl, .inr ⟨d, dp_ex (e1.trans (q1.trans eT)) _ _ hzd, fun G2 r eG2 hr2 => ?_⟩⟩
            cases hw : rdWay n o d with
            | none =>
              rw [hw] at hr2
              cases (show r = V.non from hr2)
              exact ⟨_, rfl, _, rfl, iteT (iteT ⟨_, rfl, by show 2 ≤ sizeLine; decide, fin eG2⟩)⟩
            | some s' =>
              have hms := hrs s' hw
              rw [hw] at hr2
              obtain ⟨b, c, rfl, _⟩ := stD_inv hr2
              have hp2 : G2 p = some (SD P w p ks) := eG2 _ _ (eT _ _ q2)
              have hk2 : KsOk K G2 ks := (q3.ex eT).ex eG2
              have hmi : s' ∈ ks.map (·.1) := by
                rw [q4, List.take_length]
                exact hms
              refine ⟨_, rfl, _, rfl, ?_⟩
              refine iteF ?_
              refine ⟨_, rfl, _, rfl, _, ⟨p, ks, b, s', rfl, rfl, hp2, hk2, hr2, rfl⟩, _, rfl, ?_⟩
              rw [decide_eq_true hmi]
              exact iteT ⟨_, rfl, by show 2 ≤ sizeLine; decide, fin eG2⟩
    · rintro σ G ⟨x3, x4, x5, ks, rfl, q1, q2, q3, q4, q5⟩
      have hrn : r = [] := by
        rw [List.length_append] at q5
        exact List.eq_nil_of_length_eq_zero (by omega)
      subst hrn
      rcases hr0 with ⟨_, k⟩ | ⟨z, r', h0, _⟩
      · rw [List.append_nil, hlen, List.take_length] at q4
        refine ⟨_, rfl, p, ks, rfl, q2, q3, fun l hl2 => ⟨by show 2 ≤ sizeLine; decide, fun q hq => ?_⟩⟩
        have e2 := e1.trans q1
        have yl := Ex.new (o := .lst (ks.map fun x => V.ref x.2)) hl2
        have q5 := ks_dpa ((q3.ex yl).ex (Ex.new (o := .tup [.ref l, .non]) hq))
        rw [q4] at q5
        exact k _ q l _ (e2.trans (yl.trans (Ex.new hq))) (fresh_back (e2.trans yl) hq) (fresh_back e2 hl2) upd_same ((Ex.new hq) _ _ upd_same) q5
      · cases h0
end
end AA

set_option Elab.async false
set_option linter.all false
set_option maxRecDepth 100000
set_option maxHeartbeats 4000000
/-! closed_steps, closed. -/
namespace AA
open PySem PySem.Spec PyProof.Rows L2 Evl
theorem sd_put_old {t : St5} : ∀ ks : List (St5 × Addr), (ks.map sdEn).map (putAt (stK t) (.bool true)) = ks.map sdEn
  | [] => rfl
  | x :: r => by
    rw [List.map_cons, List.map_cons, sd_put_old r]
    congr 1
    unfold putAt
    split <;> rfl
section
variable {X : Cx} {pins : List (Addr × Obj)} {σ : L2.St} {H : Hp} {s : Shared} {a : Addr} {ks : List (St5 × Addr)} {A : Around} {E : Value → Shared → Prop}
/-- found[step] = True, the step there already -/
theorem sd_set_old {t : St5} {b : Addr} {Q : Unit → Shared → Prop} (hu : A.units + 9 < cLine) (I : Inv X pins σ H s) (e : H a = some (SD X.prog X.w a ks)) (k : KsOk X.K H ks) (d : Dp X.K H (.ref b) (stD t)) (hn : t ∈ ks.map (·.1))
    (h : ∀ s', Inv X pins σ (upd H a (SD X.prog X.w a ks)) s' → Q () s') : wpAny (model X.prog X.w) A (setItem (.ref a) (.ref b) (.bool true)) Q E s := by
  obtain ⟨z, hd, nd, dd⟩ := sd_of I e k
  have hsome : (atKey (ks.map sdEn) (stK t)).isSome = true := by rw [sd_at, decide_eq_true hn]
  obtain ⟨q0, hq0⟩ := Option.isSome_iff_exists.mp hsome
  refine wpAny_setItem_heap (hsz := by rw [List.length_map]; exact z) (show A.in1.units + 8 < cLine by rw [Around.in1_units]; omega) (sd_is (x := (t, b)) I d) dd fun h' dd' hs => h _ ?_
  rw [show stK (t, b).1 = stK t from rfl, storedH_old hq0, sd_put_old] at dd'
  obtain ⟨q, es, ep, hq, h2⟩ := id dd'
  exact d_write I (by rw [e]; exact True.intro) hs ⟨q, hq⟩ (sd_ok z hd nd dd')
def addK (ks : List (St5 × Addr)) (t : St5) (b : Addr) : List (St5 × Addr) := if t ∈ ks.map (·.1) then ks else ks ++ [(t, b)]
def sSPut2 (X : Cx) (td ty : TE) : TS := fun D σ H => td σ H fun x H2 => ty σ H2 fun y H3 => ∃ a ks b t, x = .ref a ∧ y = .ref b ∧ H3 a = some (SD X.prog X.w a ks) ∧ KsOk X.K H3 ks ∧ Dp X.K H3 (.ref b) (stD t) ∧ ks.length < sizeLine ∧
  D.nx σ (upd H3 a (SD X.prog X.w a (addK ks t b)))
theorem ps_sput2 {o i : Expr} {td ty : TE} {j : Nat} {tpos pos' pos : Pos} (hu : X.A.units + 9 < cLine) (ho : PE X o td) (hi : PE X i ty) (hs : swapsWith (.Constant (.bool true) j tpos) (some (.Subscript o i pos')) pos.line X.env = pure false) :
    PS X (.Assign [.Subscript o i pos'] (.Constant (.bool true) j tpos) pos) (sSPut2 X td ty) := ⟨fun pins s σ H D I h =>
  wpAny_Assign_Subscript (Constant_bool (thn (ho.run pins s σ H _ I h) fun u s2 ⟨x, H2, I2, rx, q2⟩ => thn (hi.run pins s2 σ H2 _ I2 q2) fun iv s3 ⟨y, H3, I3, ry, g⟩ => by
    obtain ⟨a, ks, b, t, rfl, rfl, e, k, d, hl, q⟩ := g
    cases (show u = Value.ref a from rx)
    cases (show iv = Value.ref b from ry)
    unfold addK at q
    by_cases hn : t ∈ ks.map (·.1)
    · rw [if_pos hn] at q
      exact sd_set_old hu I3 e k d hn fun s4 I4 => ⟨σ, _, I4, q⟩
    · rw [if_neg hn] at q
      exact sd_set hu I3 e k d hn hl fun s4 I4 => ⟨σ, _, I4, q⟩)) hs⟩
end
/-- the step that a way back comes out as -/
def clW (is os : List Int) (s : St5) : St5 := ⟨os.getD s.one.toNat 0, is.getD s.other.toNat 0, s.p, s.q, s.ticks, s.change⟩
structure WyOk (i o : Int) (s : St5) : Prop where
  o0 : 0 ≤ s.one
  o1 : s.one < o
  t0 : 0 ≤ s.other
  t1 : s.other < i
  k : 1 ≤ s.ticks
theorem wy_ok {i o : Int} {d : PyData} {s : St5} (h : rdWay i o d = some s) : WyOk i o s := by
  unfold rdWay at h
  cases q : rdStep (mxI i o) d with
  | none =>
    rw [q] at h
    cases h
  | some t =>
    rw [q] at h
    have h' : (if t.one < o ∧ t.other < i then some t else none) = some s := h
    split at h'
    · rename_i hc
      cases h'
      unfold rdStep at q
      split at q
      · split at q
        · split at q
          · rename_i hh
            cases q
            exact ⟨hh.1, hc.1, hh.2.2.1, hc.2, hh.2.2.2.2⟩
          · cases q
        · cases q
      · cases q
    · cases h'
section
variable {P : Program} {w : World} {K : PySem.W.Frag} {mg : Str → Option Value} {base : Heap}
def spCSteps (K : PySem.W.Frag) (CW C : Addr) : Sp := fun vs H Q _ => ∃ (p wb lw li lo l : Addr) (n : Int) (ss : List St5) (is os : List Int) (vw : List V) (ws : List St5), vs = [.ref p, .ref l] ∧ PtL K CW C H p wb lw li lo n ss is os ∧ ss.Nodup ∧ ss.length ≤ 100000 ∧ SqL K H l vw ∧ DpAll K H vw (ws.map stD) ∧ ws.length ≤ 100000 ∧ (∀ s ∈ ws, WyOk is.length os.length s) ∧
  ∀ (H' : Hp) (q : Addr) (ys : List V) (ts : List St5), Ex H H' → H q = none → H' q = some (.lst ys) → DpAll K H' ys (ts.map stD) → ts.Nodup → ts.length ≤ 1000000 → (∀ t, t ∈ ts ↔ (t ∈ ss ∨ ∃ s ∈ ws, t = clW is os s)) → Q (.ref q) H'
abbrev nmCS : List Str := ["part", "ways", "ins", "outs", "steps", "out", "door", "amounts", "ticks", "change", "step"]
theorem scCSteps : FnScope nmCS ["part", "ways"] (defScope sClosedSteps) := ⟨rfl, rfl, rfl, by decide +kernel, rfl, by decide +kernel, by decide +kernel⟩
theorem ok_csteps {f CW C gW gN gO fS : Addr} {fd ddW ddN ddO fdS : FuncData} (F : L2.Fun K "closed_steps" "closed_steps" sClosedSteps f fd) (B : Bn mg) (T : PtTxt K mg C) (TW : WebTxt K mg CW)
    (GW : FnOk P w K mg base CX0 1 gW ddW ["self"] (spPWeb K CW C)) (bW : Binds K ddW ["self"] []) (mW : Meth K C "web" gW) (GN : FnOk P w K mg base CX0 1 gN ddN ["self"] (spPIns K CW C)) (bN : Binds K ddN ["self"] []) (mN : Meth K C "ins" gN) (GO : FnOk P w K mg base CX0 1 gO ddO ["self"] (spPOuts K CW C)) (bO : Binds K ddO ["self"] []) (mO : Meth K C "outs" gO)
    (GS : FnOk P w K mg base CX0 1 fS fdS ["self"] (spSteps K CW)) (bS : Binds K fdS ["self"] []) (mS : Meth K CW "steps" fS) : FnOk P w K mg base CX0 2 f fd ["part", "ways"] (spCSteps K CW C) := by
  refine F.ok scCSteps (fun vs H Q E h => ?_) (fun cdv A outer s H vs Q E hr h => ?_)
  · obtain ⟨p, wb, lw, li, lo, l, n, ss, is, os, vw, ws, rfl, _⟩ := h
    rfl
  · obtain ⟨p, wb, lw, li, lo, l, n, ss, is, os, vw, ws, rfl, hP, hnd, hsz, hl, hD, hwz, hok, k⟩ := h
    have hun := hr.un
    have hu9 : (A.deeper (envOfC "closed_steps" (defScope sClosedSteps) s.heap.objs.size f cdv)).units + 9 < cLine := by omega
    have hu8 : (A.deeper (envOfC "closed_steps" (defScope sClosedSteps) s.heap.objs.size f cdv)).units + 8 < cLine := by omega
    have hr1 : Room 1 _ := hr
    refine ⟨_, pss_cons (ps_set (i := 2) scCSteps.nd rfl (Or.inl rfl) (pe_meth0 (pv 0) T.cl mN GN hr1 bN .nil pass0))
      (pss_cons (ps_set (i := 3) scCSteps.nd rfl (Or.inl rfl) (pe_meth0 (pv 0) T.cl mO GO hr1 bO .nil pass0))
      (pss_cons (ps_setSc (i := 4) (own := [("step", 10)]) hu8 rfl scCSteps.nd rfl rfl (sw_trueD rfl rfl rfl (by decide +kernel)) (pi_list (pe_meth0 (pe_meth0 (pv 0) T.cl mW GW hr1 bW .nil pass0) TW.cl mS GS hr1 bS .nil pass0)) (blkOk_by (N := nmCS) (sc := defScope sClosedSteps) (by decide +kernel))
          (fun _ _ _ _ _ => pg_name (i := 10) scCSteps.nd rfl (Or.inl rfl)) (fun _ _ _ _ _ => pv 10))
      (pss_cons (ps_for PassesOwn.never rfl (pi_list (pv 1)) (pg_tup (n := 5) rfl (pgs_cons (pg_name (i := 5) scCSteps.nd rfl (Or.inl rfl)) (pgs_cons (pg_name (i := 6) scCSteps.nd rfl (Or.inl rfl)) (pgs_cons (pg_name (i := 7) scCSteps.nd rfl (Or.inl rfl)) (pgs_cons (pg_name (i := 8) scCSteps.nd rfl (Or.inl rfl)) (pgs_cons (pg_name (i := 9) scCSteps.nd rfl (Or.inl rfl)) pgs_nil))))))
        (pss_one (ps_sput2 hu9 (pv 4) (pe_tup (pa_cons (pe_ix ix_list (pv 3) (pv 5) (fun _ _ => rfl)) (pa_cons (pe_ix ix_list (pv 2) (pv 6) (fun _ _ => rfl)) (pa_cons (pv 7) (pa_cons (pv 8) (pa_cons (pv 9) pa_nil)))))) (by rfl))))
      (pss_one (ps_ret (pe_callTy (call_list_sd (by rfl)) (by rfl) B.list boot_list (pa_cons (pv 4) pa_nil))))))), ?_⟩
    obtain ⟨dxp, kdp, hx⟩ := hP.o
    obtain ⟨dxw, kdw, ys0, hw0, _⟩ := hP.w
    have no : ∀ {m : Str}, ¬ m = "_web" → ¬ m = "_ins" → ¬ m = "_outs" → ¬ m = "known" → (pf wb li lo kdp).lookup m = none := fun h1 h2 h3 h4 => pf_no _ _ _ _ h1 h2 h3 h4
    refine ⟨_, rfl, p, dxp, _, rfl, hx, no (by decide +kernel) (by decide +kernel) (by decide +kernel) (by decide +kernel), p, wb, lw, li, lo, n, ss, is, os, rfl, hP, fun q1 hq1 => ?_⟩
    have y1 := Ex.new (o := .lst (is.map V.int)) hq1
    have f1 : upd H q1 (.lst (is.map V.int)) q1 = some (.lst (is.map V.int)) := upd_same
    generalize upd H q1 (.lst (is.map V.int)) = G1 at y1 f1 ⊢
    refine ⟨_, rfl, p, dxp, _, rfl, y1 _ _ hx, no (by decide +kernel) (by decide +kernel) (by decide +kernel) (by decide +kernel), p, wb, lw, li, lo, n, ss, is, os, rfl, hP.ex y1, fun q2 hq2 => ?_⟩
    have y2 := Ex.new (o := .lst (os.map V.int)) hq2
    have f2 : upd G1 q2 (.lst (os.map V.int)) q2 = some (.lst (os.map V.int)) := upd_same
    generalize upd G1 q2 (.lst (os.map V.int)) = G2 at y2 f2 ⊢
    have e2 := y1.trans y2
    refine ⟨_, rfl, p, dxp, _, rfl, e2 _ _ hx, no (by decide +kernel) (by decide +kernel) (by decide +kernel) (by decide +kernel), p, wb, lw, li, lo, n, ss, is, os, rfl, hP.ex e2, wb, dxw, _, rfl, e2 _ _ hw0, wf_no _ _ _ (by decide +kernel) (by decide +kernel) (by decide +kernel), wb, n, ss, rfl, (hP.ex e2).w.at, fun q3 ys hq3 hys => ⟨q3, rfl, ⟨ys, SqL.of upd_same⟩, fun D hD0 => ?_⟩⟩
    have y3 := Ex.new (o := .lst ys) hq3
    have f3 : upd G2 q3 (.lst ys) q3 = some (.lst ys) := upd_same
    have hys3 := dpa_ex y3 _ _ hys
    generalize upd G2 q3 (.lst ys) = G3 at y3 f3 hys3 hD0 ⊢
    refine sc_list (xs := ys) (fun i G => Ex G3 G ∧ ∃ ks : List (St5 × Addr), G D = some (SD P w D ks) ∧ KsOk K G ks ∧ ks.map (·.1) = ss.take i) ⟨Ex.new hD0, [], upd_same, KsOk.nil, by rw [List.take_zero]; rfl⟩ (fun i G _ q => ex_l q.1 (SqL.of f3)) ?_ ?_
    · rintro i y G hy ⟨q1', ks, q2', q3', q4⟩
      obtain ⟨t, b, ht, rfl, hb⟩ := sts_get hys3 hy
      have hb2 := dp_ex q1' _ _ hb
      have hkl : ks.length ≤ 1000000 := by
        have := congrArg List.length q4
        rw [List.length_map, List.length_take] at this
        omega
      refine ⟨rfl, _, rfl, ks, b, t, rfl, q2', q3', hb2, by rw [q4]; exact nodup_take hnd ht, sz_m hkl, Ex.mut q1' hD0, ks ++ [(t, b)], upd_same, (ks_upd q2' q3').snoc (st_upd q2' hb2), ?_⟩
      rw [List.map_append, q4, List.take_succ, ht]
      rfl
    rintro G4 ⟨e34, ks0, hD4, hk4, hks4⟩
    rw [sts_len hys, List.take_length] at hks4
    have e03 : Ex H G3 := e2.trans y3
    refine ⟨_, rfl, l, rfl, ⟨_, ex_l (e03.trans e34) hl⟩, for_list (K := K) (a := l) (xs := vw) (fun i σ G => ∃ (x5 x6 x7 x8 x9 : Option V) (ks : List (St5 × Addr)), σ = [some (.ref p), some (.ref l), some (.ref q1), some (.ref q2), some (.ref D), x5, x6, x7, x8, x9, none] ∧ Ex G3 G ∧ G D = some (SD P w D ks) ∧ KsOk K G ks ∧ (ks.map (·.1)).Nodup ∧ ks.length ≤ ss.length + i ∧ ∀ t, t ∈ ks.map (·.1) ↔ (t ∈ ss ∨ ∃ s ∈ ws.take i, t = clW is os s)) ?_ (fun i σ G _ ⟨_, _, _, _, _, _, _, q, _⟩ => ex_l (e03.trans q) hl) ?_ ?_⟩
    · refine ⟨none, none, none, none, none, ks0, rfl, e34, hD4, hk4, by rw [hks4]; exact hnd, ?_, fun t => ?_⟩
      · have := congrArg List.length hks4
        rw [List.length_map] at this
        omega
      · rw [hks4, List.take_zero]
        exact ⟨.inl, fun z => z.elim id (fun ⟨_, z, _⟩ => absurd z (by simp))⟩
    · rintro i x σ G hxi ⟨x5, x6, x7, x8, x9, ks, rfl, e3G, hDG, hkG, hkn, hkl, hmem⟩
      obtain ⟨t, b, ht, rfl, hb⟩ := sts_get hD hxi
      have il := (List.getElem?_eq_some_iff.mp ht).1
      have okt := hok t (mem_of_get ht)
      have eG := e03.trans e3G
      obtain ⟨b', c, eb, p1, p2⟩ := stD_inv (dp_ex eG _ _ hb)
      cases eb
      refine ⟨b, _, rfl, p1, rfl, _, _, rfl, _, _, rfl, _, _, rfl, _, _, rfl, _, _, rfl, rfl, ?_⟩
      obtain ⟨j1, hj1⟩ : ∃ j : Nat, t.one = (j : Int) := ⟨t.one.toNat, by have := okt.o0; omega⟩
      obtain ⟨j2, hj2⟩ : ∃ j : Nat, t.other = (j : Int) := ⟨t.other.toNat, by have := okt.t0; omega⟩
      have l1 : j1 < os.length := by have := okt.o1; omega
      have l2 : j2 < is.length := by have := okt.t1; omega
      have a1 : atI (os.map V.int) t.one = some (V.int (os.getD t.one.toNat 0)) := by
        rw [hj1]
        refine atI_nat ?_
        rw [List.getElem?_map, List.getElem?_eq_getElem l1, List.getD_eq_getElem?_getD, Int.toNat_natCast, List.getElem?_eq_getElem l1]
        rfl
      have a2 : atI (is.map V.int) t.other = some (V.int (is.getD t.other.toNat 0)) := by
        rw [hj2]
        refine atI_nat ?_
        rw [List.getElem?_map, List.getElem?_eq_getElem l2, List.getD_eq_getElem?_getD, Int.toNat_natCast, List.getElem?_eq_getElem l2]
        rfl
      refine ⟨_, rfl, _, rfl, _, rfl, q2, _, t.one, _, rfl, rfl, SqL.of (e3G _ _ (y3 _ _ f2)), a1, _, rfl, _, rfl, q1, _, t.other, _, rfl, rfl, SqL.of (e3G _ _ (y3 _ _ (y2 _ _ f1))), a2, _, rfl, _, rfl, _, rfl, by show 5 ≤ sizeLine; decide, fun T0 hT0 => ?_⟩
      have eT := Ex.new (o := .tup [V.int (os.getD t.one.toNat 0), V.int (is.getD t.other.toNat 0), V.ref c, V.int t.ticks, V.int t.change]) hT0
      have dT : Dp K (upd G T0 (.tup [V.int (os.getD t.one.toNat 0), V.int (is.getD t.other.toNat 0), V.ref c, V.int t.ticks, V.int t.change])) (.ref T0) (stD (clW is os t)) := stD_mk (s := clW is os t) (SqT.of upd_same) (ex_t eT p2)
      have hD5 := eT _ _ hDG
      have hk5 := hkG.ex eT
      generalize upd G T0 (.tup [V.int (os.getD t.one.toNat 0), V.int (is.getD t.other.toNat 0), V.ref c, V.int t.ticks, V.int t.change]) = G5 at eT dT hD5 hk5 ⊢
      refine ⟨D, ks, T0, clW is os t, rfl, rfl, hD5, hk5, dT, sz_m (by omega), _, _, _, _, _, addK ks (clW is os t) T0, rfl, Ex.mut (e3G.trans eT) hD0, upd_same, ?_, ?_, ?_, fun z => ?_⟩
      · unfold addK
        split
        · exact ks_upd hD5 hk5
        · exact (ks_upd hD5 hk5).snoc (st_upd hD5 dT)
      · unfold addK
        split
        · exact hkn
        · rename_i hni
          rw [List.map_append]
          exact List.nodup_append.mpr ⟨hkn, by simp, fun x hx y hy e => by
            obtain rfl : y = clW is os t := by simpa using hy
            exact hni (e ▸ hx)⟩
      · unfold addK
        split
        · omega
        · rw [List.length_append]
          show _ + 1 ≤ _
          omega
      · have step : z ∈ (addK ks (clW is os t) T0).map (·.1) ↔ (z ∈ ks.map (·.1) ∨ z = clW is os t) := by
          unfold addK
          split
          · rename_i hin
            exact ⟨.inl, fun q => q.elim id (fun e => e ▸ hin)⟩
          · rw [List.map_append, List.mem_append]
            simp
        rw [step, hmem z, List.take_add_one, ht]
        constructor
        · rintro ((h1 | ⟨s1, h2, h3⟩) | h1)
          · exact .inl h1
          · exact .inr ⟨s1, List.mem_append_left _ h2, h3⟩
          · exact .inr ⟨t, List.mem_append_right _ (by simp), h1⟩
        · rintro (h1 | ⟨s1, h2, h3⟩)
          · exact .inl (.inl h1)
          · rcases List.mem_append.mp h2 with h2 | h2
            · exact .inl (.inr ⟨s1, h2, h3⟩)
            · obtain rfl : s1 = t := by simpa using h2
              exact .inr h3
    · rintro σ G ⟨x5, x6, x7, x8, x9, ks, rfl, e3G, hDG, hkG, hkn, hkl, hmem⟩
      rw [sts_len hD] at hkl hmem
      rw [List.take_length] at hmem
      refine ⟨_, rfl, D, ks, rfl, hDG, hkG, fun q hq => ?_⟩
      have e0 := e03.trans e3G
      exact k _ q _ (ks.map (·.1)) (e0.trans (Ex.new hq)) (fresh_back e0 hq) upd_same (ks_dpa (hkG.ex (Ex.new hq))) hkn (by rw [List.length_map]; omega) hmem
end
end AA

set_option Elab.async false
set_option linter.all false
set_option maxRecDepth 100000
set_option maxHeartbeats 4000000
/-! _law_part. -/
namespace AA
open PySem PySem.Spec PyProof.Rows L2 Evl
/-- doors as the laws draw them -/
structure DrOk (n : Int) (is os : List Int) : Prop where
  nd : (is ++ os).Nodup
  rg : ∀ i ∈ is ++ os, 0 ≤ i ∧ i < n
  i1 : is ≠ []
  o1 : os ≠ []
  i2 : is.length ≤ 2
  o2 : os.length ≤ 2
theorem cut_fr (xs : List V) (j : Nat) : cutV xs (some (j : Int)) none = xs.drop j := by
  unfold cutV
  rw [HT.sIx_none, HT.sIx_nat]
  by_cases h : j ≤ xs.length
  · rw [Nat.min_eq_left h, List.take_of_length_le (by rw [List.length_drop]; omega)]
  · rw [Nat.min_eq_right (by omega), Nat.sub_self, List.drop_of_length_le (by omega), List.take_nil]
    exact (List.drop_of_length_le (by omega)).symm
section
variable {P : Program} {w : World} {K : PySem.W.Frag} {mg : Str → Option Value} {base : Heap}
def spPart (K : PySem.W.Frag) : Sp := fun vs H Q _ => ∃ (a b : Addr) (n : Nat) (o m y : Int), vs = [.ref a, .int o, .int m, .int y] ∧ SAt H a b n ∧ n < 700000000 ∧ 2 ≤ o ∧ o ≤ 100 ∧ 10 ≤ m ∧ m ≤ 100 ∧
  ∀ (H' : Hp) (p l li lo : Addr) (c : Int) (vs : List V) (ss : List St5) (is os : List Int), ExS a b H H' → SAt H' a b (n + 20000) → H p = none → H l = none → H li = none → H lo = none → H' p = some (.tup [.int c, .ref l, .ref li, .ref lo]) → H' l = some (.lst vs) → DpAll K (tps H') vs (ss.map stD) →
    H' li = some (.lst (is.map V.int)) → H' lo = some (.lst (os.map V.int)) → WbOk c ss → DrOk c is os → c ≤ o → (ss.length : Int) ≤ m → Q (.ref p) H'
abbrev nmPart : List Str := ["_law_stream_here", "_law_most", "_law_many", "_law_way_here", "_law_places", "_law_found", "_law_order", "_law_inner", "_law_outer", "_law_ins", "_law_outs", "_law_line", "_law_one", "_law_other", "_law_k", "_law_step_here"]
theorem scPart : FnScope nmPart ["_law_stream_here", "_law_most", "_law_many", "_law_way_here"] (defScope sPart) := ⟨rfl, rfl, rfl, by decide +kernel, rfl, by decide +kernel, by decide +kernel⟩
theorem ok_part {f : Addr} {fd : FuncData} (F : L2.Fun K "_law_part" "_law_part" sPart f fd) (T : Bn mg) (hmin : mg "min" = none) (cD : C8.Cal P w K mg base 1 "_law_draw" spDraw []) (cM : C8.Cal P w K mg base 2 "_law_mixed" (spMixed K) []) (cS : C8.Cal P w K mg base 4 "_law_step" (spStep K) []) :
    FnOk P w K mg base CX0 5 f fd ["_law_stream_here", "_law_most", "_law_many", "_law_way_here"] (spPart K) := by
  refine F.ok scPart (fun vs H Q E h => ?_) (fun cdv A outer s H vs Q E hr h => ?_)
  · obtain ⟨a, b, n, o, m, y, rfl, _⟩ := h
    rfl
  · obtain ⟨a, b, n, o, m, y, rfl, hS, hn, o1, o2, m1, m2, k⟩ := h
    refine ⟨_, Evl.pss_cut (ps_par (i := 4) (j := 5) (by rfl) scPart.nd rfl rfl (by decide) rfl rfl (pa_cons (pe_op op_add pe_int (C8.pe_c cD hr (by decide) (by rfl) (pa_cons (pv 0) (pa_cons (pe_op op_sub (pv 1) pe_int) pa_nil)))) (pa_cons (pe_lst pa_nil) pa_nil)) (by rfl))
      (Evl.pss_cut (ps_set (i := 6) scPart.nd rfl (Or.inl rfl) (C8.pe_c cM hr (by decide) (by rfl) (pa_cons (pv 0) (pa_cons (pe_listRg (by rfl) (by rfl) T.list (prg_1 (by rfl) T.range (pv 4))) pa_nil))))
      (Evl.pss_cut (ps_set (i := 7) scPart.nd rfl (Or.inl rfl) (pe_op op_add pe_int (C8.pe_c cD hr (by decide) (by rfl) (pa_cons (pv 0) (pa_cons (pe_callB (call_min2 (by rfl)) (by rfl) hmin (by decide +kernel) (pa_cons pe_int (pa_cons (pe_op op_sub (pv 4) pe_int) pa_nil))) pa_nil)))))
      (Evl.pss_cut (ps_set (i := 8) scPart.nd rfl (Or.inl rfl) (pe_op op_add pe_int (C8.pe_c cD hr (by decide) (by rfl) (pa_cons (pv 0) (pa_cons (pe_callB (call_min2 (by rfl)) (by rfl) hmin (by decide +kernel) (pa_cons pe_int (pa_cons (pe_op op_sub (pv 4) (pv 7)) pa_nil))) pa_nil)))))
      (Evl.pss_cut (ps_par (i := 9) (j := 10) (by rfl) scPart.nd rfl rfl (by decide) rfl rfl (pa_cons (pe_slice sl_list (pv 6) po_none (po_some (pv 7))) (pa_cons (pe_slice sl_list (pv 6) (po_some (pv 7)) (po_some (pe_op op_add (pv 7) (pv 8)))) pa_nil)) (by rfl))
      (Evl.pss_cut (ps_set (i := 11) scPart.nd rfl (Or.inl rfl) (pe_op op_cat (pe_op op_cat (pe_lst (pa_cons (pe_ix ix_list (pv 9) pe_int (fun _ _ => rfl)) pa_nil))
          (pe_slice sl_list (C8.pe_c cM hr (by decide) (by rfl) (pa_cons (pv 0) (pa_cons (pe_slice sl_list (pv 6) (po_some (pe_op op_add (pv 7) (pv 8))) po_none) pa_nil))) po_none (po_some (C8.pe_c cD hr (by decide) (by rfl) (pa_cons (pv 0) (pa_cons pe_int pa_nil))))))
          (pe_lst (pa_cons (pe_ix ix_list (pv 10) pe_int (fun _ _ => rfl)) pa_nil))))
      (Evl.pss_cut (ps_for PassesOwn.never rfl (RZ.pi_zipA (by rfl) T.zip (pa_cons (pv 11) (pa_cons (pe_slice sl_list (pv 11) (po_some pe_int) po_none) pa_nil))) (pg_tup (n := 2) rfl (pgs_cons (pg_name (i := 12) scPart.nd rfl (.inl rfl)) (pgs_cons (pg_name (i := 13) scPart.nd rfl (.inl rfl)) pgs_nil)))
          (pss_one (ps_expr (pe_bm PySem.F.plainAttrs_list PySem.F.slot_list_append PySem.F.type_list_append mt_append (pv 5) (pa_cons (C8.pe_c cS hr (by decide) (by rfl) (pa_cons (pv 0) (pa_cons (pv 12) (pa_cons (pv 13) (pa_cons (pv 3) pa_nil))))) pa_nil)))))
      (Evl.pss_cut (ps_for PassesOwn.never rfl (pi_range1 rfl T.range (pa_cons (C8.pe_c cD hr (by decide) (by rfl) (pa_cons (pv 0) (pa_cons (pe_op op_add (pe_op op_sub (pv 2) (pe_callB call_len_seq (by rfl) T.len PySem.boot_len (pa_cons (pv 5) pa_nil))) pe_int) pa_nil))) pa_nil)) (pg_name (i := 14) scPart.nd rfl (Or.inl rfl))
          (pss_cons (ps_set (i := 15) scPart.nd rfl (Or.inl rfl) (C8.pe_c cS hr (by decide) (by rfl) (pa_cons (pv 0) (pa_cons (C8.pe_c cD hr (by decide) (by rfl) (pa_cons (pv 0) (pa_cons (pv 4) pa_nil))) (pa_cons (C8.pe_c cD hr (by decide) (by rfl) (pa_cons (pv 0) (pa_cons (pv 4) pa_nil))) (pa_cons (pv 3) pa_nil))))))
          (pss_one (ps_expr (pe_bm PySem.F.plainAttrs_list PySem.F.slot_list_extend PySem.F.type_list_extend mt_extend (pv 5) (pa_cons (pe_ifExp (pt_cmpR (op_notInD (Room.u65 hr)) (pv 15) (pv 5) (by rfl)) (pe_lst (pa_cons (pv 15) pa_nil)) (pe_lst pa_nil)) pa_nil))))))
      (pss_one (ps_ret (pe_tup (pa_cons (pv 4) (pa_cons (C8.pe_c cM hr (by decide) (by rfl) (pa_cons (pv 0) (pa_cons (pv 5) pa_nil))) (pa_cons (pv 9) (pa_cons (pv 10) pa_nil)))))))))))))), ?_⟩
    -- places, found
    refine ⟨fun σ G => ∃ (c : Int) (g : Addr), σ = [some (.ref a), some (.int o), some (.int m), some (.int y), some (.int c), some (.ref g), none, none, none, none, none, none, none, none, none, none] ∧ ExS a b H G ∧ SAt G a b (n + 1) ∧ H g = none ∧ G g = some (.lst []) ∧ 2 ≤ c ∧ c ≤ o, ?_, ?_⟩
    · refine ⟨_, rfl, _, rfl, _, _, rfl, rfl, a, b, n, o - 1, rfl, hS, by omega, by omega, by omega, fun H1 d e1 s1 d0 d1 => ?_⟩
      refine ⟨_, _, rfl, rfl, Nat.zero_le _, fun g hg => ⟨_, _, rfl, 2 + d, g, rfl, ExS.new e1 hg, s1.ex (Ex.new hg), ExS.back e1 s1 hg, upd_same, by omega, by omega⟩⟩
    rintro σ H1 ⟨c, g, rfl, hE1, hS1, hg, hG1, c1, c2⟩
    have ga := hS.nea hg
    have gb := hS.neb hg
    -- order
    refine ⟨fun σ G => ∃ (p : Addr) (ms : List Int), σ = [some (.ref a), some (.int o), some (.int m), some (.int y), some (.int c), some (.ref g), some (.ref p), none, none, none, none, none, none, none, none, none] ∧ ExS a b H G ∧ SAt G a b (n + 200) ∧ H p = none ∧ G g = some (.lst []) ∧ G p = some (.lst (ms.map V.int)) ∧ ms.Nodup ∧ (∀ x ∈ ms, 0 ≤ x ∧ x < c) ∧ (ms.length : Int) = c, ?_, ?_⟩
    · refine ⟨_, rfl, _, rfl, _, rfl, RgOk.of_le (by omega) (by omega) (by omega) (by omega), fun q hq => ?_⟩
      have qa := hS1.nea hq
      have qb := hS1.neb hq
      have hqg : g ≠ q := ne_of_none hG1 hq
      have hlen : (rgV 0 c).length = c.toNat := by
        rw [rgV_length]
        congr 1
        omega
      refine ⟨a, b, n + 1, q, rgV 0 c, rfl, hS1.upd qa qb, SqL.of (by rw [hid_ne qa qb]; exact upd_same), by omega, by omega, fun H3 p zs e3 s3 hp hP hperm => ?_⟩
      rw [rgV_ints] at hperm
      obtain ⟨ms, rfl, hms⟩ := perm_ints hperm
      have hnd : ms.Nodup := hms.symm.nodup (range_nodup _)
      have hml : ms.length = c.toNat := by rw [hms.length_eq, List.length_map, List.length_range]
      have hmb : ∀ x ∈ ms, 0 ≤ x ∧ x < c := fun x hx => by
        obtain ⟨i, hi, rfl⟩ := List.mem_map.mp (hms.mem_iff.mp hx)
        have := List.mem_range.mp hi
        omega
      have hq0 : H1 p = none := by
        have : upd H1 q (.lst (rgV 0 c)) p = none := hp
        by_cases hpq : p = q
        · rw [hpq]
          exact hq
        · rw [upd_ne hpq] at this
          exact this
      exact ⟨p, ms, rfl, hE1.trans ((hid_mono (Ex.new hq)).trans e3), s3.mono (by omega), ExS.back hE1 hS1 hq0, e3.at (by rw [upd_ne hqg]; exact hG1) ga gb, hP, hnd, hmb, by omega⟩
    rintro σ H2 ⟨p, ms, rfl, hE2, hS2, hp0, hG2, hP2, hnd, hmb, hml⟩
    have pa := hS.nea hp0
    have pb := hS.neb hp0
    -- inner
    refine ⟨fun σ G => ∃ i : Nat, σ = [some (.ref a), some (.int o), some (.int m), some (.int y), some (.int c), some (.ref g), some (.ref p), some (.int (i : Int)), none, none, none, none, none, none, none, none] ∧ ExS a b H G ∧ SAt G a b (n + 201) ∧ G g = some (.lst []) ∧ G p = some (.lst (ms.map V.int)) ∧ 1 ≤ i ∧ i ≤ 2 ∧ (i : Int) + 1 ≤ c, ?_, ?_⟩
    · refine ⟨_, rfl, _, rfl, _, _, rfl, rfl, _, _, rfl, a, b, n + 200, _, rfl, hS2, by omega, ?_, ?_, fun H3 d e3 s3 d0 d1 => ?_⟩
      · split <;> omega
      · split <;> omega
      · refine ⟨_, _, rfl, rfl, (1 + d).toNat, ?_, hE2.trans e3, s3, e3.at hG2 ga gb, e3.at hP2 pa pb, by omega, ?_, ?_⟩
        · show [_, _, _, _, _, _, _, some (V.int (1 + d)), _, _, _, _, _, _, _, _] = _
          rw [show (((1 + d).toNat : Nat) : Int) = 1 + d by omega]
        · split at d1 <;> omega
        · split at d1 <;> omega
    rintro σ H3 ⟨i, rfl, hE3, hS3, hG3, hP3, i1, i2, i3⟩
    -- outer
    refine ⟨fun σ G => ∃ u : Nat, σ = [some (.ref a), some (.int o), some (.int m), some (.int y), some (.int c), some (.ref g), some (.ref p), some (.int (i : Int)), some (.int (u : Int)), none, none, none, none, none, none, none] ∧ ExS a b H G ∧ SAt G a b (n + 202) ∧ G g = some (.lst []) ∧ G p = some (.lst (ms.map V.int)) ∧ 1 ≤ u ∧ u ≤ 2 ∧ (i : Int) + u ≤ c, ?_, ?_⟩
    · refine ⟨_, rfl, _, rfl, _, rfl, _, _, rfl, rfl, _, _, rfl, a, b, n + 201, _, rfl, hS3, by omega, ?_, ?_, fun H4 d e4 s4 d0 d1 => ?_⟩
      · split <;> omega
      · split <;> omega
      · refine ⟨_, _, rfl, rfl, (1 + d).toNat, ?_, hE3.trans e4, s4, e4.at hG3 ga gb, e4.at hP3 pa pb, by omega, ?_, ?_⟩
        · show [_, _, _, _, _, _, _, _, some (V.int (1 + d)), _, _, _, _, _, _, _] = _
          rw [show (((1 + d).toNat : Nat) : Int) = 1 + d by omega]
        · split at d1 <;> omega
        · split at d1 <;> omega
    rintro σ H4 ⟨u, rfl, hE4, hS4, hG4, hP4, u1, u2, u3⟩
    have hiu : i + u ≤ ms.length := by omega
    generalize hisE : ms.take i = is
    generalize hosE : (ms.drop i).take u = os
    have hsplit : is ++ os ++ ms.drop (i + u) = ms := by
      rw [← hisE, ← hosE, ← List.drop_drop, List.append_assoc, List.take_append_drop, List.take_append_drop]
    have hndA : (is ++ os ++ ms.drop (i + u)).Nodup := by rw [hsplit]; exact hnd
    have memA : ∀ x ∈ is ++ os ++ ms.drop (i + u), 0 ≤ x ∧ x < c := by rw [hsplit]; exact hmb
    have hil : is.length = i := by rw [← hisE, List.length_take]; omega
    have hul : os.length = u := by rw [← hosE, List.length_take, List.length_drop]; omega
    have hdr : DrOk c is os := ⟨(List.nodup_append.mp hndA).1, fun x hx => memA x (List.mem_append_left _ hx), fun z => by rw [z] at hil; simp at hil; omega, fun z => by rw [z] at hul; simp at hul; omega, by omega, by omega⟩
    -- ins, outs
    refine ⟨fun σ G => ∃ li lo : Addr, σ = [some (.ref a), some (.int o), some (.int m), some (.int y), some (.int c), some (.ref g), some (.ref p), some (.int (i : Int)), some (.int (u : Int)), some (.ref li), some (.ref lo), none, none, none, none, none] ∧ ExS a b H G ∧ SAt G a b (n + 202) ∧ G g = some (.lst []) ∧ G p = some (.lst (ms.map V.int)) ∧ H li = none ∧ H lo = none ∧ g ≠ li ∧ g ≠ lo ∧ G li = some (.lst (is.map V.int)) ∧ G lo = some (.lst (os.map V.int)), ?_, ?_⟩
    · refine ⟨_, rfl, _, rfl, _, rfl, p, _, rfl, SqL.of hP4, fun li hli => ?_⟩
      rw [cut_to, ← List.map_take, hisE]
      have y1 := Ex.new (o := .lst (is.map V.int)) hli
      have f1 : upd H4 li (.lst (is.map V.int)) li = some (.lst (is.map V.int)) := upd_same
      have gl := ne_of_none hG4 hli
      generalize upd H4 li (.lst (is.map V.int)) = H5 at y1 f1 ⊢
      refine ⟨_, rfl, _, rfl, _, rfl, _, rfl, _, rfl, _, _, rfl, rfl, _, rfl, p, _, rfl, SqL.of (y1 _ _ hP4), fun lo hlo => ?_⟩
      rw [cut_mid _ i u (by rw [List.length_map]; exact hiu), ← List.map_drop, ← List.map_take, hosE]
      have y2 := Ex.new (o := .lst (os.map V.int)) hlo
      have gl2 := ne_of_none (y1 _ _ hG4) hlo
      exact ⟨_, _, rfl, li, lo, rfl, hE4.trans (hid_mono (y1.trans y2)), hS4.ex (y1.trans y2), (y1.trans y2) _ _ hG4, (y1.trans y2) _ _ hP4, ExS.back hE4 hS4 hli, ExS.back hE4 hS4 (fresh_back y1 hlo), gl, gl2, y2 _ _ f1, upd_same⟩
    rintro σ H5 ⟨li, lo, rfl, hE5, hS5, hG5, hP5, li0, lo0, gli, glo, hLi5, hLo5⟩
    have lia := hS.nea li0
    have lib := hS.neb li0
    have loa := hS.nea lo0
    have lob := hS.neb lo0
    obtain ⟨x0, xr, hx0⟩ : ∃ x0 xr, is = x0 :: xr := by
      cases is with
      | nil => exact absurd rfl hdr.i1
      | cons x r => exact ⟨x, r, rfl⟩
    obtain ⟨z0, zr, hz0⟩ : ∃ z0 zr, os = z0 :: zr := by
      cases os with
      | nil => exact absurd rfl hdr.o1
      | cons x r => exact ⟨x, r, rfl⟩
    have i0at : atI (is.map V.int) 0 = some (.int x0) := by rw [hx0]; exact atI_nat (j := 0) rfl
    have o0at : atI (os.map V.int) 0 = some (.int z0) := by rw [hz0]; exact atI_nat (j := 0) rfl
    -- line
    refine ⟨fun σ G => ∃ (L : Addr) (ln : List Int), σ = [some (.ref a), some (.int o), some (.int m), some (.int y), some (.int c), some (.ref g), some (.ref p), some (.int (i : Int)), some (.int (u : Int)), some (.ref li), some (.ref lo), some (.ref L), none, none, none, none] ∧ ExS a b H G ∧ SAt G a b (n + 800) ∧ G g = some (.lst []) ∧ G li = some (.lst (is.map V.int)) ∧ G lo = some (.lst (os.map V.int)) ∧ H L = none ∧ g ≠ L ∧ G L = some (.lst (ln.map V.int)) ∧ ln.Nodup ∧ (∀ x ∈ ln, 0 ≤ x ∧ x < c) ∧ ln.length ≤ 4, ?_, ?_⟩
    · refine ⟨_, rfl, li, _, 0, .int x0, rfl, rfl, SqL.of hLi5, i0at, by show 1 ≤ sizeLine; decide, fun A0 hA0 => ?_⟩
      have y1 := Ex.new (o := .lst [V.int x0]) hA0
      have f1 : upd H5 A0 (.lst [V.int x0]) A0 = some (.lst [V.int x0]) := upd_same
      have A0a := hS5.nea hA0
      have A0b := hS5.neb hA0
      generalize upd H5 A0 (.lst [V.int x0]) = J1 at y1 f1 ⊢
      refine ⟨_, rfl, _, rfl, _, rfl, _, rfl, _, _, rfl, rfl, _, rfl, p, _, rfl, SqL.of (y1 _ _ hP5), fun r hr0 => ?_⟩
      rw [show ((i : Int) + (u : Int)) = ((i + u : Nat) : Int) by omega]
      rw [cut_fr, ← List.map_drop]
      have y2 := Ex.new (o := .lst ((ms.drop (i + u)).map V.int)) hr0
      have f2 : upd J1 r (.lst ((ms.drop (i + u)).map V.int)) r = some (.lst ((ms.drop (i + u)).map V.int)) := upd_same
      generalize upd J1 r (.lst ((ms.drop (i + u)).map V.int)) = J2 at y2 f2 ⊢
      have e2 := y1.trans y2
      have s2 := hS5.ex e2
      have r00 := fresh_back y1 hr0
      refine ⟨a, b, n + 202, r, _, rfl, s2, SqL.of (by rw [hid_ne (hS5.nea r00) (hS5.neb r00)]; exact f2), by rw [List.length_map, List.length_drop]; omega, by rw [List.length_map, List.length_drop]; omega, fun J3 q zs e3 s3 hq hQ hperm => ?_⟩
      obtain ⟨ns, rfl, hns⟩ := perm_ints hperm
      rw [List.length_map, List.length_drop] at s3
      refine ⟨_, rfl, a, b, _, 3, rfl, s3, by omega, by decide, by decide, fun J4 d e4 s4 d0 d1 => ?_⟩
      obtain ⟨j, rfl⟩ : ∃ j : Nat, d = (j : Int) := ⟨d.toNat, by omega⟩
      have qq : hid a b J3 q = some (.lst (ns.map V.int)) := by
        rw [hid_ne (s2.nea hq) (s2.neb hq)]
        exact hQ
      refine ⟨_, rfl, q, _, rfl, SqL.of (hid_ex _ _ (e4 _ _ qq)), fun B0 hB0 => ?_⟩
      rw [cut_to, ← List.map_take]
      have e24 : ExS a b J1 J4 := (hid_mono y2).trans (e3.trans e4)
      have g4 : J4 A0 = some (.lst [V.int x0]) := e24.at f1 A0a A0b
      have y5 := Ex.new (o := .lst ((ns.take j).map V.int)) hB0
      have f5 : upd J4 B0 (.lst ((ns.take j).map V.int)) B0 = some (.lst ((ns.take j).map V.int)) := upd_same
      generalize upd J4 B0 (.lst ((ns.take j).map V.int)) = J5 at y5 f5 ⊢
      have hj : (ns.take j).length ≤ 2 := by rw [List.length_take]; omega
      refine ⟨A0, B0, _, _, rfl, rfl, y5 _ _ g4, f5, by rw [List.length_map]; exact sz_le (by show 1 + _ ≤ _; omega), fun D0 hD0 => ?_⟩
      have y6 := Ex.new (o := .lst ([V.int x0] ++ (ns.take j).map V.int)) hD0
      have f6 : upd J5 D0 (.lst ([V.int x0] ++ (ns.take j).map V.int)) D0 = some (.lst ([V.int x0] ++ (ns.take j).map V.int)) := upd_same
      generalize upd J5 D0 (.lst ([V.int x0] ++ (ns.take j).map V.int)) = J6 at y6 f6 ⊢
      have e15 : ExS a b H5 J6 := (hid_mono y1).trans (e24.trans (hid_mono (y5.trans y6)))
      have s6 := s4.ex (y5.trans y6)
      refine ⟨_, rfl, lo, _, 0, .int z0, rfl, rfl, SqL.of (e15.at hLo5 loa lob), o0at, by show 1 ≤ sizeLine; decide, fun C0 hC0 => ?_⟩
      have y7 := Ex.new (o := .lst [V.int z0]) hC0
      have f7 : upd J6 C0 (.lst [V.int z0]) C0 = some (.lst [V.int z0]) := upd_same
      generalize upd J6 C0 (.lst [V.int z0]) = J7 at y7 f7 ⊢
      refine ⟨D0, C0, _, _, rfl, rfl, y7 _ _ f6, f7, sz_le (by rw [List.length_append, List.length_map]; show 1 + _ + 1 ≤ _; omega), fun L hL => ?_⟩
      have e17 : ExS a b H5 J7 := e15.trans (hid_mono y7)
      have s7 := s6.ex y7
      have hL5 : H5 L = none := e17.back s7 hL
      have y8 := Ex.new (o := .lst (([V.int x0] ++ (ns.take j).map V.int) ++ [V.int z0])) hL
      have hlnE : ([V.int x0] ++ (ns.take j).map V.int) ++ [V.int z0] = ([x0] ++ ns.take j ++ [z0]).map V.int := by rw [List.map_append, List.map_append]; rfl
      have mx0 : x0 ∈ is := by rw [hx0]; exact List.mem_cons_self
      have mz0 : z0 ∈ os := by rw [hz0]; exact List.mem_cons_self
      have mns : ∀ x ∈ ns.take j, x ∈ ms.drop (i + u) := fun x hx => hns.mem_iff.mp (List.mem_of_mem_take hx)
      have hnA := List.nodup_append.mp hndA
      have hnB := List.nodup_append.mp hnA.1
      refine ⟨L, [x0] ++ ns.take j ++ [z0], rfl, hE5.trans (ExS.new e17 hL), (s7.ex y8).mono (by omega), y8 _ _ (e17.at hG5 ga gb), y8 _ _ (e17.at hLi5 lia lib), y8 _ _ (e17.at hLo5 loa lob), ExS.back hE5 hS5 hL5, ne_of_none (e17.at hG5 ga gb) hL, by rw [← hlnE]; exact upd_same, ?_, ?_, ?_⟩
      · refine List.nodup_append.mpr ⟨List.nodup_append.mpr ⟨by simp, (hns.symm.nodup hnA.2.1).sublist (List.take_sublist _ _), fun x hx z hz e => ?_⟩, by simp, fun x hx z hz e => ?_⟩
        · obtain rfl : x = x0 := by simpa using hx
          subst e
          exact hnA.2.2 x (List.mem_append_left _ mx0) x (mns x hz) rfl
        · obtain rfl : z = z0 := by simpa using hz
          subst e
          rcases List.mem_append.mp hx with hx | hx
          · obtain rfl : x = x0 := by simpa using hx
            exact hnB.2.2 x mx0 x mz0 rfl
          · exact hnA.2.2 x (List.mem_append_right _ mz0) x (mns x hx) rfl
      · intro x hx
        rcases List.mem_append.mp hx with hx | hx
        · rcases List.mem_append.mp hx with hx | hx
          · obtain rfl : x = x0 := by simpa using hx
            exact memA x (List.mem_append_left _ (List.mem_append_left _ mx0))
          · exact memA x (List.mem_append_right _ (mns x hx))
        · obtain rfl : x = z0 := by simpa using hx
          exact memA x (List.mem_append_left _ (List.mem_append_right _ mz0))
      · rw [List.length_append, List.length_append]
        show 1 + _ + 1 ≤ 4
        omega
    rintro σ H6 ⟨L, ln, rfl, hE6, hS6, hG6, hLi6, hLo6, L0, gL, hL6, hlnd, hlnb, hlnl⟩
    have La := hS.nea L0
    have Lb := hS.neb L0
    -- what stands
    have kp : ∀ {G G' : Hp}, ExS a b G G' → (G li = some (.lst (is.map V.int)) ∧ G lo = some (.lst (os.map V.int))) → (G' li = some (.lst (is.map V.int)) ∧ G' lo = some (.lst (os.map V.int))) := fun e z => ⟨e.at z.1 lia lib, e.at z.2 loa lob⟩
    have kg : ∀ {G : Hp} {o : HO}, (G li = some (.lst (is.map V.int)) ∧ G lo = some (.lst (os.map V.int))) → (upd G g o li = some (.lst (is.map V.int)) ∧ upd G g o lo = some (.lst (os.map V.int))) := fun z => ⟨by rw [upd_ne gli.symm]; exact z.1, by rw [upd_ne glo.symm]; exact z.2⟩
    -- the line's steps
    refine ⟨fun σ G => ∃ (x12 x13 : Option V) (vs : List V) (ss : List St5), σ = [some (.ref a), some (.int o), some (.int m), some (.int y), some (.int c), some (.ref g), some (.ref p), some (.int (i : Int)), some (.int (u : Int)), some (.ref li), some (.ref lo), some (.ref L), x12, x13, none, none] ∧ ExS a b H G ∧ SAt G a b (n + 900) ∧
      (G li = some (.lst (is.map V.int)) ∧ G lo = some (.lst (os.map V.int))) ∧ G g = some (.lst vs) ∧ DpAll K (tps G) vs (ss.map stD) ∧ WbOk c ss ∧ ss.length ≤ 4, ?_, ?_⟩
    · refine ⟨_, rfl, _, rfl, _, rfl, L, _, rfl, SqL.of hL6, fun L2 hL2 => ?_⟩
      rw [show (1 : Int) = ((1 : Nat) : Int) from rfl, cut_fr, ← List.map_drop]
      have y1 := Ex.new (o := .lst ((ln.drop 1).map V.int)) hL2
      have f1 : upd H6 L2 (.lst ((ln.drop 1).map V.int)) L2 = some (.lst ((ln.drop 1).map V.int)) := upd_same
      have gL2 := ne_of_none hG6 hL2
      have L2a := hS6.nea hL2
      have L2b := hS6.neb hL2
      generalize upd H6 L2 (.lst ((ln.drop 1).map V.int)) = G0 at y1 f1 ⊢
      refine ⟨L, L2, ln.map V.int, (ln.drop 1).map V.int, rfl, .inl ⟨SqL.of (y1 _ _ hL6), SqL.of f1, for_zipL (by rw [List.length_map, List.length_map, List.length_drop]; omega) (fun q σ G => ∃ (x12 x13 : Option V) (vs : List V) (ss : List St5), σ = [some (.ref a), some (.int o), some (.int m), some (.int y), some (.int c), some (.ref g), some (.ref p), some (.int (i : Int)), some (.int (u : Int)), some (.ref li), some (.ref lo), some (.ref L), x12, x13, none, none] ∧ ExS a b H G ∧ SAt G a b (n + 800 + 5 * q) ∧
        (G li = some (.lst (is.map V.int)) ∧ G lo = some (.lst (os.map V.int))) ∧ (G L = some (.lst (ln.map V.int)) ∧ G L2 = some (.lst ((ln.drop 1).map V.int))) ∧ G g = some (.lst vs) ∧ DpAll K (tps G) vs (ss.map stD) ∧ WbOk c ss ∧ ss.length = q ∧ ss.map (·.one) = ln.take q) ?_ (fun q σ G ⟨_, _, _, _, _, _, _, _, z, _⟩ => ⟨SqL.of z.1, SqL.of z.2⟩) ?_ ?_⟩⟩
      · exact ⟨none, none, [], [], rfl, hE6.trans (hid_mono y1), hS6.ex y1, ⟨y1 _ _ hLi6, y1 _ _ hLo6⟩, ⟨y1 _ _ hL6, f1⟩, y1 _ _ hG6, .nil, ⟨by omega, fun s hs => absurd hs (by simp), fun s hs => absurd hs (by simp), List.nodup_nil⟩, rfl, rfl⟩
      · rintro q x z σ G T hx hz ⟨x12, x13, vs, ss, rfl, hE, hSq, hK, hLL, hG, hD, hW, hlen, hone⟩ hT
        obtain ⟨cx, hcx, rfl⟩ := get_ints hx
        obtain ⟨cz, hcz, rfl⟩ := get_ints hz
        have eT := Ex.new (o := .tup [V.int cx, V.int cz]) hT
        refine ⟨T, _, rfl, SqT.of upd_same, rfl, _, _, rfl, _, _, rfl, rfl, ?_⟩
        have hG2 := eT _ _ hG
        have hK2 := kp (hid_mono eT) hK
        have hLL2 := And.intro (eT _ _ hLL.1) (eT _ _ hLL.2)
        have s2 := hSq.ex eT
        have hD2 := dpa_ex (tps_mono eT) _ _ hD
        have hE2 : ExS a b H (upd G T (.tup [V.int cx, V.int cz])) := hE.trans (hid_mono eT)
        generalize upd G T (.tup [V.int cx, V.int cz]) = G2 at hG2 hK2 hLL2 s2 hD2 hE2 ⊢
        have ql : q < ln.length := (List.getElem?_eq_some_iff.mp hcx).1
        refine ⟨_, rfl, .inl ⟨rfl, _, SqL.of hG2⟩, _, rfl, _, rfl, _, rfl, _, rfl, a, b, n + 800 + 5 * q, cx, cz, y, rfl, s2, by omega, fun G4 ps st e4 s5 hp hd so st' k1 sm => ?_⟩
        have hG5 := e4.at hG2 ga gb
        refine ⟨g, vs, .ref ps, rfl, rfl, hG5, ?_, ?_⟩
        · rw [dpa_len hD2, List.length_map, hlen]
          exact sz_m (by omega)
        · have tp : Ex (tps G2) (tps (upd G4 g (.lst (vs ++ [.ref ps])))) := (tps_hid e4 s2).trans (tps_upd (NoTup.lst hG5))
          refine ⟨_, _, vs ++ [.ref ps], ss ++ [st], rfl, ExS.own (hE2.trans e4) hg ga gb, (s5.upd ga gb).mono (by omega), kg (kp e4 hK2), ⟨by rw [upd_ne gL.symm]; exact e4.at hLL2.1 La Lb, by rw [upd_ne gL2.symm]; exact e4.at hLL2.2 L2a L2b⟩, upd_same, ?_, ?_, by rw [List.length_append, hlen]; rfl, ?_⟩
          · rw [List.map_append]
            exact dpa_app (dpa_ex tp _ _ hD2) (.cons (dp_ex (tps_upd (NoTup.lst hG5)) _ _ hd) .nil)
          · have hxm := hlnb cx (mem_of_get hcx)
            have hzm := hlnb cz (List.mem_of_mem_drop (mem_of_get hcz))
            refine ⟨hW.n1, fun s hs => ?_, fun s hs => ?_, ?_⟩
            · rcases List.mem_append.mp hs with hs | hs
              · exact hW.ok s hs
              · obtain rfl := List.mem_singleton.mp hs
                exact ⟨by omega, by omega, by omega, by omega, k1⟩
            · rcases List.mem_append.mp hs with hs | hs
              · exact hW.sm s hs
              · obtain rfl := List.mem_singleton.mp hs
                exact sm
            · refine List.nodup_append.mpr ⟨hW.nd, List.nodup_cons.mpr ⟨by simp, List.nodup_nil⟩, fun x hx y2 hy e => ?_⟩
              obtain rfl := List.mem_singleton.mp hy
              subst e
              have h1 : x.one ∈ ln.take q := by
                rw [← hone]
                exact List.mem_map.mpr ⟨x, hx, rfl⟩
              rw [so] at h1
              obtain ⟨j, hj, e⟩ := List.mem_iff_getElem.mp h1
              rw [List.getElem_take] at e
              rw [List.length_take] at hj
              have := (List.getElem?_eq_some_iff.mp hcx).2
              rw [← this] at e
              have := (List.getElem_inj hlnd).mp e
              omega
          · rw [List.map_append, hone, List.take_add_one, hcx]
            show _ ++ [st.one] = _ ++ [cx]
            rw [so]
      · rintro σ G ⟨x12, x13, vs, ss, rfl, hE, hSq, hK, hLL, hG, hD, hW, hlen, hone⟩
        rw [List.length_map, List.length_drop] at hlen hSq
        exact ⟨x12, x13, vs, ss, rfl, hE, hSq.mono (by omega), hK, hG, hD, hW, by omega⟩
    rintro σ H7 ⟨x12, x13, vs, ss, rfl, hE7, hS7, hK7, hG7, hD7, hW7, hl7⟩
    -- more steps
    refine ⟨fun σ G => ∃ (x12 x13 x14 x15 : Option V) (vs : List V) (ss : List St5), σ = [some (.ref a), some (.int o), some (.int m), some (.int y), some (.int c), some (.ref g), some (.ref p), some (.int (i : Int)), some (.int (u : Int)), some (.ref li), some (.ref lo), some (.ref L), x12, x13, x14, x15] ∧ ExS a b H G ∧ SAt G a b (n + 10000) ∧
      (G li = some (.lst (is.map V.int)) ∧ G lo = some (.lst (os.map V.int))) ∧ G g = some (.lst vs) ∧ DpAll K (tps G) vs (ss.map stD) ∧ WbOk c ss ∧ (ss.length : Int) ≤ m, ?_, ?_⟩
    · have hvl := dpa_len hD7
      rw [List.length_map] at hvl
      refine ⟨_, rfl, _, rfl, _, rfl, g, vs, rfl, .inl (SqL.of hG7), _, _, rfl, rfl, _, _, rfl, rfl, a, b, n + 900, _, rfl, hS7, by omega, by rw [hvl]; omega, by rw [hvl]; omega, fun H8 t e8 s8 t0 t1 => ?_⟩
      rw [hvl] at t1
      refine ⟨t, rfl, by omega, by omega, for_range (lo := 0) (n := t.toNat) (fun q σ G => ∃ (x14 x15 : Option V) (vs : List V) (ss : List St5), σ = [some (.ref a), some (.int o), some (.int m), some (.int y), some (.int c), some (.ref g), some (.ref p), some (.int (i : Int)), some (.int (u : Int)), some (.ref li), some (.ref lo), some (.ref L), x12, x13, x14, x15] ∧ ExS a b H G ∧ SAt G a b (n + 901 + 7 * q) ∧
        (G li = some (.lst (is.map V.int)) ∧ G lo = some (.lst (os.map V.int))) ∧ G g = some (.lst vs) ∧ DpAll K (tps G) vs (ss.map stD) ∧ WbOk c ss ∧ (ss.length : Int) + (t - q) ≤ m) ?_ ?_ ?_⟩
      · exact ⟨none, none, vs, ss, rfl, hE7.trans e8, s8, kp e8 hK7, e8.at hG7 ga gb, dpa_ex (tps_hid e8 hS7) _ _ hD7, hW7, by omega⟩
      · rintro q σ G5 hi ⟨x14, x15, vs, ss, rfl, hE5, hS5, hK5, hG5, hD5, hW5, hl5⟩
        have hvl := dpa_len hD5
        rw [List.length_map] at hvl
        refine ⟨_, rfl, _, rfl, _, rfl, a, b, n + 901 + 7 * q, c, rfl, hS5, by omega, by omega, by omega, fun G6 d1 e6 s6 d10 d11 => ?_⟩
        refine ⟨_, rfl, _, rfl, a, b, n + 901 + 7 * q + 1, c, rfl, s6, by omega, by omega, by omega, fun G7 d2 e7 s7 d20 d21 => ?_⟩
        refine ⟨_, rfl, a, b, n + 901 + 7 * q + 2, d1, d2, y, rfl, s7, by omega, fun G8 ps st e8 s8 hp hd so st' k1 sm => ?_⟩
        have e58 : ExS a b G5 G8 := e6.trans (e7.trans e8)
        have hE8 : ExS a b H G8 := hE5.trans e58
        have hG8 : G8 g = some (.lst vs) := e58.at hG5 ga gb
        have hK8 := kp e58 hK5
        have hD8 : DpAll K (tps G8) vs (ss.map stD) := dpa_ex (tps_hid e58 hS5) _ _ hD5
        refine ⟨_, rfl, .inl ⟨rfl, _, SqL.of hG8⟩, _, rfl, _, rfl, stD st, ss.map stD, dp_ex tps_le _ _ hd, .lst (SqL.of hG8) (dpa_ex tps_le _ _ hD8), stD_shaped st, stDs_shaped ss, _, rfl, ?_⟩
        rw [any_eqv]
        have stok : StOk c st := ⟨by omega, by omega, by omega, by omega, k1⟩
        by_cases hin : st ∈ ss
        · rw [decide_eq_true hin]
          refine iteF ?_
          refine ⟨Nat.zero_le _, fun u hu => ?_⟩
          have hgu : g ≠ u := ne_of_none hG8 hu
          have hG9 : upd G8 u (.lst []) g = some (.lst vs) := by rw [upd_ne hgu]; exact hG8
          refine ⟨g, u, vs, [], rfl, rfl, hG9, upd_same, by rw [hvl, List.length_nil, Nat.add_zero]; exact sz_le (by omega), ?_⟩
          rw [List.append_nil]
          refine ⟨_, _, vs, ss, rfl, ExS.own (ExS.new hE8 hu) hg ga gb, ((s8.ex (Ex.new hu)).upd ga gb).mono (by omega), kg (kp (hid_mono (Ex.new hu)) hK8), upd_same, dpa_ex ((tps_mono (Ex.new hu)).trans (tps_upd (NoTup.lst hG9))) _ _ hD8, hW5, by omega⟩
        · rw [decide_eq_false hin]
          refine iteT ?_
          refine ⟨_, rfl, by show 1 ≤ sizeLine; decide, fun u hu => ?_⟩
          have hgu : g ≠ u := ne_of_none hG8 hu
          have hG9 : upd G8 u (.lst [.ref ps]) g = some (.lst vs) := by rw [upd_ne hgu]; exact hG8
          refine ⟨g, u, vs, [.ref ps], rfl, rfl, hG9, upd_same, by rw [hvl, List.length_singleton]; exact sz_le (by omega), ?_⟩
          have tp : Ex (tps G8) (tps (upd (upd G8 u (.lst [.ref ps])) g (.lst (vs ++ [.ref ps])))) := (tps_mono (Ex.new hu)).trans (tps_upd (NoTup.lst hG9))
          refine ⟨_, _, vs ++ [.ref ps], ss ++ [st], rfl, ExS.own (ExS.new hE8 hu) hg ga gb, ((s8.ex (Ex.new hu)).upd ga gb).mono (by omega), kg (kp (hid_mono (Ex.new hu)) hK8), upd_same, ?_, ?_, by rw [List.length_append, List.length_singleton]; omega⟩
          · rw [List.map_append]
            exact dpa_app (dpa_ex tp _ _ hD8) (.cons (dp_ex tp _ _ hd) .nil)
          · refine ⟨hW5.n1, fun s hs => ?_, fun s hs => ?_, ?_⟩
            · rcases List.mem_append.mp hs with hs | hs
              · exact hW5.ok s hs
              · obtain rfl := List.mem_singleton.mp hs
                exact stok
            · rcases List.mem_append.mp hs with hs | hs
              · exact hW5.sm s hs
              · obtain rfl := List.mem_singleton.mp hs
                exact sm
            · refine List.nodup_append.mpr ⟨hW5.nd, List.nodup_cons.mpr ⟨by simp, List.nodup_nil⟩, fun x hx y2 hy e => ?_⟩
              obtain rfl := List.mem_singleton.mp hy
              subst e
              exact hin hx
      · rintro σ G5 ⟨x14, x15, vs, ss, rfl, hE5, hS5, hK5, hG5, hD5, hW5, hl5⟩
        exact ⟨x12, x13, x14, x15, vs, ss, rfl, hE5, hS5.mono (by omega), hK5, hG5, hD5, hW5, by omega⟩
    rintro σ H8 ⟨x12, x13, x14, x15, vs, ss, rfl, hE8, hS8, hK8, hG8, hD8, hW8, hl8⟩
    have hvl := dpa_len hD8
    rw [List.length_map] at hvl
    refine ⟨_, rfl, _, rfl, _, rfl, a, b, n + 10000, g, vs, rfl, hS8, SqL.of (by rw [hid_ne ga gb]; exact hG8), by omega, by omega, fun H9 l ys e9 s9 hl hP hperm => ?_⟩
    obtain ⟨ts, hts, hD9⟩ := dpa_perm hperm (dpa_ex (tps_hid e9 hS8) _ _ hD8)
    refine ⟨_, rfl, _, rfl, by show 4 ≤ sizeLine; decide, fun q hq => ?_⟩
    have y9 := Ex.new (o := .tup [V.int c, V.ref l, V.ref li, V.ref lo]) hq
    have hK9 := kp (hid_mono y9) (kp e9 hK8)
    exact k _ q l li lo c ys ts is os (ExS.new (hE8.trans e9) hq) ((s9.ex y9).mono (by omega)) (ExS.back (hE8.trans e9) s9 hq) (ExS.back hE8 hS8 hl) li0 lo0 upd_same (y9 _ _ hP) (dpa_ex (tps_mono y9) _ _ hD9) hK9.1 hK9.2 (hW8.perm hts) hdr c2 (by rw [hts.length_eq]; exact hl8)
end
end AA

set_option Elab.async false
set_option linter.all false
set_option maxRecDepth 100000
set_option maxHeartbeats 4000000
/-! closed. -/
namespace AA
open PySem PySem.Spec PyProof.Rows L2 Evl
theorem gh_ex {H G : Hp} {g : Addr} (hg : H g = none) (e : Ex H G) : Ex H (hid g g G) := fun x o h => by
  have := ne_of_none h hg
  rw [hid_ne this this]
  exact e _ _ h
theorem gh_ne {G : Hp} {g p : Addr} {o : HO} (n : p ≠ g) (h : G p = some o) : hid g g G p = some o := by
  rw [hid_ne n n]
  exact h

section
variable {P : Program} {w : World} {K : PySem.W.Frag} {mg : Str → Option Value} {base : Heap}
/-- what Web is asked without a fault -/
def spWebI0 (K : PySem.W.Frag) (C CP CS : Addr) : Sp := fun vs H Q _ => spWebInit K C CP CS vs H Q E0
/-- a web made of good steps -/
theorem web_good {C CP CS x dx : Addr} {G : Hp} {n : Int} {u : V} {ss : List St5} {xs : List V} {a : Addr} {Q : VK} (nx : G x = none) (ndx : G dx = none) (hn : 1 ≤ n) (hu : u = .ref a) (hs : SqA K G a xs) (hr : RdAll K n G xs ss) (nd : ss.Nodup) (hz : ss.length ≤ 1000000)
    (k : ∀ (G' : Hp) (lw : Addr) (ts : List St5), Ex G G' → WebL K C G' x lw n ts → G lw = none → ts.Perm ss → SrS ts → Q .non G') :
    spWebInit K C CP CS [.ref x, .int n, u] (upd (upd G dx (.own x)) x (.ins C dx [])) Q E0 := by
  have me := made_ex (o := .ins C dx []) nx ndx
  refine ⟨x, dx, .int n, u, rfl, upd_same, .inr ⟨n, rfl, hn, .inr ⟨a, xs, ss, hu, hs.ex me, nd, hz, .inl ⟨hr.ex me, fun G' ts dy lw kd ys e fx fl0 fl hys p so => ?_⟩⟩⟩⟩
  obtain ⟨e1, w1, l0⟩ := made_web nx ndx e fx fl0 fl hys
  exact k G' lw ts e1 w1 l0 p so
/-- the steps of a web are those of another list in order -/
theorem same_ps {C : Addr} {G : Hp} {n : Int} {p q r s : Addr} {ys zs : List V} {ts : List St5} {R : Addr → Addr → Hp → Prop} (hp : G p = some (.lst [.int n, .ref q])) (hr : G r = some (.lst [.int n, .ref s])) (hq : G q = some (.lst ys)) (hs : G s = some (.lst zs)) (h1 : DpAll K G ys (ts.map stD)) (h2 : DpAll K G zs (ts.map stD)) (hl : ts.length ≤ 1000000) :
    Sm K C R G 7 (.ref p) (.ref r) := by
  have d1 : Dp K G (.ref p) (.list [.int n, .list (ts.map stD)]) := .lst (SqL.of hp) (.cons (.int n) (.cons (.lst (SqL.of hq) h1) .nil))
  have d2 : Dp K G (.ref r) (.list [.int n, .list (ts.map stD)]) := .lst (SqL.of hr) (.cons (.int n) (.cons (.lst (SqL.of hs) h2) .nil))
  refine sm_two _ _ _ 7 d1 d2 ?_ ?_
  · show (decide (2 ≤ 1000000) && (true && ((decide ((ts.map stD).length ≤ 1000000) && dOkA (ts.map stD)) && true))) = true
    rw [dok_sts, List.length_map, decide_eq_true hl]
    rfl
  · have := stDs_depth ts
    show max 0 (max (PyData.depthAll (ts.map stD) + 1) 0) + 1 < 7
    omega
theorem same_l {C : Addr} {G : Hp} {q s : Addr} {ys zs : List V} {ts : List St5} {R : Addr → Addr → Hp → Prop} (hq : G q = some (.lst ys)) (hs : G s = some (.lst zs)) (h1 : DpAll K G ys (ts.map stD)) (h2 : DpAll K G zs (ts.map stD)) (hl : ts.length ≤ 1000000) :
    Sm K C R G 7 (.ref q) (.ref s) := by
  refine sm_two (.list (ts.map stD)) _ _ 7 (.lst (SqL.of hq) h1) (.lst (SqL.of hs) h2) ?_ ?_
  · show (decide ((ts.map stD).length ≤ 1000000) && dOkA (ts.map stD)) = true
    rw [dok_sts, List.length_map, decide_eq_true hl]
    rfl
  · have := stDs_depth ts
    show PyData.depthAll (ts.map stD) + 1 < 7
    omega

end
/-- all that is known of the class -/
structure WbK (P : Program) (w : World) (K : PySem.W.Frag) (mg : Str → Option Value) (base : Heap) (C CP CS fI fP fS fE : Addr) (fdI fdP fdS fdE : FuncData) : Prop where
  T : WebTxt K mg C
  M : Mk K C fI
  GI : FnOk P w K mg base CX0 5 fI fdI ["self", "places", "steps"] (spWebI0 K C CP CS)
  bI : Binds K fdI ["self", "places", "steps"] []
  GP : FnOk P w K mg base CX0 1 fP fdP ["self"] (spPlaces K C)
  bP : Binds K fdP ["self"] []
  mP : Meth K C "places" fP
  GS : FnOk P w K mg base CX0 1 fS fdS ["self"] (spSteps K C)
  bS : Binds K fdS ["self"] []
  mS : Meth K C "steps" fS
  GE : FnOk P w K mg base CX0 1 fE fdE ["self", "other"] (spEqV K C)
  bE : Binds K fdE ["self", "other"] []
  hE : PySem.W.findIn K (.ref C) "__eq__" = some (some (.ref fE))
  iE : PySem.W.isFn K (.ref fE) = true
  hN : PySem.W.findIn K (.ref C) "__ne__" = some (some (.builtin "object.__ne__"))
  hm : PySem.W.mroIn K C (.type "object") = some true

section
variable {P : Program} {w : World} {K : PySem.W.Frag} {mg : Str → Option Value} {base : Heap}
theorem WyAll.ok {i o : Int} {H : Hp} : ∀ {vs : List V} {ss : List St5}, WyAll K i o H vs ss → ∀ s ∈ ss, WyOk i o s
  | _, _, .nil, s, m => absurd m (by simp)
  | _, _, .cons h hr t, s, m => (List.mem_cons.mp m).elim (fun e => e ▸ wy_ok hr) (fun m => WyAll.ok t s m)
theorem WyArg.more {i o : Int} {H : Hp} {v : V} {B : Nat → Prop} {G : List St5 → Prop} (h : WyArg K i o H v B G) : WyArg K i o H v B (fun ss => G ss ∧ ∀ s ∈ ss, WyOk i o s) := by
  rcases h with h | ⟨a, xs, ss, h1, h2, h3, h4, h⟩
  · exact .inl h
  · exact .inr ⟨a, xs, ss, h1, h2, h3, h4, h.imp (fun z => ⟨z.1, z.2, z.1.ok⟩) id⟩
def spClosed (K : PySem.W.Frag) (CW C CB : Addr) : Sp := fun vs H Q E => ∃ (p wb lw li lo : Addr) (n : Int) (ss : List St5) (is os : List Int) (v : V), vs = [.ref p, v] ∧ PtL K CW C H p wb lw li lo n ss is os ∧ 1 ≤ n ∧ (∀ s ∈ ss, StOk n s) ∧ ss.Nodup ∧ ss.length ≤ 1000 ∧ DrOk n is os ∧
  WyArg K is.length os.length H v (fun i => BadE CB "index" H (.int (i : Nat)) E) (fun ws => ws.length ≤ 1000 ∧ ∀ (H' : Hp) (x lw' : Addr) (ts : List St5), Ex H H' → WebL K CW H' x lw' n ts → H x = none → H lw' = none → SrS ts → ts.Nodup → (∀ t, t ∈ ts ↔ (t ∈ ss ∨ ∃ s ∈ ws, t = clW is os s)) → Q (.ref x) H')
theorem scClosed : FnScope ["part", "ways", "found", "wrong"] ["part", "ways"] (defScope sClosed) := ⟨rfl, rfl, rfl, by decide +kernel, rfl, by decide +kernel, by decide +kernel⟩
theorem ok_closed {f CW C CP CS CB gW gN gO fI fP fS fE fB : Addr} {fd ddW ddN ddO fdI fdP fdS fdE fdB : FuncData} (F : L2.Fun K "closed" "closed" sClosed f fd) (B : Bn mg) (T : PtTxt K mg C) (W : WbK P w K mg base CW CP CS fI fP fS fE fdI fdP fdS fdE)
    (GW : FnOk P w K mg base CX0 1 gW ddW ["self"] (spPWeb K CW C)) (bW : Binds K ddW ["self"] []) (mW : Meth K C "web" gW) (GN : FnOk P w K mg base CX0 1 gN ddN ["self"] (spPIns K CW C)) (bN : Binds K ddN ["self"] []) (mN : Meth K C "ins" gN) (GO : FnOk P w K mg base CX0 1 gO ddO ["self"] (spPOuts K CW C)) (bO : Binds K ddO ["self"] []) (mO : Meth K C "outs" gO)
    (TB : ExT K mg "BadWays" "index" CB fB) (GB : FnOk P w K mg base CX0 1 fB fdB ["self", "index"] (spExI CB "index")) (bB : Binds K fdB ["self", "index"] [])
    (cR : C8.Cal P w K mg base 5 "read_ways" (spWays K) []) (cS : C8.Cal P w K mg base 2 "closed_steps" (spCSteps K CW C) []) : FnOk P w K mg base (L2.CX P w) 7 f fd ["part", "ways"] (spClosed K CW C CB) := by
  refine F.okX scClosed (fun vs H Q E h => ?_) (fun cdv A outer s H vs Q E hr h => ?_)
  · obtain ⟨p, wb, lw, li, lo, n, ss, is, os, v, rfl, _⟩ := h
    rfl
  · obtain ⟨p, wb, lw, li, lo, n, ss, is, os, v, rfl, hP, hn, hok, hnd, hsz, hdr, h⟩ := h
    have hr1 : Room 1 _ := hr.mono (by decide)
    refine ⟨_, pss_cons (ps_asg (C8.pe_c cR hr (by decide) (by rfl) (pa_cons (pe_callB call_len_seq (by rfl) B.len PySem.boot_len (pa_cons (pe_meth0 (pv 0) T.cl mN GN hr1 bN .nil pass0) pa_nil)) (pa_cons (pe_callB call_len_seq (by rfl) B.len PySem.boot_len (pa_cons (pe_meth0 (pv 0) T.cl mO GO hr1 bO .nil pass0) pa_nil)) (pa_cons (pv 1) pa_nil))))
        (pg_tup (n := 2) rfl (pgs_cons (pg_name (i := 2) scClosed.nd rfl (Or.inl rfl)) (pgs_cons (pg_name (i := 3) scClosed.nd rfl (Or.inl rfl)) pgs_nil))))
      (pss_cons (ps_if (pt_cmp (pc_notN (pv 3))) (pss_one (ps_raise rfl (takes_of rfl rfl rfl rfl) (pmk_oex TB.ox TB.iC TB.tC GB (hr.mono (by decide)) bB .nil pass0 (by rfl) TB.gC (pa_cons (pv 3) pa_nil)))) pss_nil)
      (pss_one (ps_ret (pe_make W.M W.GI (hr.mono (by decide)) (by rfl) W.T.mgC W.bI .nil pass0 (pa_cons (pe_meth0 (pe_meth0 (pv 0) T.cl mW GW hr1 bW .nil pass0) W.T.cl W.mP W.GP hr1 W.bP .nil pass0) (pa_cons (C8.pe_c cS hr (by decide) (by rfl) (pa_cons (pv 0) (pa_cons (pv 2) pa_nil))) pa_nil)))))), ?_⟩
    obtain ⟨dxp, kdp, hx⟩ := hP.o
    obtain ⟨dxw, kdw, ys0, hw0, _⟩ := hP.w
    have no : ∀ {m : Str}, ¬ m = "_web" → ¬ m = "_ins" → ¬ m = "_outs" → ¬ m = "known" → (pf wb li lo kdp).lookup m = none := fun h1 h2 h3 h4 => pf_no _ _ _ _ h1 h2 h3 h4
    have hmi : (is.map V.int).length = is.length := List.length_map ..
    have hmo : (os.map V.int).length = os.length := List.length_map ..
    refine ⟨_, rfl, p, dxp, _, rfl, hx, no (by decide +kernel) (by decide +kernel) (by decide +kernel) (by decide +kernel), p, wb, lw, li, lo, n, ss, is, os, rfl, hP, fun q1 hq1 => ?_⟩
    have y1 := Ex.new (o := .lst (is.map V.int)) hq1
    have f1 : upd H q1 (.lst (is.map V.int)) q1 = some (.lst (is.map V.int)) := upd_same
    generalize upd H q1 (.lst (is.map V.int)) = G1 at y1 f1 ⊢
    refine ⟨q1, _, rfl, .inl (SqL.of f1), ?_⟩
    refine ⟨_, rfl, p, dxp, _, rfl, y1 _ _ hx, no (by decide +kernel) (by decide +kernel) (by decide +kernel) (by decide +kernel), p, wb, lw, li, lo, n, ss, is, os, rfl, hP.ex y1, fun q2 hq2 => ?_⟩
    have y2 := Ex.new (o := .lst (os.map V.int)) hq2
    have f2 : upd G1 q2 (.lst (os.map V.int)) q2 = some (.lst (os.map V.int)) := upd_same
    generalize upd G1 q2 (.lst (os.map V.int)) = G2 at y2 f2 ⊢
    have e2 := y1.trans y2
    refine ⟨q2, _, rfl, .inl (SqL.of f2), ?_⟩
    rw [hmi, hmo]
    refine ⟨_, rfl, _, _, v, rfl, (h.more.ex e2).imp (fun i kb G3 pr e3 pr0 hpr => ?_) fun ws ⟨⟨hwz, k⟩, hwok⟩ G3 pr l ys e3 pr0 l0 hpr hl hys => ?_⟩
    · refine ⟨pr, _, rfl, SqT.of hpr, rfl, _, _, rfl, _, _, rfl, rfl, ?_⟩
      refine ⟨_, rfl, _, rfl, iteT ?_⟩
      exact ⟨_, rfl, by show 1 ≤ 1000; decide, raise_go (kb.ex (e2.trans e3))⟩
    · refine ⟨pr, _, rfl, SqT.of hpr, rfl, _, _, rfl, _, _, rfl, rfl, ?_⟩
      refine ⟨_, rfl, _, rfl, iteF ?_⟩
      have e03 := e2.trans e3
      refine ⟨_, rfl, p, dxp, _, rfl, e03 _ _ hx, no (by decide +kernel) (by decide +kernel) (by decide +kernel) (by decide +kernel), p, wb, lw, li, lo, n, ss, is, os, rfl, hP.ex e03, wb, dxw, _, rfl, e03 _ _ hw0, wf_no _ _ _ (by decide +kernel) (by decide +kernel) (by decide +kernel), wb, n, ss, rfl, (hP.ex e03).w.at, ?_⟩
      refine ⟨_, rfl, _, rfl, p, wb, lw, li, lo, l, n, ss, is, os, ys, ws, rfl, hP.ex e03, hnd, by omega, SqL.of hl, hys, by omega, hwok, fun G4 q zs ts e4 q0 hq hzs htn htl hmem => ?_⟩
      have e04 := e03.trans e4
      have okT : ∀ t ∈ ts, StOk n t := fun t ht => by
        rcases (hmem t).mp ht with h1 | ⟨s1, h1, rfl⟩
        · exact hok t h1
        · have o1 := hwok s1 h1
          have m1 : os.getD s1.one.toNat 0 ∈ os := by
            rw [List.getD_eq_getElem?_getD, List.getElem?_eq_getElem (show s1.one.toNat < os.length by have := o1.o0; have := o1.o1; omega)]
            exact List.getElem_mem _
          have m2 : is.getD s1.other.toNat 0 ∈ is := by
            rw [List.getD_eq_getElem?_getD, List.getElem?_eq_getElem (show s1.other.toNat < is.length by have := o1.t0; have := o1.t1; omega)]
            exact List.getElem_mem _
          have b1 := hdr.rg _ (List.mem_append_right _ m1)
          have b2 := hdr.rg _ (List.mem_append_left _ m2)
          exact ⟨b1.1, b1.2, b2.1, b2.2, o1.k⟩
      refine fun x dx nx ndx nex => web_good nx ndx hn rfl (.inl (SqL.of hq)) (rdall_st hzs okT) htn htl fun G5 lw' us e5 w5 lw0 hp so => ⟨rfl, ?_⟩
      exact k G5 x lw' us (e04.trans e5) w5 (fresh_back e04 nx) (fresh_back e04 lw0) so (hp.symm.nodup htn) fun t => ⟨fun z => (hmem t).mp (hp.mem_iff.mp z), fun z => hp.mem_iff.mpr ((hmem t).mpr z)⟩
end
end AA

set_option Elab.async false
set_option linter.all false
set_option maxRecDepth 100000
set_option maxHeartbeats 4000000
/-! _law_is_whole, _law_step_of. -/
namespace AA
open PySem PySem.Spec PyProof.Rows L2 Evl
/-- the step that a thing has the form of -/
def stepOf (d : PyData) : Option St5 :=
  match itemsD d with
  | [.int a, .int b, c, .int e, .int f] =>
    match itemsD c with
    | [.int p, .int q] => some ⟨a, b, p, q, e, f⟩
    | _ => none
  | _ => none
theorem so_at {a b e f p q : Int} {d c : PyData} (hd : itemsD d = [.int a, .int b, c, .int e, .int f]) (hc : itemsD c = [.int p, .int q]) : stepOf d = some ⟨a, b, p, q, e, f⟩ := by
  unfold stepOf
  rw [hd]
  show (match itemsD c with | [.int p, .int q] => some (⟨a, b, p, q, e, f⟩ : St5) | _ => none) = _
  rw [hc]
theorem so_inv {d : PyData} {s : St5} (h : stepOf d = some s) : ∃ c, itemsD d = [.int s.one, .int s.other, c, .int s.ticks, .int s.change] ∧ itemsD c = [.int s.p, .int s.q] := by
  unfold stepOf at h
  split at h
  · rename_i e1
    split at h
    · rename_i e2
      cases (Option.some.inj h)
      exact ⟨_, e1, e2⟩
    · cases h
  · cases h
theorem rd_so {n : Int} {d : PyData} {s : St5} (h : stepOf d = some s) : rdStep n d = if 0 ≤ s.one ∧ s.one < n ∧ 0 ≤ s.other ∧ s.other < n ∧ 1 ≤ s.ticks then some s else none := by
  obtain ⟨c, h1, h2⟩ := so_inv h
  exact rd_at h1 h2
theorem rd_no {n : Int} {d : PyData} (h : stepOf d = none) : rdStep n d = none := by
  cases q : rdStep n d with
  | none => rfl
  | some s =>
    obtain ⟨d0, d1, d2, d3, d4, hd⟩ := five_of (rd_len q)
    obtain ⟨h4, h2⟩ := rd_ints hd q
    obtain ⟨a, b, e, f, rfl, rfl, rfl, rfl⟩ := four_of h4
    obtain ⟨p, q', hc⟩ := two_of h2
    rw [so_at hd hc] at h
    cases h
theorem so_no {d d0 d1 d2 d3 d4 : PyData} (hd : itemsD d = [d0, d1, d2, d3, d4]) (h : ∀ e0 e1, itemsD d2 = [e0, e1] → ¬ ([d0, d1] ++ [e0, e1] ++ [d3, d4]).all isIntD = true) : stepOf d = none := by
  cases q : stepOf d with
  | none => rfl
  | some s =>
    obtain ⟨c, h1, h2⟩ := so_inv q
    rw [hd] at h1
    cases h1
    exact absurd rfl (h _ _ h2)
theorem sz2 {n : Nat} (h : n ≤ 2000000) : n ≤ sizeLine := by
  have : sizeLine = 16777216 := rfl
  omega
theorem cut_sq {K : PySem.W.Frag} {G : Hp} {a : Addr} {xs ys : List V} {lo hi : Option Int} {R : VK} (h : SqL K G a xs ∨ SqT K G a xs) (hc : cutV xs lo hi = ys) (hw : ¬ (HT.sIx xs.length 0 lo = 0 ∧ HT.sIx xs.length xs.length hi = xs.length))
    (k : ∀ G' q, Ex G G' → G q = none → SqL K G' q ys ∨ SqT K G' q ys → R (.ref q) G') : rSlL K (.ref a) lo hi G R ∨ rSlT K (.ref a) lo hi G R := by
  subst hc
  exact h.imp (fun z => ⟨a, _, rfl, z, fun p hp => k _ p (Ex.new hp) hp (.inl (SqL.of upd_same))⟩) (fun z => ⟨a, _, rfl, z, hw, fun p hp => k _ p (Ex.new hp) hp (.inr (SqT.of upd_same))⟩)
/-- what _law_step_of answers -/
def SoR (K : PySem.W.Frag) (H : Hp) (L : Addr) : Option St5 → Prop
  | none => H L = some (.lst [])
  | some s => ∃ t, H L = some (.lst [.ref t]) ∧ Dp K H (.ref t) (stD s)
section
variable {P : Program} {w : World} {K : PySem.W.Frag} {mg : Str → Option Value} {base : Heap}
def spWhole (K : PySem.W.Frag) : Sp := fun vs H Q _ => ∃ (v : V) (d : PyData), vs = [v] ∧ Dp K H v d ∧ Q (.bl (isIntD d)) H
theorem scWhole : FnScope ["_law_thing"] ["_law_thing"] (defScope sIsWhole) := ⟨rfl, rfl, rfl, by decide +kernel, rfl, by decide +kernel, by decide +kernel⟩
theorem ok_whole {f : Addr} {fd : FuncData} (F : L2.Fun K "_law_is_whole" "_law_is_whole" sIsWhole f fd) (T : Bn mg) : FnOk P w K mg base CX0 1 f fd ["_law_thing"] (spWhole K) := by
  refine F.ok scWhole (fun vs H Q E h => ?_) (fun cdv A outer s H vs Q E hr h => ?_)
  · obtain ⟨v, d, rfl, _⟩ := h
    rfl
  · obtain ⟨v, d, rfl, hd, k⟩ := h
    refine ⟨_, pss_one (ps_ret (pe_and (pe_callB call_is1 (by rfl) T.isinstance boot_isinstance (pa_cons (pv 0) (pa_cons (pe_bltn (v := .ty "int") (by rfl) T.int boot_int rfl) pa_nil)))
      (pe_one (pe_not (pe_callB call_is1 (by rfl) T.isinstance boot_isinstance (pa_cons (pv 0) (pa_cons (pe_bltn (v := .ty "bool") (by rfl) T.bool boot_bool rfl) pa_nil))))))), ?_⟩
    refine ⟨_, rfl, v, _, _, .type "int", _, rfl, .ty _, ty_dp hd, kd_int d, _, rfl, ?_⟩
    by_cases hi : isIntD d = true
    · rw [hi] at k ⊢
      refine iteT ?_
      refine ⟨_, rfl, v, _, _, .type "bool", _, rfl, .ty _, ty_dp hd, kd_bool d, _, rfl, ?_⟩
      cases d <;> first | exact k | cases hi
    · have hf : isIntD d = false := by simpa using hi
      rw [hf] at k ⊢
      cases d with
      | bool b =>
        refine iteT ?_
        exact ⟨_, rfl, v, _, _, .type "bool", _, rfl, .ty _, ty_dp hd, kd_bool _, _, rfl, k⟩
      | int i => cases hf
      | _ => exact iteF k
def spStepOf (K : PySem.W.Frag) : Sp := fun vs H Q _ => ∃ (v : V) (d : PyData), vs = [v] ∧ Dp K H v d ∧ dOk d = true ∧ ∀ H' L, Ex H H' → H L = none → SoR K H' L (stepOf d) → Q (.ref L) H'
theorem scStepOf : FnScope ["_law_thing", "_law_numbers", "_law_number"] ["_law_thing"] (defScope sStepOf) := ⟨rfl, rfl, rfl, by decide +kernel, rfl, by decide +kernel, by decide +kernel⟩
theorem ok_stepOf {f : Addr} {fd : FuncData} (F : L2.Fun K "_law_step_of" "_law_step_of" sStepOf f fd) (T : Bn mg) (cW : C8.Cal P w K mg base 1 "_law_is_whole" (spWhole K) []) : FnOk P w K mg base CX0 2 f fd ["_law_thing"] (spStepOf K) := by
  refine F.ok scStepOf (fun vs H Q E h => ?_) (fun cdv A outer s H vs Q E hr h => ?_)
  · obtain ⟨v, d, rfl, _⟩ := h
    rfl
  · obtain ⟨v, d, rfl, hd, hok, k⟩ := h
    refine ⟨_, pss_cons (ps_if (PW.pt (pw_or (pt_not (pt_val (pe_callB call_isN (by rfl) T.isinstance boot_isinstance (pa_cons (pv 0) (pa_cons (pe_tup (pa_cons (pe_bltn (v := .ty "list") (by rfl) T.list boot_list rfl) (pa_cons (pe_bltn (v := .ty "tuple") (by rfl) T.tuple boot_tuple rfl) pa_nil))) pa_nil)))))
          (pw_or (pt_cmpR op_ne (pe_callB call_len_seq (by rfl) T.len PySem.boot_len (pa_cons (pv 0) pa_nil)) pe_int (nomark _))
          (pw_or1 (pt_not (pt_val (pe_callB call_isN (by rfl) T.isinstance boot_isinstance (pa_cons (pe_ix ix_seq (pv 0) pe_int (fun _ _ => rfl)) (pa_cons (pe_tup (pa_cons (pe_bltn (v := .ty "list") (by rfl) T.list boot_list rfl) (pa_cons (pe_bltn (v := .ty "tuple") (by rfl) T.tuple boot_tuple rfl) pa_nil))) pa_nil)))))))))
        (pss_one (ps_ret (pe_lst pa_nil))) pss_nil)
      (pss_cons (ps_set (i := 1) scStepOf.nd rfl (Or.inl rfl) (pe_op op_cat (pe_op op_cat (pe_callTy call_list_of (by rfl) T.list boot_list (pa_cons (pe_slice (SlR.or sl_list sl_tup) (pv 0) po_none (po_some pe_int)) pa_nil)) (pe_callTy call_list_of (by rfl) T.list boot_list (pa_cons (pe_ix ix_seq (pv 0) pe_int (fun _ _ => rfl)) pa_nil)))
          (pe_callTy call_list_of (by rfl) T.list boot_list (pa_cons (pe_slice (SlR.or sl_list sl_tup) (pv 0) (po_some pe_int) po_none) pa_nil))))
      (pss_cons (ps_if (PW.pt (pw_or (pt_cmpR op_ne (pe_callB call_len_seq (by rfl) T.len PySem.boot_len (pa_cons (pe_ix ix_seq (pv 0) pe_int (fun _ _ => rfl)) pa_nil)) pe_int (nomark _))
          (pw_or1 (pt_not (pt_val (pe_callB (cr_all (by rfl)) (by rfl) T.all boot_all (pa_cons (pe_lc (own := [("_law_number", 2)]) (g := gName 2) (tt := tYes) (by rfl) scStepOf.nd (pi_list (pv 1)) (blkOk_by (N := ["_law_thing", "_law_numbers", "_law_number"]) (sc := defScope sStepOf) (by decide +kernel))
              (fun _ _ _ _ _ => pg_name (i := 2) scStepOf.nd rfl (Or.inl rfl)) (fun _ _ _ _ _ => pts_nil) (fun _ _ _ _ _ => C8.pe_c cW hr (by decide) (by rfl) (pa_cons (pv 2) pa_nil))) pa_nil)))))))
        (pss_one (ps_ret (pe_lst pa_nil))) pss_nil)
      (pss_one (ps_ret (pe_lst (pa_cons (pe_tup (pa_cons (pe_ix ix_seq (pv 0) pe_int (fun _ _ => rfl)) (pa_cons (pe_ix ix_seq (pv 0) pe_int (fun _ _ => rfl)) (pa_cons (pe_callTy call_tuple_of (by rfl) T.tuple boot_tuple (pa_cons (pe_ix ix_seq (pv 0) pe_int (fun _ _ => rfl)) pa_nil)) (pa_cons (pe_ix ix_seq (pv 0) pe_int (fun _ _ => rfl)) (pa_cons (pe_ix ix_seq (pv 0) pe_int (fun _ _ => rfl)) pa_nil)))))) pa_nil)))))), ?_⟩
    have kn : stepOf d = none → ∀ G, Ex H G → ∀ L, G L = none → Q (.ref L) (upd G L (.lst [])) := fun e G eG L hL => k _ L (eG.trans (Ex.new hL)) (fresh_back eG hL) (by rw [e]; exact upd_same)
    refine ⟨_, rfl, by show 2 ≤ sizeLine; decide, fun p hp => ?_⟩
    have e1 := Ex.new (o := .tup [.ty "list", .ty "tuple"]) hp
    refine ⟨v, p, _, _, [.type "list", .type "tuple"], isListD d, rfl, upd_same, .cons (.ty _) (.cons (.ty _) .nil), ty_dp (dp_ex e1 _ _ hd), kd_seq d, _, rfl, ?_⟩
    generalize upd H p (.tup [.ty "list", .ty "tuple"]) = G1 at e1 ⊢
    by_cases hl : isListD d = true
    case neg =>
      have hf : isListD d = false := by simpa using hl
      rw [hf]
      refine iteT (iteT ⟨Nat.zero_le _, kn ?_ _ e1⟩)
      cases q : stepOf d with
      | none => rfl
      | some s =>
        obtain ⟨c, h1, _⟩ := so_inv q
        cases d <;> first | (cases h1; done) | (cases hf; done)
    rw [hl]
    refine iteF ?_
    obtain ⟨a, xs, ds, rfl, hX, hs⟩ := dp_seq hd hl
    have hlen := dpa_len hX
    have hit : itemsD d = ds := by
      rcases hs with ⟨rfl, _⟩ | ⟨rfl, _⟩ <;> rfl
    have hS : SqL K H a xs ∨ SqT K H a xs := hs.imp And.right And.right
    have at_ : ∀ {G : Hp}, Ex H G → (SqL K G a xs ∨ SqT K G a xs) := fun e => hS.imp (ex_l e) (ex_t e)
    refine ⟨_, rfl, a, xs, rfl, at_ e1, rfl, _, rfl, ?_⟩
    by_cases h5 : xs.length = 5
    case neg =>
      rw [decide_eq_false (fun z => h5 (by have := V.int.inj z; omega))]
      refine iteT (iteT ⟨Nat.zero_le _, kn ?_ _ e1⟩)
      cases q : stepOf d with
      | none => rfl
      | some s =>
        obtain ⟨c, h1, _⟩ := so_inv q
        rw [hit] at h1
        exact absurd (by rw [hlen, h1]; rfl) h5
    rw [decide_eq_true (show V.int (xs.length : Int) = V.int 5 by rw [h5]; rfl)]
    refine iteF ?_
    obtain ⟨x0, x1, x2, x3, x4, rfl⟩ := five_of h5
    obtain ⟨d0, d1, d2, d3, d4, rfl, hx0, hx1, hx2, hx3, hx4⟩ := dpa_five hX
    refine ⟨_, rfl, ix_at (j := 2) (at_ e1) rfl ?_⟩
    refine ⟨by show 2 ≤ sizeLine; decide, fun p2 hp2 => ?_⟩
    have e2 := e1.trans (Ex.new (o := .tup [.ty "list", .ty "tuple"]) hp2)
    refine ⟨x2, p2, _, _, [.type "list", .type "tuple"], isListD d2, rfl, upd_same, .cons (.ty _) (.cons (.ty _) .nil), ty_dp (dp_ex e2 _ _ hx2), kd_seq d2, _, rfl, ?_⟩
    generalize upd G1 p2 (.tup [.ty "list", .ty "tuple"]) = G2 at e2 ⊢
    have dk2 : dOk d2 = true := by
      have : dOkA [d0, d1, d2, d3, d4] = true := by
        have q : (decide (([d0, d1, d2, d3, d4] : List PyData).length ≤ 1000000) && dOkA [d0, d1, d2, d3, d4]) = true := by
          rcases hs with ⟨rfl, _⟩ | ⟨rfl, _⟩ <;> exact hok
        exact (Bool.and_eq_true_iff.mp q).2
      have z : (dOk d0 && (dOk d1 && (dOk d2 && (dOk d3 && (dOk d4 && true))))) = true := this
      simp only [Bool.and_eq_true] at z
      exact z.2.2.1
    by_cases hl2 : isListD d2 = true
    case neg =>
      have hf : isListD d2 = false := by simpa using hl2
      rw [hf]
      refine iteT ⟨Nat.zero_le _, kn (so_no hit fun f0 f1 hf' _ => ?_) _ e2⟩
      cases d2 <;> first | (cases hf'; done) | (cases hf; done)
    rw [hl2]
    refine iteF ?_
    obtain ⟨b, ys, es, rfl, hY, hs2⟩ := dp_seq hx2 hl2
    have hit2 : itemsD d2 = es := by
      rcases hs2 with ⟨rfl, _⟩ | ⟨rfl, _⟩ <;> rfl
    have hylen := dpa_len hY
    have hyz : ys.length ≤ 1000000 := by
      rw [hylen]
      rcases hs2 with ⟨rfl, _⟩ | ⟨rfl, _⟩ <;> exact of_decide_eq_true (Bool.and_eq_true_iff.mp dk2).1
    have hS2 : SqL K H b ys ∨ SqT K H b ys := hs2.imp And.right And.right
    have at2 : ∀ {G : Hp}, Ex H G → (SqL K G b ys ∨ SqT K G b ys) := fun e => hS2.imp (ex_l e) (ex_t e)
    -- the numbers
    refine ⟨_, rfl, 2, rfl, cut_sq (at_ e2) (ys := [x0, x1]) (cut_to _ 2) (by show ¬ (HT.sIx 5 0 none = 0 ∧ HT.sIx 5 5 (some 2) = 5); decide) (fun G3 q1 y3 _ h3 => ?_)⟩
    have e3 := e2.trans y3
    refine ⟨q1, _, rfl, h3, fun n1 hn1 => ?_⟩
    have y4 := Ex.new (o := .lst [x0, x1]) hn1
    have f4 : upd G3 n1 (.lst [x0, x1]) n1 = some (.lst [x0, x1]) := upd_same
    generalize upd G3 n1 (.lst [x0, x1]) = G4 at y4 f4 ⊢
    have e4 := e3.trans y4
    refine ⟨_, rfl, ix_at (j := 2) (at_ e4) rfl ⟨b, ys, rfl, at2 e4, fun n2 hn2 => ?_⟩⟩
    have y5 := Ex.new (o := .lst ys) hn2
    have f5 : upd G4 n2 (.lst ys) n2 = some (.lst ys) := upd_same
    generalize upd G4 n2 (.lst ys) = G5 at y5 f5 ⊢
    have e5 := e4.trans y5
    refine ⟨n1, n2, _, _, rfl, rfl, y5 _ _ f4, f5, sz2 (by show 2 + _ ≤ _; omega), fun n3 hn3 => ?_⟩
    have y6 := Ex.new (o := .lst ([x0, x1] ++ ys)) hn3
    have f6 : upd G5 n3 (.lst ([x0, x1] ++ ys)) n3 = some (.lst ([x0, x1] ++ ys)) := upd_same
    generalize upd G5 n3 (.lst ([x0, x1] ++ ys)) = G6 at y6 f6 ⊢
    have e6 := e5.trans y6
    refine ⟨_, rfl, 3, rfl, cut_sq (at_ e6) (ys := [x3, x4]) (cut_fr _ 3) (by show ¬ (HT.sIx 5 0 (some 3) = 0 ∧ HT.sIx 5 5 none = 5); decide) (fun G7 q2 y7 _ h7 => ?_)⟩
    have e7 := e6.trans y7
    refine ⟨q2, _, rfl, h7, fun n4 hn4 => ?_⟩
    have y8 := Ex.new (o := .lst [x3, x4]) hn4
    have f8 : upd G7 n4 (.lst [x3, x4]) n4 = some (.lst [x3, x4]) := upd_same
    generalize upd G7 n4 (.lst [x3, x4]) = G8 at y8 f8 ⊢
    have e8 := e7.trans y8
    refine ⟨n3, n4, _, _, rfl, rfl, (y7.trans y8) _ _ f6, f8, sz2 (by rw [List.length_append]; show 2 + _ + 2 ≤ _; omega), fun N hN => ?_⟩
    generalize hns : ([x0, x1] ++ ys) ++ [x3, x4] = ns
    have y9 := Ex.new (o := .lst ns) hN
    have f9 : upd G8 N (.lst ns) N = some (.lst ns) := upd_same
    generalize upd G8 N (.lst ns) = G9 at y9 f9 ⊢
    have e9 := e8.trans y9
    have hA : DpAll K H ns (([d0, d1] ++ es) ++ [d3, d4]) := by
      rw [← hns]
      exact dpa_app (dpa_app (.cons hx0 (.cons hx1 .nil)) hY) (.cons hx3 (.cons hx4 .nil))
    have hnl := dpa_len hA
    have hnz : ns.length ≤ 1000004 := by
      rw [← hns, List.length_append, List.length_append]
      show 2 + _ + 2 ≤ _
      omega
    refine ⟨_, rfl, ix_at (j := 2) (at_ e9) rfl ⟨b, ys, rfl, at2 e9, rfl, _, rfl, ?_⟩⟩
    by_cases h2 : ys.length = 2
    case neg =>
      rw [decide_eq_false (fun z => h2 (by have := V.int.inj z; omega))]
      refine iteT ⟨Nat.zero_le _, kn (so_no hit fun f0 f1 hf' _ => h2 ?_) _ e9⟩
      rw [hylen, ← hit2, hf']
      rfl
    rw [decide_eq_true (show V.int (ys.length : Int) = V.int 2 by rw [h2]; rfl)]
    refine iteF ?_
    refine ⟨_, rfl, N, rfl, ⟨_, SqL.of f9⟩, fun D hD => ?_⟩
    refine lc_list (xs := ns) (fun i G => Ex G9 G ∧ G D = some (.lst (((([d0, d1] ++ es) ++ [d3, d4]).take i |>.map isIntD).map V.bl))) ⟨Ex.new hD, upd_same⟩ (fun i G _ q => SqL.of (q.1 _ _ f9)) ?_ ?_
    · rintro i x G hx ⟨q1, q2⟩
      obtain ⟨di, hdi, hxd⟩ := dpa_get hA hx
      have il := (List.getElem?_eq_some_iff.mp hx).1
      refine ⟨rfl, _, rfl, x, di, rfl, dp_ex (e9.trans q1) _ _ hxd, _, q2, ?_, Ex.mut q1 hD, ?_⟩
      · rw [List.length_map, List.length_map, List.length_take]
        have : sizeLine = 16777216 := rfl
        omega
      · rw [upd_same, List.take_succ, hdi, List.map_append, List.map_append]
        rfl
    · rintro G ⟨q1, q2⟩
      rw [hnl, List.take_of_length_le (Nat.le_refl _)] at q2
      have e10 := e9.trans q1
      refine ⟨D, _, rfl, SqL.of q2, _, rfl, ?_⟩
      obtain ⟨y0, y1, rfl⟩ := two_ofl h2
      obtain ⟨c0, c1, rfl, hy0, hy1⟩ := dpa_two hY
      rw [show ∀ l : List PyData, (l.map isIntD).all id = l.all isIntD from fun l => by rw [List.all_map]; rfl]
      by_cases hall : ([d0, d1] ++ [c0, c1] ++ [d3, d4]).all isIntD = true
      case neg =>
        have hf : ([d0, d1] ++ [c0, c1] ++ [d3, d4]).all isIntD = false := by simpa using hall
        rw [hf]
        refine iteT ⟨Nat.zero_le _, kn (so_no hit fun f0 f1 hf' => ?_) _ e10⟩
        rw [hit2] at hf'
        cases hf'
        exact hall
      rw [hall]
      refine iteF ?_
      have hi : ∀ z ∈ [d0, d1] ++ [c0, c1] ++ [d3, d4], isIntD z = true := List.all_eq_true.mp hall
      obtain ⟨i0, rfl⟩ := int_of (hi d0 (by simp))
      obtain ⟨i1, rfl⟩ := int_of (hi d1 (by simp))
      obtain ⟨p, rfl⟩ := int_of (hi c0 (by simp))
      obtain ⟨q, rfl⟩ := int_of (hi c1 (by simp))
      obtain ⟨i3, rfl⟩ := int_of (hi d3 (by simp))
      obtain ⟨i4, rfl⟩ := int_of (hi d4 (by simp))
      have hso := so_at hit hit2
      cases hx0
      cases hx1
      cases hx3
      cases hx4
      cases hy0
      cases hy1
      refine ⟨_, rfl, ix_at (j := 0) (at_ e10) rfl ?_⟩
      refine ⟨_, rfl, ix_at (j := 1) (at_ e10) rfl ?_⟩
      refine ⟨_, rfl, ix_at (j := 2) (at_ e10) rfl ⟨b, [.int p, .int q], rfl, ?_⟩⟩
      have fin : ∀ (G' : Hp) (u : Addr), Ex H G' → SqT K G' u [.int p, .int q] → ∀ t, G' t = none → ∀ L, upd G' t (.tup [.int i0, .int i1, .ref u, .int i3, .int i4]) L = none →
          Q (.ref L) (upd (upd G' t (.tup [.int i0, .int i1, .ref u, .int i3, .int i4])) L (.lst [.ref t])) := fun G' u eG hu t ht L hL => by
        have eF := (Ex.new (o := .tup [.int i0, .int i1, .ref u, .int i3, .int i4]) ht).trans (Ex.new (o := .lst [.ref t]) hL)
        refine k _ L (eG.trans eF) (fresh_back (eG.trans (Ex.new ht)) hL) ?_
        rw [hso]
        exact ⟨t, upd_same, stD_mk (s := ⟨i0, i1, p, q, i3, i4⟩) (SqT.of (by rw [upd_ne (ne_of_none upd_same hL)]; exact upd_same)) (ex_t eF hu)⟩
      refine (at2 e10).imp (fun z => ⟨z, fun u hu => ?_⟩) (fun z => ⟨z, ?_⟩)
      · have eu := Ex.new (o := .tup [V.int p, V.int q]) hu
        refine ⟨_, rfl, ix_at (j := 3) (at_ (e10.trans eu)) rfl ?_⟩
        refine ⟨_, rfl, ix_at (j := 4) (at_ (e10.trans eu)) rfl ?_⟩
        exact ⟨by show 5 ≤ sizeLine; decide, fun t ht => ⟨by show 1 ≤ sizeLine; decide, fun L hL => fin _ u (e10.trans eu) (SqT.of upd_same) t ht L hL⟩⟩
      · refine ⟨_, rfl, ix_at (j := 3) (at_ e10) rfl ?_⟩
        refine ⟨_, rfl, ix_at (j := 4) (at_ e10) rfl ?_⟩
        exact ⟨by show 5 ≤ sizeLine; decide, fun t ht => ⟨by show 1 ≤ sizeLine; decide, fun L hL => fin _ b e10 z t ht L hL⟩⟩
end
end AA

set_option Elab.async false
set_option linter.all false
set_option maxRecDepth 100000
set_option maxHeartbeats 4000000
/-! _law_is_pass. -/
namespace AA
open PySem PySem.Spec PyProof.Rows L2 Evl
/-- where one comes to from a place by these things -/
def lGo (ss : List St5) : Int → List PyData → Option Int
  | a, [] => some a
  | a, d :: r => match stepOf d with
    | none => none
    | some s => if s ∈ ss ∧ s.one = a then lGo ss s.other r else none
def lawPass (ss : List St5) (a b : Int) (d : PyData) : Bool := (isListD d && !(itemsD d).isEmpty) && decide (lGo ss a (itemsD d) = some b)
theorem passB_snoc (acc : List St5) (s : St5) (a b : Int) (h : acc ≠ []) : passB (some (acc ++ [s])) a b = (decide ((acc ++ [s]).head?.map (·.one) = some a) && decide (s.other = b)) := by
  cases acc with
  | nil => exact absurd rfl h
  | cons x r =>
    show (match (x :: (r ++ [s])).head?, (x :: (r ++ [s])).getLast? with | some s, some t => decide (s.one = a) && decide (t.other = b) | _, _ => false) = _
    have : (x :: (r ++ [s])).getLast? = some s := by rw [← List.cons_append, List.getLast?_append]; rfl
    rw [this]
    show (decide (x.one = a) && decide (s.other = b)) = (decide (some x.one = some a) && decide (s.other = b))
    simp
/-- the program's look at a walk's rest is the law's -/
theorem walk_rest {n : Int} {ss : List St5} (hok : ∀ s ∈ ss, StOk n s) (a b : Int) : ∀ (ds : List PyData) (acc : List St5) (x t : St5), acc.head? = some x → acc.getLast? = some t →
    passB (rdWalk n ss ds acc) a b = (decide (x.one = a) && decide (lGo ss t.other ds = some b))
  | [], acc, x, t, h1, h2 => by
    show (match acc.head?, acc.getLast? with | some s, some t => decide (s.one = a) && decide (t.other = b) | _, _ => false) = (decide (x.one = a) && decide (some t.other = some b))
    rw [h1, h2]
    simp
  | d :: r, acc, x, t, h1, h2 => by
    unfold rdWalk lGo
    cases hs : stepOf d with
    | none =>
      rw [rd_no hs]
      show false = (decide (x.one = a) && decide ((none : Option Int) = some b))
      simp
    | some s =>
      rw [rd_so hs]
      show passB (match (if 0 ≤ s.one ∧ s.one < n ∧ 0 ≤ s.other ∧ s.other < n ∧ 1 ≤ s.ticks then some s else none) with | none => none | some s => if s ∈ ss then (match acc.getLast? with | none => rdWalk n ss r (acc ++ [s]) | some t => if t.other = s.one then rdWalk n ss r (acc ++ [s]) else none) else none) a b
        = (decide (x.one = a) && decide ((if s ∈ ss ∧ s.one = t.other then lGo ss s.other r else none) = some b))
      by_cases hm : s ∈ ss
      · have o := hok s hm
        rw [if_pos ⟨o.o0, o.o1, o.t0, o.t1, o.k⟩]
        show passB (if s ∈ ss then (match acc.getLast? with | none => rdWalk n ss r (acc ++ [s]) | some t => if t.other = s.one then rdWalk n ss r (acc ++ [s]) else none) else none) a b = _
        rw [if_pos hm, h2]
        show passB (if t.other = s.one then rdWalk n ss r (acc ++ [s]) else none) a b = _
        by_cases e : t.other = s.one
        · rw [if_pos e, if_pos ⟨hm, e.symm⟩]
          refine walk_rest hok a b r (acc ++ [s]) x s ?_ ?_
          · cases acc with
            | nil => cases h1
            | cons => exact h1
          · rw [List.getLast?_append]
            rfl
        · rw [if_neg e, if_neg (fun z => e z.2.symm)]
          show false = _
          simp
      · have hr : (if s ∈ ss ∧ s.one = t.other then lGo ss s.other r else none) = none := if_neg (fun z => hm z.1)
        rw [hr]
        by_cases q : 0 ≤ s.one ∧ s.one < n ∧ 0 ≤ s.other ∧ s.other < n ∧ 1 ≤ s.ticks
        · rw [if_pos q]
          show passB (if s ∈ ss then (match acc.getLast? with | none => rdWalk n ss r (acc ++ [s]) | some t => if t.other = s.one then rdWalk n ss r (acc ++ [s]) else none) else none) a b = _
          rw [if_neg hm]
          show false = _
          simp
        · rw [if_neg q]
          show false = _
          simp
/-- the program's look at a walk is the law's -/
theorem walk_same {n : Int} {ss : List St5} (hok : ∀ s ∈ ss, StOk n s) (a b : Int) (d : PyData) (hl : isListD d = true) : passB (rdWalk n ss (itemsD d) []) a b = lawPass ss a b d := by
  unfold lawPass
  rw [hl]
  cases hd : itemsD d with
  | nil => rfl
  | cons d0 r =>
    show passB (rdWalk n ss (d0 :: r) []) a b = decide (lGo ss a (d0 :: r) = some b)
    unfold rdWalk lGo
    cases hs : stepOf d0 with
    | none =>
      rw [rd_no hs]
      show false = decide ((none : Option Int) = some b)
      simp
    | some s =>
      rw [rd_so hs]
      show passB (match (if 0 ≤ s.one ∧ s.one < n ∧ 0 ≤ s.other ∧ s.other < n ∧ 1 ≤ s.ticks then some s else none) with | none => none | some s => if s ∈ ss then rdWalk n ss r ([] ++ [s]) else none) a b
        = decide ((if s ∈ ss ∧ s.one = a then lGo ss s.other r else none) = some b)
      by_cases hm : s ∈ ss
      · have o := hok s hm
        rw [if_pos ⟨o.o0, o.o1, o.t0, o.t1, o.k⟩]
        show passB (if s ∈ ss then rdWalk n ss r ([] ++ [s]) else none) a b = _
        rw [if_pos hm, walk_rest hok a b r ([] ++ [s]) s s rfl rfl]
        by_cases e : s.one = a
        · rw [if_pos ⟨hm, e⟩, decide_eq_true e, Bool.true_and]
        · rw [if_neg (fun z => e z.2), decide_eq_false e]
          simp
      · have hr : (if s ∈ ss ∧ s.one = a then lGo ss s.other r else none) = none := if_neg (fun z => hm z.1)
        rw [hr]
        by_cases q : 0 ≤ s.one ∧ s.one < n ∧ 0 ≤ s.other ∧ s.other < n ∧ 1 ≤ s.ticks
        · rw [if_pos q]
          show passB (if s ∈ ss then rdWalk n ss r ([] ++ [s]) else none) a b = _
          rw [if_neg hm]
          show false = _
          simp
        · rw [if_neg q]
          show false = _
          simp
section
variable {P : Program} {w : World} {K : PySem.W.Frag} {mg : Str → Option Value} {base : Heap}
def spLIsPass (K : PySem.W.Frag) : Sp := fun vs H Q _ => ∃ (g : Addr) (us : List V) (ss : List St5) (a b : Int) (v : V), vs = [.ref g, .int a, .int b, v] ∧ SqL K H g us ∧ DpAll K H us (ss.map stD) ∧
  ((Lk K H v false ∧ ∀ H', Ex H H' → Q (.bl false) H') ∨ ∃ d, Dp K H v d ∧ dOk d = true ∧ ∀ H', Ex H H' → Q (.bl (lawPass ss a b d)) H')
abbrev nmLIs : List Str := ["_law_steps", "_law_begin", "_law_end", "_law_thing", "_law_here", "_law_part_here", "_law_step_here"]
theorem scLIs : FnScope nmLIs ["_law_steps", "_law_begin", "_law_end", "_law_thing"] (defScope sLIsPass) := ⟨rfl, rfl, rfl, by decide +kernel, rfl, by decide +kernel, by decide +kernel⟩
theorem dok_items {d : PyData} (h : dOk d = true) (l : isListD d = true) : (itemsD d).length ≤ 1000000 ∧ dOkA (itemsD d) = true := by
  cases d with
  | list xs =>
    have h : (decide (xs.length ≤ 1000000) && dOkA xs) = true := h
    rw [Bool.and_eq_true] at h
    exact ⟨of_decide_eq_true h.1, h.2⟩
  | tuple xs =>
    have h : (decide (xs.length ≤ 1000000) && dOkA xs) = true := h
    rw [Bool.and_eq_true] at h
    exact ⟨of_decide_eq_true h.1, h.2⟩
  | _ => cases l
theorem doka_get : ∀ {ds : List PyData} {i : Nat} {d : PyData}, dOkA ds = true → ds[i]? = some d → dOk d = true
  | [], _, _, _, e => by simp at e
  | x :: xs, 0, d, h, e => by
    cases (Option.some.inj e)
    exact (Bool.and_eq_true_iff.mp (show (dOk x && dOkA xs) = true from h)).1
  | x :: xs, i + 1, d, h, e => doka_get (i := i) (Bool.and_eq_true_iff.mp (show (dOk x && dOkA xs) = true from h)).2 e
theorem ok_lisPass {f : Addr} {fd : FuncData} (F : L2.Fun K "_law_is_pass" "_law_is_pass" sLIsPass f fd) (T : Bn mg) (cS : C8.Cal P w K mg base 2 "_law_step_of" (spStepOf K) []) : FnOk P w K mg base CX0 3 f fd ["_law_steps", "_law_begin", "_law_end", "_law_thing"] (spLIsPass K) := by
  refine F.ok scLIs (fun vs H Q E h => ?_) (fun cdv A outer s H vs Q E hr h => ?_)
  · obtain ⟨g, us, ss, a, b, v, rfl, _⟩ := h
    rfl
  · obtain ⟨g, us, ss, a, b, v, rfl, hg, hD, h⟩ := h
    refine ⟨_, pss_cons (ps_if (PW.pt (pw_or (pt_not (pt_val (pe_callB call_isN (by rfl) T.isinstance boot_isinstance (pa_cons (pv 3) (pa_cons (pe_tup (pa_cons (pe_bltn (v := .ty "list") (by rfl) T.list boot_list rfl) (pa_cons (pe_bltn (v := .ty "tuple") (by rfl) T.tuple boot_tuple rfl) pa_nil))) pa_nil)))))
          (pw_or1 (pt_cmpR op_eq (pe_callB call_len_seq (by rfl) T.len PySem.boot_len (pa_cons (pv 3) pa_nil)) pe_int (nomark _)))))
        (pss_one (ps_ret pe_bl)) pss_nil)
      (pss_cons (ps_set (i := 4) scLIs.nd rfl (Or.inl rfl) (pv 1))
      (pss_cons (ps_for PassesOwn.never rfl (pi_or (pi_list (pv 3)) (pi_tup (pv 3))) (pg_name (i := 5) scLIs.nd rfl (Or.inl rfl))
        (pss_cons (ps_set (i := 6) scLIs.nd rfl (Or.inl rfl) (C8.pe_c cS hr (by decide) (by rfl) (pa_cons (pv 5) pa_nil)))
        (pss_cons (ps_if (PW.pt (pw_or (pt_cmpR (op_eqD hr.units) (pv 6) (pe_lst pa_nil) (nomark _)) (pw_or (pt_cmpR (op_notInD (Room.u65 hr)) (pe_ix ix_list (pv 6) pe_int (fun _ _ => rfl)) (pv 0) (by rfl)) (pw_or1 (pt_cmpR op_ne (pe_ix ix_tup (pe_ix ix_list (pv 6) pe_int (fun _ _ => rfl)) pe_int (fun _ _ => rfl)) (pv 4) (nomark _))))))
          (pss_one (ps_ret pe_bl)) pss_nil)
        (pss_one (ps_set (i := 4) scLIs.nd rfl (Or.inl rfl) (pe_ix ix_tup (pe_ix ix_list (pv 6) pe_int (fun _ _ => rfl)) pe_int (fun _ _ => rfl)))))))
      (pss_one (ps_ret (pe_cmpR op_eq (pv 4) (pv 2) (nomark _)))))), ?_⟩
    refine ⟨_, rfl, by show 2 ≤ sizeLine; decide, fun p hp => ?_⟩
    have e1 := Ex.new (o := .tup [.ty "list", .ty "tuple"]) hp
    rcases h with ⟨⟨t, hty, hk⟩, k⟩ | ⟨d, hd, hok, k⟩
    · refine ⟨v, p, _, t, [.type "list", .type "tuple"], false, rfl, upd_same, .cons (.ty _) (.cons (.ty _) .nil), hty _ (nt_le.trans e1), hk, _, rfl, ?_⟩
      exact iteT (iteT (k _ e1))
    refine ⟨v, p, _, _, [.type "list", .type "tuple"], isListD d, rfl, upd_same, .cons (.ty _) (.cons (.ty _) .nil), ty_dp (dp_ex e1 _ _ hd), kd_seq d, _, rfl, ?_⟩
    generalize upd H p (.tup [.ty "list", .ty "tuple"]) = G1 at e1 ⊢
    by_cases hl : isListD d = true
    case neg =>
      have hf : isListD d = false := by simpa using hl
      have hb : lawPass ss a b d = false := by
        unfold lawPass
        rw [hf]
        rfl
      rw [hb] at k
      rw [hf]
      exact iteT (iteT (k _ e1))
    rw [hl]
    refine iteF ?_
    obtain ⟨c, xs, ds, rfl, hX, hs⟩ := dp_seq hd hl
    have hlen := dpa_len hX
    have hit : itemsD d = ds := by
      rcases hs with ⟨rfl, _⟩ | ⟨rfl, _⟩ <;> rfl
    obtain ⟨hz, hokA⟩ := dok_items hok hl
    have hkb : lawPass ss a b d = (!ds.isEmpty && decide (lGo ss a ds = some b)) := by
      unfold lawPass
      rw [hl, hit]
      rfl
    rw [hit] at hz hokA
    rw [hkb] at k
    have hS : SqL K H c xs ∨ SqT K H c xs := hs.imp And.right And.right
    refine ⟨_, rfl, c, xs, rfl, hS.imp (ex_l e1) (ex_t e1), rfl, _, rfl, ?_⟩
    by_cases h0 : xs.length = 0
    · rw [decide_eq_true (show V.int (xs.length : Int) = V.int 0 by rw [h0]; rfl)]
      have : ds = [] := List.eq_nil_of_length_eq_zero (by omega)
      subst this
      exact iteT (k _ e1)
    rw [decide_eq_false (fun z => h0 (by have := V.int.inj z; omega))]
    have hne : ds.isEmpty = false := by
      cases ds with
      | nil => exact absurd hlen h0
      | cons => rfl
    rw [hne] at k
    have k : ∀ H', Ex H H' → Q (.bl (decide (lGo ss a ds = some b))) H' := k
    refine iteF ?_
    refine ⟨_, rfl, ?_⟩
    have kn : ∀ {G : Hp}, Ex H G → lGo ss a ds = none → Q (.bl false) G := fun e z => by
      have := k _ e
      rw [z] at this
      exact this
    refine Or.imp (fun z => ⟨_, rfl, c, rfl, z.1, z.2⟩) (fun z => ⟨_, rfl, c, rfl, z.1, z.2⟩) (for_seqA (K := K) (a := c) (xs := xs) (H0 := H) hS
      (fun i σ G => ∃ (h0 : Int) (x5 x6 : Option V), σ = [some (.ref g), some (.int a), some (.int b), some (.ref c), some (.int h0), x5, x6] ∧ Ex H G ∧ lGo ss a ds = lGo ss h0 (ds.drop i)) ?_ ?_ ?_ ?_)
    · exact ⟨a, none, none, rfl, e1, by rw [List.drop_zero]⟩
    · rintro i σ G ⟨h0, x5, x6, rfl, q1, _⟩
      exact q1
    · rintro i x σ G hx ⟨h0, x5, x6, rfl, q1, q2⟩
      obtain ⟨di, hdi, hxd⟩ := dpa_get hX hx
      rw [drop_get hdi] at q2
      have q2 : lGo ss a ds = (match stepOf di with | none => none | some s => if s ∈ ss ∧ s.one = h0 then lGo ss s.other (ds.drop (i + 1)) else none) := q2
      refine ⟨_, rfl, x, di, rfl, dp_ex q1 _ _ hxd, doka_get hokA hdi, fun G2 L e2 hL0 hso => ?_⟩
      have e02 := q1.trans e2
      cases hst : stepOf di with
      | none =>
        rw [hst] at hso q2
        have hso : G2 L = some (.lst []) := hso
        refine ⟨_, rfl, Nat.zero_le _, fun l2 hl2 => ?_⟩
        have e3 := Ex.new (o := .lst []) hl2
        refine ⟨.list [], .list [], .lst (SqL.of (e3 _ _ hso)) .nil, .lst (SqL.of upd_same) .nil, rfl, rfl, _, rfl, ?_⟩
        exact iteT (iteT (kn (e02.trans e3) q2))
      | some s =>
        rw [hst] at hso q2
        obtain ⟨t, hL, ht⟩ := hso
        refine ⟨_, rfl, Nat.zero_le _, fun l2 hl2 => ?_⟩
        have e3 := Ex.new (o := .lst []) hl2
        refine ⟨.list [stD s], .list [], .lst (SqL.of (e3 _ _ hL)) (.cons (dp_ex e3 _ _ ht) .nil), .lst (SqL.of upd_same) .nil, stDs_shaped [s], rfl, _, rfl, ?_⟩
        refine iteF ?_
        have hL3 := e3 _ _ hL
        have ht3 := dp_ex e3 _ _ ht
        have e03 := e02.trans e3
        generalize upd G2 l2 (.lst []) = G3 at hL3 ht3 e03 ⊢
        refine ⟨_, rfl, L, _, 0, _, rfl, rfl, SqL.of hL3, rfl, _, rfl, stD s, ss.map stD, ht3, .lst (ex_l e03 hg) (dpa_ex e03 _ _ hD), stD_shaped s, stDs_shaped ss, _, rfl, ?_⟩
        rw [any_eqv]
        by_cases hm : s ∈ ss
        · rw [decide_eq_true hm]
          refine iteF ?_
          obtain ⟨t', u, et, p1, p2⟩ := stD_inv ht3
          cases et
          refine ⟨_, rfl, L, _, 0, _, rfl, rfl, SqL.of hL3, rfl, t, _, 0, .int s.one, rfl, rfl, p1, rfl, _, rfl, rfl, _, rfl, ?_⟩
          rw [dec_int]
          by_cases e : s.one = h0
          · rw [decide_eq_true e]
            refine iteF ?_
            refine ⟨_, rfl, L, _, 0, _, rfl, rfl, SqL.of hL3, rfl, t, _, 1, .int s.other, rfl, rfl, p1, rfl, ?_⟩
            refine ⟨s.other, _, _, rfl, e03, ?_⟩
            rw [q2]
            exact if_pos ⟨hm, e⟩
          · rw [decide_eq_false e]
            exact iteT (kn e03 (q2.trans (if_neg fun z => e z.2)))
        · rw [decide_eq_false hm]
          exact iteT (iteT (kn e03 (q2.trans (if_neg fun z => hm z.1))))
    · rintro σ G ⟨h0, x5, x6, rfl, q1, q2⟩
      rw [hlen, List.drop_length] at q2
      have q2 : lGo ss a ds = some h0 := q2
      refine ⟨_, rfl, _, rfl, rfl, ?_⟩
      have kf := k G q1
      rw [q2] at kf
      rw [dec_int]
      have : decide (some h0 = some b) = decide (h0 = b) := by simp
      rw [this] at kf
      exact kf
end
end AA

set_option Elab.async false
set_option linter.all false
set_option maxRecDepth 100000
set_option maxHeartbeats 4000000
/-! _law_loose of anything. -/
namespace AA
open PySem PySem.Spec PyProof.Rows L2 Evl
mutual
inductive Lz : PyData → PyData → Prop
  | leaf (d : PyData) (h : isListD d = false) : Lz d d
  | ll {xs ys : List PyData} : LzA xs ys → Lz (.list xs) (.list ys)
  | lt {xs ys : List PyData} : LzA xs ys → Lz (.list xs) (.tuple ys)
  | tl {xs ys : List PyData} : LzA xs ys → Lz (.tuple xs) (.list ys)
  | tt {xs ys : List PyData} : LzA xs ys → Lz (.tuple xs) (.tuple ys)
inductive LzA : List PyData → List PyData → Prop
  | nil : LzA [] []
  | cons {x y : PyData} {xs ys : List PyData} : Lz x y → LzA xs ys → LzA (x :: xs) (y :: ys)
end
theorem LzA.app : ∀ {xs ys us vs : List PyData}, LzA xs ys → LzA us vs → LzA (xs ++ us) (ys ++ vs)
  | [], _, _, _, h, k => by
    cases h
    exact k
  | x :: xs, _, _, _, h, k => by
    cases h with
    | cons h1 h2 => exact .cons h1 (LzA.app h2 k)
theorem LzA.len : ∀ {xs ys : List PyData}, LzA xs ys → xs.length = ys.length
  | [], _, h => by
    cases h
    rfl
  | x :: xs, _, h => by
    cases h with
    | cons h1 h2 => rw [List.length_cons, List.length_cons, LzA.len h2]
mutual
theorem Lz.symm : ∀ {x y : PyData}, Lz x y → Lz y x
  | _, _, .leaf d h => .leaf d h
  | _, _, .ll h => .ll (LzA.symm h)
  | _, _, .lt h => .tl (LzA.symm h)
  | _, _, .tl h => .lt (LzA.symm h)
  | _, _, .tt h => .tt (LzA.symm h)
theorem LzA.symm : ∀ {xs ys : List PyData}, LzA xs ys → LzA ys xs
  | _, _, .nil => .nil
  | _, _, .cons h t => .cons (Lz.symm h) (LzA.symm t)
end
theorem lz_items {x y : PyData} (h : Lz x y) : isListD y = isListD x ∧ (x = y ∨ LzA (itemsD x) (itemsD y)) := by
  cases h with
  | leaf d h => exact ⟨rfl, .inl rfl⟩
  | ll h => exact ⟨rfl, .inr h⟩
  | lt h => exact ⟨rfl, .inr h⟩
  | tl h => exact ⟨rfl, .inr h⟩
  | tt h => exact ⟨rfl, .inr h⟩
theorem lz_int {i : Int} {y : PyData} (h : Lz (.int i) y) : y = .int i := by
  cases h with
  | leaf => rfl
theorem lz_so1 {x y : PyData} {s : St5} (h : Lz x y) (e : stepOf x = some s) : stepOf y = some s := by
  obtain ⟨c, h1, h2⟩ := so_inv e
  rcases (lz_items h).2 with rfl | hA
  · exact e
  · rw [h1] at hA
    generalize hy : itemsD y = ys at hA
    cases hA with
    | cons a1 hA =>
      cases hA with
      | cons a2 hA =>
        cases hA with
        | cons a3 hA =>
          cases hA with
          | cons a4 hA =>
            cases hA with
            | cons a5 hA =>
              cases hA
              rw [lz_int a1, lz_int a2, lz_int a4, lz_int a5] at hy
              rcases (lz_items a3).2 with rfl | hB
              · exact so_at hy h2
              · rw [h2] at hB
                generalize hz : itemsD _ = zs at hB
                cases hB with
                | cons b1 hB =>
                  cases hB with
                  | cons b2 hB =>
                    cases hB
                    rw [lz_int b1, lz_int b2] at hz
                    exact so_at hy hz
theorem lz_so {x y : PyData} (h : Lz x y) : stepOf y = stepOf x := by
  cases q : stepOf x with
  | some s => exact lz_so1 h q
  | none =>
    cases q2 : stepOf y with
    | none => rfl
    | some s =>
      rw [lz_so1 h.symm q2] at q
      cases q
theorem lz_go (ss : List St5) : ∀ (xs ys : List PyData) (a : Int), LzA xs ys → lGo ss a ys = lGo ss a xs
  | [], _, a, h => by
    cases h
    rfl
  | x :: xs, _, a, h => by
    cases h with
    | @cons _ y _ ys h1 h2 =>
      unfold lGo
      rw [lz_so h1]
      cases stepOf x with
      | none => rfl
      | some s =>
        show (if s ∈ ss ∧ s.one = a then lGo ss s.other ys else none) = (if s ∈ ss ∧ s.one = a then lGo ss s.other xs else none)
        rw [lz_go ss xs ys s.other h2]
theorem lz_pass {x y : PyData} (ss : List St5) (a b : Int) (h : Lz x y) : lawPass ss a b y = lawPass ss a b x := by
  unfold lawPass
  rw [(lz_items h).1]
  rcases (lz_items h).2 with rfl | hA
  · rfl
  · rw [lz_go ss _ _ a hA]
    have := hA.len
    congr 2
    cases h1 : itemsD x <;> cases h2 : itemsD y <;> rw [h1, h2] at this <;> first | rfl | cases this
section
variable {P : Program} {w : World} {K : PySem.W.Frag} {mg : Str → Option Value} {base : Heap}
/-! ### _law_loose -/
def spLooseB (K : PySem.W.Frag) (D : Nat) : Sp := fun vs H Q _ => ∃ (a b : Addr) (n : Nat) (v : V), vs = [.ref a, v] ∧ SAt H a b n ∧ ((0 < D ∧ Lk K (hid a b H) v false ∧ ∀ H', ExS a b H H' → SAt H' a b n → Q v H') ∨ ∃ d, Dp K (hid a b H) v d ∧ d.depth < D ∧ n + cnt d < 900000000 ∧ cnt d < 1000000 ∧
  ∀ (H' : Hp) (v' : V) (d' : PyData), ExS a b H H' → SAt H' a b (n + cnt d) → Dp K (nw H H') v' d' → Lz d d' → Q v' H')
theorem scLooseB : FnScope ["_law_stream_here", "_law_thing", "_law_some", "_law_one"] ["_law_stream_here", "_law_thing"] (defScope sLoose) := ⟨rfl, rfl, rfl, by decide +kernel, rfl, by decide +kernel, by decide +kernel⟩
theorem ok_looseB {f : Addr} {fd : FuncData} (F : L2.Fun K "_law_loose" "_law_loose" sLoose f fd) (T : Bn mg) (hm : mg "_law_loose" = some (.ref f)) (bL : Binds K fd ["_law_stream_here", "_law_thing"] []) (cD : C8.Cal P w K mg base 1 "_law_draw" spDraw []) :
    ∀ D : Nat, FnOk P w K mg base CX0 (D + 2) f fd ["_law_stream_here", "_law_thing"] (spLooseB K D)
  | 0 => ⟨fun vs H Q E h => by
      obtain ⟨a, b, n, v, rfl, _⟩ := h
      rfl, fun A outer s H args us vs Q E _ _ _ _ h => by
      obtain ⟨a, b, n, v, _, _, ⟨h, _⟩ | ⟨d, _, h, _⟩⟩ := h
      · exact absurd h (Nat.not_lt_zero _)
      · exact absurd h (Nat.not_lt_zero _)⟩
  | D + 1 => by
    have cL : C8.Cal P w K mg base (D + 2) "_law_loose" (spLooseB K D) [] := cal_of F hm bL (ok_looseB F T hm bL cD D)
    refine F.ok scLooseB (fun vs H Q E h => ?_) (fun cdv A outer s H vs Q E hr h => ?_)
    · obtain ⟨a, b, n, v, rfl, _⟩ := h
      rfl
    · obtain ⟨a, b, n, v, rfl, hS, h⟩ := h
      refine ⟨_, pss_cons (ps_if (pt_val (pe_callB call_isN (by rfl) T.isinstance boot_isinstance (pa_cons (pv 1) (pa_cons (pe_tup (pa_cons (pe_bltn (v := .ty "list") (by rfl) T.list boot_list rfl) (pa_cons (pe_bltn (v := .ty "tuple") (by rfl) T.tuple boot_tuple rfl) pa_nil))) pa_nil))))
          (pss_cons (ps_setLc (i := 2) (own := [("_law_one", 3)]) (g := gName 3) (tt := tYes) (by rfl) scLooseB.nd rfl rfl (sw_true rfl rfl rfl (by decide +kernel)) (pi_or (pi_list (pv 1)) (pi_tup (pv 1))) (blkOk_by (N := ["_law_stream_here", "_law_thing", "_law_some", "_law_one"]) (sc := defScope sLoose) (by decide +kernel))
              (fun _ _ _ _ _ => pg_name (i := 3) scLooseB.nd rfl (Or.inl rfl)) (fun _ _ _ _ _ => pts_nil) (fun _ _ _ _ _ => C8.pe_c cL hr (by omega) (by rfl) (pa_cons (pv 0) (pa_cons (pv 3) pa_nil))))
            (pss_one (ps_ret (pe_ifExp (pt_cmpR op_eq (C8.pe_c cD hr (by omega) (by rfl) (pa_cons (pv 0) (pa_cons pe_int pa_nil))) pe_int (nomark _)) (pv 2) (pe_callTy call_tuple_of (by rfl) T.tuple boot_tuple (pa_cons (pv 2) pa_nil)))))) pss_nil)
        (pss_one (ps_ret (pv 1))), ?_⟩
      refine ⟨_, rfl, by show 2 ≤ sizeLine; decide, fun p hp => ?_⟩
      have pa := hS.nea hp
      have pb := hS.neb hp
      have e1 : ExS a b H (upd H p (.tup [.ty "list", .ty "tuple"])) := ExS.new ExS.rfl hp
      have s1 := hS.ex (Ex.new (o := .tup [.ty "list", .ty "tuple"]) hp)
      rcases h with ⟨_, ⟨t, hty, hk⟩, k⟩ | ⟨d, hd, hdp, hn, hc, k⟩
      · refine ⟨v, p, _, t, [.type "list", .type "tuple"], false, rfl, upd_same, .cons (.ty _) (.cons (.ty _) .nil), hty _ (nt_le.trans (Ex.trans e1 hid_ex)), hk, false, rfl, ?_⟩
        refine iteF ?_
        exact ⟨_, rfl, k _ e1 s1⟩
      -- the items, whatever they stand in
      have turn : ∀ (c : Addr) (xs : List V) (ds : List PyData) (L : Addr), DpAll K (hid a b H) xs ds → PyData.depthAll ds < D → n + cntA ds + 1 < 900000000 → cntA ds < 1000000 → H L = none →
          ∀ (i : Nat) (x : V) (H1 : Hp), xs[i]? = some x →
            (∃ (ys : List V) (es : List PyData), ExS a b H H1 ∧ SAt H1 a b (n + cntA (ds.take i)) ∧ H1 L = some (.lst ys) ∧ DpAll K (hid L L (nw H H1)) ys es ∧ LzA (ds.take i) es ∧ ys.length = i) →
            spLooseB K D [.ref a, x] H1 (fun y H4 => ∃ acc, H4 L = some (.lst acc) ∧ acc.length < sizeLine ∧
              ∃ (ys : List V) (es : List PyData), ExS a b H (upd H4 L (.lst (acc ++ [y]))) ∧ SAt (upd H4 L (.lst (acc ++ [y]))) a b (n + cntA (ds.take (i + 1))) ∧ upd H4 L (.lst (acc ++ [y])) L = some (.lst ys) ∧
                DpAll K (hid L L (nw H (upd H4 L (.lst (acc ++ [y]))))) ys es ∧ LzA (ds.take (i + 1)) es ∧ ys.length = i + 1) E := by
        rintro c xs ds L hD hdep hn hc hL i x H1 hi ⟨ys, es, hE, hS1, hL1, hY, hLs, hyl⟩
        obtain ⟨di, hdi, hx⟩ := dpa_get hD hi
        have h1 := cntA_take_le ds (i + 1)
        rw [cntA_get hdi] at h1
        have hlen := cntA_len ds
        have hil : i < ds.length := (List.getElem?_eq_some_iff.mp hdi).1
        have la := hS.nea hL
        have lb := hS.neb hL
        refine ⟨a, b, n + cntA (ds.take i), x, rfl, hS1, .inr ⟨di, dp_ex hE _ _ hx, Nat.lt_of_le_of_lt (depthA_get hdi) hdep, by omega, by omega, fun H2 v' d' e2 s2 hv' hls => ?_⟩⟩
        have hL2 : H2 L = some (.lst ys) := e2.at hL1 la lb
        have ups : Ex (hid L L (nw H H2)) (hid L L (nw H (upd H2 L (.lst (ys ++ [v']))))) := fun z o hz => by
          obtain ⟨z1, z2, _⟩ := hid_some hz
          obtain ⟨z3, z4⟩ := nw_some z1
          rw [hid_ne z2 z2]
          exact nw_of z3 (by rw [upd_ne z2]; exact z4)
        refine ⟨ys, hL2, by rw [hyl]; exact sz_m (by omega), ys ++ [v'], es ++ [d'], ExS.own (hE.trans e2) hL la lb, ?_, upd_same, ?_, ?_, by rw [List.length_append, hyl]; rfl⟩
        · rw [cntA_get hdi, ← Nat.add_assoc]
          exact s2.upd la lb
        · refine dpa_app (dpa_ex ((hid_mono (nw_step hS e2)).trans ups) _ _ hY) (.cons (dp_ex (Ex.trans (fun z o hz => ?_) ups) _ _ hv') .nil)
          obtain ⟨z1, z2⟩ := nw_some hz
          have zL : z ≠ L := fun q => by
            rw [q, hL1] at z1
            cases z1
          rw [hid_ne zL zL]
          exact nw_of (hE.back hS1 z1) z2
        · rw [List.take_add_one, hdi]
          exact LzA.app hLs (.cons hls .nil)
      -- behind the comprehension: what is handed back
      have fin1 : ∀ (ds : List PyData) (L : Addr) (ys : List V) (es : List PyData) (H1 H2 : Hp), H L = none → ExS a b H H1 → SAt H1 a b (n + cntA ds) → H1 L = some (.lst ys) → DpAll K (hid L L (nw H H1)) ys es → (Lz d (.list es) ∧ Lz d (.tuple es)) → cnt d = cntA ds + 1 →
          ExS a b H1 H2 → SAt H2 a b (n + cntA ds + 1) → Q (.ref L) H2 ∧ SqL K H2 L ys ∧ ∀ u, H2 u = none → Q (.ref u) (upd H2 u (.tup ys)) := by
        intro ds L ys es H1 H2 hL hE hS1 hL1 hY hls hcd e2 s2
        have la := hS.nea hL
        have lb := hS.neb hL
        have hL2 : H2 L = some (.lst ys) := e2.at hL1 la lb
        have hY2 := dpa_ex ((hid_mono (nw_step hS e2)).trans hid_ex) _ _ hY
        refine ⟨k H2 (.ref L) (.list es) (hE.trans e2) (s2.mono (by omega)) (.lst (SqL.of (nw_of hL hL2)) hY2) hls.1, SqL.of hL2, fun u hu => ?_⟩
        have hu0 : H u = none := ExS.back (hE.trans e2) s2 hu
        refine k _ (.ref u) (.tuple es) (ExS.new (hE.trans e2) hu) ((s2.ex (Ex.new hu)).mono (by omega)) (.tup (SqT.of (nw_of hu0 upd_same)) (dpa_ex (fun z o hz => ?_) _ _ hY2)) hls.2
        obtain ⟨z1, z2⟩ := nw_some hz
        exact nw_of z1 (Ex.new hu z o z2)
      rcases d with _ | b0 | i0 | x0 | ds | ds | kvs
      · cases hd
        refine ⟨.non, p, _, _, [.type "list", .type "tuple"], false, rfl, upd_same, .cons (.ty _) (.cons (.ty _) .nil), ty_dp (d := .none) (.non), kd_seq (.none), false, rfl, ?_⟩
        refine iteF ?_
        refine ⟨_, rfl, k _ (.non) (.none) e1 (s1.mono (by omega)) (.non) (.leaf _ rfl)⟩
      · cases hd
        refine ⟨.bl b0, p, _, _, [.type "list", .type "tuple"], false, rfl, upd_same, .cons (.ty _) (.cons (.ty _) .nil), ty_dp (d := .bool b0) (.bl b0), kd_seq (.bool b0), false, rfl, ?_⟩
        refine iteF ?_
        refine ⟨_, rfl, k _ (.bl b0) (.bool b0) e1 (s1.mono (by omega)) (.bl b0) (.leaf _ rfl)⟩
      · cases hd
        refine ⟨.int i0, p, _, _, [.type "list", .type "tuple"], false, rfl, upd_same, .cons (.ty _) (.cons (.ty _) .nil), ty_dp (d := .int i0) (.int i0), kd_seq (.int i0), false, rfl, ?_⟩
        refine iteF ?_
        refine ⟨_, rfl, k _ (.int i0) (.int i0) e1 (s1.mono (by omega)) (.int i0) (.leaf _ rfl)⟩
      · cases hd
        refine ⟨.str x0, p, _, _, [.type "list", .type "tuple"], false, rfl, upd_same, .cons (.ty _) (.cons (.ty _) .nil), ty_dp (d := .str x0) (.str x0), kd_seq (.str x0), false, rfl, ?_⟩
        refine iteF ?_
        refine ⟨_, rfl, k _ (.str x0) (.str x0) e1 (s1.mono (by omega)) (.str x0) (.leaf _ rfl)⟩
      · cases hd with
        | lst hx hD =>
          rename_i c xs
          have hdep : PyData.depthAll ds < D := Nat.lt_of_succ_lt_succ hdp
          have hcn : cnt (.list ds) = cntA ds + 1 := rfl
          rw [hcn] at hn hc
          have hxl := dpa_len hD
          refine ⟨_, p, _, _, [.type "list", .type "tuple"], true, rfl, upd_same, .cons (.ty _) (.cons (.ty _) .nil), Or.inl (ty_l (ex_l (e1.trans hid_ex) hx)), seq_yes_l, true, rfl, ?_⟩
          refine iteT ?_
          refine Or.inl ⟨_, rfl, c, rfl, ⟨xs, ex_l (e1.trans hid_ex) hx⟩, fun L hL => ?_⟩
          have hL0 : H L = none := fresh_back (Ex.new hp) hL
          have la := hS.nea hL0
          have lb := hS.neb hL0
          refine lc_list (xs := xs) (fun i H1 => ∃ (ys : List V) (es : List PyData), ExS a b H H1 ∧ SAt H1 a b (n + cntA (ds.take i)) ∧ H1 L = some (.lst ys) ∧ DpAll K (hid L L (nw H H1)) ys es ∧ LzA (ds.take i) es ∧ ys.length = i) ?_ ?_ ?_ ?_
          · exact ⟨[], [], ExS.own e1 hL0 la lb, s1.upd la lb, upd_same, .nil, .nil, rfl⟩
          · rintro i H1 _ ⟨ys, es, q⟩
            exact ex_l (q.1.trans hid_ex) hx
          · rintro i x H1 hxi q
            refine ⟨rfl, ?_⟩
            exact ⟨_, rfl, _, rfl, turn c xs ds L hD hdep (by omega) (by omega) hL0 i x H1 hxi q⟩
          · rintro H1 ⟨ys, es, hE, hS1, hL1, hY, hls, hyl⟩
            rw [hxl, List.take_of_length_le (Nat.le_refl _)] at hls hS1
            refine ⟨_, rfl, a, b, n + cntA ds, 2, rfl, hS1, by omega, by decide, by decide, fun H2 x e2 s2 x0 x1 => ⟨rfl, _, rfl, ?_⟩⟩
            obtain ⟨f1, f2, f3⟩ := fin1 ds L ys es H1 H2 hL0 hE hS1 hL1 hY ⟨.ll hls, .lt hls⟩ hcn e2 s2
            refine dec_ite (fun _ => ?_) (fun _ => ?_)
            · exact ⟨_, rfl, f1⟩
            · exact ⟨_, rfl, L, ys, rfl, .inl ⟨f2, f3⟩⟩
      · cases hd with
        | tup hx hD =>
          rename_i c xs
          have hdep : PyData.depthAll ds < D := Nat.lt_of_succ_lt_succ hdp
          have hcn : cnt (.tuple ds) = cntA ds + 1 := rfl
          rw [hcn] at hn hc
          have hxl := dpa_len hD
          refine ⟨_, p, _, _, [.type "list", .type "tuple"], true, rfl, upd_same, .cons (.ty _) (.cons (.ty _) .nil), Or.inl (ty_t (ex_t (e1.trans hid_ex) hx)), seq_yes_t, true, rfl, ?_⟩
          refine iteT ?_
          refine Or.inr ⟨_, rfl, c, rfl, ⟨xs, ex_t (e1.trans hid_ex) hx⟩, fun L hL => ?_⟩
          have hL0 : H L = none := fresh_back (Ex.new hp) hL
          have la := hS.nea hL0
          have lb := hS.neb hL0
          refine lc_tup (xs := xs) (fun i H1 => ∃ (ys : List V) (es : List PyData), ExS a b H H1 ∧ SAt H1 a b (n + cntA (ds.take i)) ∧ H1 L = some (.lst ys) ∧ DpAll K (hid L L (nw H H1)) ys es ∧ LzA (ds.take i) es ∧ ys.length = i) ?_ ?_ ?_ ?_
          · exact ⟨[], [], ExS.own e1 hL0 la lb, s1.upd la lb, upd_same, .nil, .nil, rfl⟩
          · rintro i H1 _ ⟨ys, es, q⟩
            exact ex_t (q.1.trans hid_ex) hx
          · rintro i x H1 hxi q
            refine ⟨rfl, ?_⟩
            exact ⟨_, rfl, _, rfl, turn c xs ds L hD hdep (by omega) (by omega) hL0 i x H1 hxi q⟩
          · rintro H1 ⟨ys, es, hE, hS1, hL1, hY, hls, hyl⟩
            rw [hxl, List.take_of_length_le (Nat.le_refl _)] at hls hS1
            refine ⟨_, rfl, a, b, n + cntA ds, 2, rfl, hS1, by omega, by decide, by decide, fun H2 x e2 s2 x0 x1 => ⟨rfl, _, rfl, ?_⟩⟩
            obtain ⟨f1, f2, f3⟩ := fin1 ds L ys es H1 H2 hL0 hE hS1 hL1 hY ⟨.tl hls, .tt hls⟩ hcn e2 s2
            refine dec_ite (fun _ => ?_) (fun _ => ?_)
            · exact ⟨_, rfl, f1⟩
            · exact ⟨_, rfl, L, ys, rfl, .inl ⟨f2, f3⟩⟩
      · cases hd
end
end AA

set_option Elab.async false
set_option linter.all false
set_option maxRecDepth 100000
set_option maxHeartbeats 4000000
/-! _law_passes. -/
namespace AA
open PySem PySem.Spec PyProof.Rows L2 Evl
theorem any_ints (ns : List Int) (i : Int) : ((ns.map PyData.int).any fun z => PyData.eqv z (.int i)) = decide (i ∈ ns) := by
  induction ns with
  | nil => rfl
  | cons t r ih =>
    rw [List.map_cons, List.any_cons, ih, show PyData.eqv (.int t) (.int i) = (t == i) from rfl, Bool.eq_iff_iff]
    simp
    exact or_congr eq_comm Iff.rfl
theorem nd_len {α : Type} [DecidableEq α] : ∀ (l r : List α), l.Nodup → (∀ x ∈ l, x ∈ r) → l.length ≤ r.length
  | [], r, _, _ => Nat.zero_le _
  | x :: l, r, hn, hs => by
    have hn' := List.nodup_cons.mp hn
    have ih := nd_len l (r.erase x) hn'.2 fun y hy => (List.mem_erase_of_ne fun (e : y = x) => hn'.1 (e ▸ hy)).mpr (hs y (List.mem_cons_of_mem _ hy))
    have hx := hs x List.mem_cons_self
    rw [List.length_erase_of_mem hx] at ih
    have := List.length_pos_of_mem hx
    rw [List.length_cons]
    omega
theorem six_len {l : List Int} (hn : l.Nodup) (h : ∀ x ∈ l, 0 ≤ x ∧ x < 6) : l.length ≤ 6 :=
  nd_len l [0, 1, 2, 3, 4, 5] hn fun x hx => by
    have := h x hx
    simp only [List.mem_cons, List.not_mem_nil, or_false]
    omega
/-- the places that a walk comes to -/
def metL (w : List St5) (t : St5) : List Int := w.map (·.one) ++ [t.other]
/-- a walk that comes to no place twice -/
structure WayOk (ss : List St5) (w : List St5) (t : St5) : Prop where
  last : w.getLast? = some t
  sub : ∀ s ∈ w, s ∈ ss
  nd : (metL w t).Nodup
theorem WayOk.len {c : Int} {ss w : List St5} {t : St5} (h : WayOk ss w t) (hc : c ≤ 6) (hok : ∀ s ∈ ss, StOk c s) : w.length ≤ 5 := by
  have := six_len h.nd fun x hx => by
    rcases List.mem_append.mp hx with hx | hx
    · obtain ⟨s, hs, rfl⟩ := List.mem_map.mp hx
      have o := hok s (h.sub s hs)
      exact ⟨o.o0, by have := o.o1; omega⟩
    · obtain rfl := List.mem_singleton.mp hx
      have o := hok t (h.sub t (List.mem_of_getLast? h.last))
      exact ⟨o.t0, by have := o.t1; omega⟩
  unfold metL at this
  rw [List.length_append, List.length_map] at this
  have : w.length + 1 ≤ 6 := this
  omega
theorem WayOk.ne {ss w : List St5} {t : St5} (h : WayOk ss w t) : w ≠ [] := fun e => by
  have := h.last
  rw [e] at this
  cases this
theorem WayOk.more {ss w : List St5} {t s : St5} (h : WayOk ss w t) (hs : s ∈ ss) (e : s.one = t.other) (hn : s.other ∉ metL w t) : WayOk ss (w ++ [s]) s := by
  refine ⟨by rw [List.getLast?_append]; rfl, fun x hx => (List.mem_append.mp hx).elim (h.sub x) (fun z => (List.mem_singleton.mp z) ▸ hs), ?_⟩
  have : metL (w ++ [s]) s = metL w t ++ [s.other] := by
    unfold metL
    rw [List.map_append, ← e]
    rfl
  rw [this]
  refine List.nodup_append.mpr ⟨h.nd, by simp, fun x hx y hy z => ?_⟩
  obtain rfl := List.mem_singleton.mp hy
  exact hn (z ▸ hx)
def mzW (w : List St5) : Nat := 15 ^ (5 - w.length)
def mzS (ws : List (List St5)) : Nat := (ws.map mzW).sum
theorem mzW_pos (w : List St5) : 1 ≤ mzW w := Nat.one_le_pow _ _ (by decide)
theorem mzS_len : ∀ ws : List (List St5), ws.length ≤ mzS ws
  | [] => Nat.zero_le _
  | w :: r => by
    have h1 := mzW_pos w
    have h2 := mzS_len r
    show r.length + 1 ≤ mzW w + mzS r
    omega
theorem mzS_app (xs ys : List (List St5)) : mzS (xs ++ ys) = mzS xs + mzS ys := by
  unfold mzS
  rw [List.map_append, List.sum_append]
theorem mzS_le {n : Nat} : ∀ ws : List (List St5), (∀ w ∈ ws, mzW w ≤ n) → mzS ws ≤ ws.length * n
  | [], _ => Nat.zero_le _
  | w :: r, h => by
    have h1 := h w List.mem_cons_self
    have h2 := mzS_le r fun x hx => h x (List.mem_cons_of_mem _ hx)
    show mzW w + mzS r ≤ (r.length + 1) * n
    rw [Nat.succ_mul]
    omega
/-- a walk as a list on the heap, beside some addresses -/
def WyAt (K : PySem.W.Frag) (H : Hp) (X : List Addr) (G : Hp) (o : V) (w : List St5) : Prop := ∃ q xs, o = V.ref q ∧ H q = none ∧ q ∉ X ∧ G q = some (.lst xs) ∧ DpAll K H xs (w.map stD)
inductive WyL (K : PySem.W.Frag) (H : Hp) (X : List Addr) (G : Hp) : List V → List (List St5) → Prop
  | nil : WyL K H X G [] []
  | cons {o : V} {w : List St5} {os : List V} {ws : List (List St5)} (h : WyAt K H X G o w) (t : WyL K H X G os ws) : WyL K H X G (o :: os) (w :: ws)
section
variable {K : PySem.W.Frag} {H : Hp}
theorem WyAt.go {X : List Addr} {G G' : Hp} {o : V} {w : List St5} (h : WyAt K H X G o w) (e : ∀ q u, q ∉ X → G q = some u → G' q = some u) : WyAt K H X G' o w := by
  obtain ⟨q, xs, h1, h0, h2, h3, h4⟩ := h
  exact ⟨q, xs, h1, h0, h2, e _ _ h2 h3, h4⟩
theorem WyL.go {X : List Addr} {G G' : Hp} (e : ∀ q u, q ∉ X → G q = some u → G' q = some u) : ∀ {os : List V} {ws : List (List St5)}, WyL K H X G os ws → WyL K H X G' os ws
  | _, _, .nil => .nil
  | _, _, .cons h t => .cons (h.go e) (WyL.go e t)
theorem WyL.sub {X Y : List Addr} {G : Hp} (hs : ∀ x ∈ Y, x ∈ X) : ∀ {os : List V} {ws : List (List St5)}, WyL K H X G os ws → WyL K H Y G os ws
  | _, _, .nil => .nil
  | _, _, .cons ⟨q, xs, h1, h0, h2, h3⟩ t => .cons ⟨q, xs, h1, h0, fun z => h2 (hs q z), h3⟩ (WyL.sub hs t)
theorem WyL.app {X : List Addr} {G : Hp} : ∀ {os ps : List V} {ws us : List (List St5)}, WyL K H X G os ws → WyL K H X G ps us → WyL K H X G (os ++ ps) (ws ++ us)
  | _, _, _, _, .nil, k => k
  | _, _, _, _, .cons h t, k => .cons h (WyL.app t k)
theorem WyL.len {X : List Addr} {G : Hp} : ∀ {os : List V} {ws : List (List St5)}, WyL K H X G os ws → os.length = ws.length
  | _, _, .nil => rfl
  | _, _, .cons h t => by rw [List.length_cons, List.length_cons, WyL.len t]
theorem WyL.snoc {X : List Addr} {G : Hp} : ∀ {os : List V} {ws : List (List St5)}, WyL K H X G os ws → ws ≠ [] → ∃ ps p us u, os = ps ++ [p] ∧ ws = us ++ [u] ∧ WyL K H X G ps us ∧ WyAt K H X G p u
  | _, _, .nil, h => absurd rfl h
  | _, _, .cons h .nil, _ => ⟨[], _, [], _, rfl, rfl, .nil, h⟩
  | _, _, .cons h (.cons h2 t), _ => by
    obtain ⟨ps, p, us, u, e1, e2, k1, k2⟩ := WyL.snoc (.cons h2 t) (by simp)
    exact ⟨_ :: ps, p, _ :: us, u, by rw [e1]; rfl, by rw [e2]; rfl, .cons h k1, k2⟩
/-- as data -/
def wkD (w : List St5) : PyData := .list (w.map stD)
theorem WyL.dpa {X : List Addr} {G : Hp} (e : Ex H G) : ∀ {os : List V} {ws : List (List St5)}, WyL K H X G os ws → DpAll K G os (ws.map wkD)
  | _, _, .nil => .nil
  | _, _, .cons ⟨q, xs, h1, h0, h2, h3, h4⟩ t => by
    subst h1
    exact .cons (.lst (SqL.of h3) (dpa_ex e _ _ h4)) (WyL.dpa e t)
theorem wkDs_lay : ∀ ws : List (List St5), PyData.canLayAll0 (ws.map wkD) = true
  | [] => rfl
  | s :: r => by
    show (PyData.canLayAll0 (s.map stD) && PyData.canLayAll0 (r.map wkD)) = true
    rw [wkDs_lay r, stDs_lay]
    rfl
theorem wkDs_depth : ∀ ws : List (List St5), PyData.depthAll (ws.map wkD) ≤ 3
  | [] => by decide
  | s :: r => by
    have h1 := wkDs_depth r
    have h2 := stDs_depth s
    show max (PyData.depthAll (s.map stD) + 1) (PyData.depthAll (r.map wkD)) ≤ 3
    omega
theorem wkDs_shaped (ws : List (List St5)) : SeqAt.shaped (.list (ws.map wkD)) = true := by
  have h : PyData.depth (.list (ws.map wkD)) ≤ 64 := by
    have := wkDs_depth ws
    show PyData.depthAll (ws.map wkD) + 1 ≤ 64
    omega
  show (PyData.canLayAll0 (ws.map wkD) && decide (PyData.depth (.list (ws.map wkD)) ≤ 64)) = true
  rw [wkDs_lay, decide_eq_true h]
  rfl
theorem eqv_wks_nil : ∀ ws : List (List St5), PyData.eqv (.list (ws.map wkD)) (.list []) = ws.isEmpty
  | [] => rfl
  | _ :: _ => rfl
end
section
variable {P : Program} {w : World} {K : PySem.W.Frag} {mg : Str → Option Value} {base : Heap}
theorem last_at {H : Hp} {xs : List V} {u : List St5} {t : St5} (h : DpAll K H xs (u.map stD)) (hl : u.getLast? = some t) : ∃ b, atI xs (-1) = some (V.ref b) ∧ Dp K H (.ref b) (stD t) := by
  have hlen := sts_len h
  rw [List.getLast?_eq_getElem?] at hl
  have lt := (List.getElem?_eq_some_iff.mp hl).1
  obtain ⟨x, hx⟩ : ∃ x, xs[u.length - 1]? = some x := ⟨_, List.getElem?_eq_getElem (by omega)⟩
  obtain ⟨t', b, ht, rfl, hb⟩ := sts_get h hx
  rw [hl] at ht
  cases ht
  refine ⟨b, ?_, hb⟩
  unfold atI
  have e : ixN xs.length (-1) = some (u.length - 1) := by
    rw [hlen]
    unfold ixN
    rw [if_neg (by omega), if_pos (by omega)]
    congr 1
    omega
  rw [e]
  exact hx
/-- a walk that is told -/
structure TwOk (ss w : List St5) : Prop where
  ne : w ≠ []
  len : w.length ≤ 5
  sub : ∀ s ∈ w, s ∈ ss
def spPasses (K : PySem.W.Frag) : Sp := fun vs H Q _ => ∃ (g : Addr) (us : List V) (ss : List St5) (c bg en : Int), vs = [.ref g, .int bg, .int en] ∧ SqL K H g us ∧ DpAll K H us (ss.map stD) ∧ c ≤ 6 ∧ (∀ s ∈ ss, StOk c s) ∧ ss.length ≤ 14 ∧
  ∀ (H' : Hp) (F : Addr) (os : List V) (ws : List (List St5)), Ex H H' → H F = none → H' F = some (.lst os) → WyL K H [F] H' os ws → (∀ w ∈ ws, TwOk ss w) → ws.length ≤ 800000 → Q (.ref F) H'
abbrev nmPs : List Str := ["_law_steps", "_law_begin", "_law_end", "_law_found", "_law_ways", "_law_way_here", "_law_met", "_law_step_here"]
theorem scPs : FnScope nmPs ["_law_steps", "_law_begin", "_law_end"] (defScope sPasses) := ⟨rfl, rfl, rfl, by decide +kernel, rfl, by decide +kernel, by decide +kernel⟩
theorem ok_passes {f : Addr} {fd : FuncData} (F : L2.Fun K "_law_passes" "_law_passes" sPasses f fd) (T : Bn mg) : FnOk P w K mg base CX0 1 f fd ["_law_steps", "_law_begin", "_law_end"] (spPasses K) := by
  refine F.ok scPs (fun vs H Q E h => ?_) (fun cdv A outer s H vs Q E hr h => ?_)
  · obtain ⟨g, us, ss, c, bg, en, rfl, _⟩ := h
    rfl
  · obtain ⟨g, us, ss, c, bg, en, rfl, hg, hD, hc6, hok, hsz, k⟩ := h
    refine ⟨_, Evl.pss_cut (ps_par (i := 3) (j := 4) (by rfl) scPs.nd rfl rfl (by decide) rfl rfl (pa_cons (pe_lst pa_nil) (pa_cons (pe_lc (own := [("_law_step_here", 7)]) (g := gName 7) (by rfl) scPs.nd (pi_list (pv 0)) (blkOk_by (N := nmPs) (sc := defScope sPasses) (by decide +kernel))
              (fun _ _ _ _ _ => pg_name (i := 7) scPs.nd rfl (Or.inl rfl)) (fun _ _ _ _ _ => pts_one (PW.pt (pw_and (pt_cmpR op_eq (pe_ix (r := rIxT K) ix_tup (pv 7) pe_int (fun _ _ => rfl)) (pv 1) (nomark _)) (pw_and1 (pt_cmpR op_ne (pe_ix (r := rIxT K) ix_tup (pv 7) pe_int (fun _ _ => rfl)) (pv 1) (nomark _))))))
              (fun _ _ _ _ _ => pe_lst (pa_cons (pv 7) pa_nil))) pa_nil)) (by rfl))
      (Evl.pss_cut (ps_while PassesOwn.never (pt_cmpR (op_neD hr.units) (pv 4) (pe_lst pa_nil) (nomark _))
        (pss_cons (ps_set (i := 5) scPs.nd rfl (Or.inr rfl) (pe_bm0 PySem.F.plainAttrs_list PySem.F.slot_list_pop PySem.F.type_list_pop mt_pop (pv 4)))
        (pss_one (ps_if (pt_cmpR op_eq (pe_ix (r := rIxT K) ix_tup (pe_ix (r := rIxL K) ix_list (pv 5) (pe_un un_neg pe_int) (fun _ _ => rfl)) pe_int (fun _ _ => rfl)) (pv 2) (nomark _))
          (pss_one (ps_expr (pe_bm PySem.F.plainAttrs_list PySem.F.slot_list_append PySem.F.type_list_append mt_append (pv 3) (pa_cons (pv 5) pa_nil))))
          (pss_cons (ps_set (i := 6) scPs.nd rfl (Or.inr rfl) (pe_op op_cat (pe_lc (own := [("_law_step_here", 7)]) (g := gName 7) (tt := tYes) (by rfl) scPs.nd (pi_list (pv 5)) (blkOk_by (N := nmPs) (sc := defScope sPasses) (by decide +kernel))
              (fun _ _ _ _ _ => pg_name (i := 7) scPs.nd rfl (Or.inl rfl)) (fun _ _ _ _ _ => pts_nil) (fun _ _ _ _ _ => pe_ix (r := rIxT K) ix_tup (pv 7) pe_int (fun _ _ => rfl)))
              (pe_lst (pa_cons (pe_ix (r := rIxT K) ix_tup (pe_ix (r := rIxL K) ix_list (pv 5) (pe_un un_neg pe_int) (fun _ _ => rfl)) pe_int (fun _ _ => rfl)) pa_nil))))
          (pss_one (ps_expr (pe_bm PySem.F.plainAttrs_list PySem.F.slot_list_extend PySem.F.type_list_extend mt_extend (pv 4) (pa_cons (pe_lc (own := [("_law_step_here", 7)]) (g := gName 7) (by rfl) scPs.nd (pi_list (pv 0)) (blkOk_by (N := nmPs) (sc := defScope sPasses) (by decide +kernel))
              (fun _ _ _ _ _ => pg_name (i := 7) scPs.nd rfl (Or.inl rfl)) (fun _ _ _ _ _ => pts_one (PW.pt (pw_and (pt_cmpR op_eq (pe_ix (r := rIxT K) ix_tup (pv 7) pe_int (fun _ _ => rfl)) (pe_ix (r := rIxT K) ix_tup (pe_ix (r := rIxL K) ix_list (pv 5) (pe_un un_neg pe_int) (fun _ _ => rfl)) pe_int (fun _ _ => rfl)) (nomark _))
                (pw_and1 (pt_cmpR (r := rNotInD K) (op_notInD (Room.u65 hr)) (pe_ix (r := rIxT K) ix_tup (pv 7) pe_int (fun _ _ => rfl)) (pv 6) (by rfl))))))
              (fun _ _ _ _ _ => pe_op op_cat (pv 5) (pe_lst (pa_cons (pv 7) pa_nil)))) pa_nil)))))))))
      (pss_one (ps_ret (pv 3)))), ?_⟩
    have ixs : ∀ {G : Hp} {b : Addr} {s : St5}, Dp K G (.ref b) (stD s) → ∃ u, SqT K G b [.int s.one, .int s.other, .ref u, .int s.ticks, .int s.change] := fun h => by
      obtain ⟨t, u, e, h1, _⟩ := stD_inv h
      cases e
      exact ⟨u, h1⟩
    have hul := sts_len hD
    refine ⟨fun σ G => ∃ (Fo W : Addr) (qs : List V) (ways : List (List St5)), σ = [some (.ref g), some (.int bg), some (.int en), some (.ref Fo), some (.ref W), none, none, none] ∧ Ex H G ∧ H Fo = none ∧ H W = none ∧ Fo ≠ W ∧ G Fo = some (.lst []) ∧ G W = some (.lst qs) ∧ WyL K H [Fo, W] G qs ways ∧ (∀ w ∈ ways, ∃ t, WayOk ss w t) ∧ mzS ways ≤ 800000, ?_, ?_⟩
    · refine ⟨Nat.zero_le _, fun Fo hFo => ?_⟩
      have y1 := Ex.new (o := .lst []) hFo
      have f1 : upd H Fo (.lst []) Fo = some (.lst []) := upd_same
      generalize upd H Fo (.lst []) = G1 at y1 f1 ⊢
      refine ⟨_, rfl, g, rfl, ⟨us, ex_l y1 hg⟩, fun D hD0 => ?_⟩
      have FD : Fo ≠ D := ne_of_none f1 hD0
      refine lc_list (xs := us) (fun i G => Ex G1 G ∧ ∃ qs ways, G D = some (.lst qs) ∧ WyL K H [Fo, D] G qs ways ∧ (∀ w ∈ ways, ∃ t, w = [t] ∧ WayOk ss w t) ∧ ways.length ≤ i) ⟨Ex.new hD0, [], [], upd_same, .nil, (fun w hw => absurd hw (by simp)), Nat.le_refl _⟩ (fun i G _ q => ex_l (y1.trans q.1) hg) ?_ ?_
      · rintro i x G hx ⟨q1, qs, ways, q2, q3, q4, q5⟩
        obtain ⟨s, b, hs, rfl, hb⟩ := sts_get hD hx
        have e1 := y1.trans q1
        obtain ⟨u, p1⟩ := ixs (dp_ex e1 _ _ hb)
        have skip : Ex G1 G ∧ ∃ qs ways, G D = some (.lst qs) ∧ WyL K H [Fo, D] G qs ways ∧ (∀ w ∈ ways, ∃ t, w = [t] ∧ WayOk ss w t) ∧ ways.length ≤ i + 1 := ⟨q1, qs, ways, q2, q3, q4, by omega⟩
        refine ⟨rfl, _, rfl, b, _, 0, .int s.one, rfl, rfl, p1, rfl, _, rfl, rfl, _, rfl, ?_⟩
        rw [dec_int]
        by_cases h1 : s.one = bg
        case neg =>
          rw [decide_eq_false h1]
          exact iteF skip
        rw [decide_eq_true h1]
        refine iteT ?_
        refine ⟨_, rfl, b, _, 1, .int s.other, rfl, rfl, p1, rfl, _, rfl, rfl, _, rfl, ?_⟩
        rw [dec_int]
        by_cases h2 : s.other = bg
        · rw [decide_eq_true h2]
          exact skip
        rw [decide_eq_false h2]
        refine ⟨_, rfl, by show 1 ≤ sizeLine; decide, fun q hq => ?_⟩
        have qD : q ≠ D := (ne_of_none q2 hq).symm
        have qF : q ≠ Fo := (ne_of_none (q1 _ _ f1) hq).symm
        have yq := Ex.new (o := .lst [V.ref b]) hq
        refine ⟨qs, yq _ _ q2, ?_, (q1.trans yq).mut hD0, qs ++ [.ref q], ways ++ [[s]], upd_same, ?_, fun w hw => ?_, by rw [List.length_append]; exact Nat.succ_le_succ q5⟩
        · rw [q3.len]
          have : sizeLine = 16777216 := rfl
          have il := (List.getElem?_eq_some_iff.mp hx).1
          omega
        · refine WyL.app (WyL.go (fun z o hz hz2 => ?_) q3) (.cons ⟨q, [.ref b], rfl, fresh_back (y1.trans q1) hq, by simp [qD, qF], ?_, .cons hb .nil⟩ .nil)
          · have : z ≠ D := fun e => hz (by rw [e]; simp)
            rw [upd_ne this]
            exact yq _ _ hz2
          · rw [upd_ne qD]
            exact upd_same
        · rcases List.mem_append.mp hw with hw | hw
          · exact q4 w hw
          · obtain rfl := List.mem_singleton.mp hw
            refine ⟨s, rfl, rfl, fun x hx => (List.mem_singleton.mp hx) ▸ mem_of_get hs, ?_⟩
            show ([s.one, s.other] : List Int).Nodup
            simp
            exact fun e => h2 (e ▸ h1)
      · rintro G ⟨q1, qs, ways, q2, q3, q4, q5⟩
        refine ⟨_, _, rfl, ?_⟩
        refine ⟨Fo, D, qs, ways, rfl, y1.trans q1, hFo, fresh_back y1 hD0, FD, q1 _ _ f1, q2, q3, fun w hw => ?_, ?_⟩
        · obtain ⟨t, _, h⟩ := q4 w hw
          exact ⟨t, h⟩
        · have := mzS_le (n := 15 ^ 4) ways fun w hw => by
            obtain ⟨t, e, _⟩ := q4 w hw
            subst e
            exact Nat.le_refl _
          have h2 : ways.length * 15 ^ 4 ≤ 14 * 15 ^ 4 := Nat.mul_le_mul_right _ (by omega)
          have h3 : 14 * 15 ^ 4 ≤ 800000 := by decide
          omega
    rintro σ G0 ⟨Fo, W, qs0, ways0, rfl, e0, hFo, hW, nFW, hF0, hW0, hw0, hwo0, hmz0⟩
    have nFW' : W ≠ Fo := nFW.symm
    -- what goes on while ways stand open
    refine ⟨fun σ G => ∃ (x5 x6 : Option V) (fs : List V) (found : List (List St5)), σ = [some (.ref g), some (.int bg), some (.int en), some (.ref Fo), some (.ref W), x5, x6, none] ∧ Ex H G ∧ G Fo = some (.lst fs) ∧ WyL K H [Fo] G fs found ∧ (∀ w ∈ found, TwOk ss w) ∧ found.length ≤ 800000, ?_, ?_⟩
    case refine_2 =>
      rintro σ G ⟨x5, x6, fs, found, rfl, q1, q2, q3, q4, q5⟩
      exact ⟨_, rfl, k G Fo fs found q1 hFo q2 q3 q4 q5⟩
    refine ⟨fun mm σ G => ∃ (x5 x6 : Option V) (fs qs : List V) (found ways : List (List St5)), σ = [some (.ref g), some (.int bg), some (.int en), some (.ref Fo), some (.ref W), x5, x6, none] ∧ mzS ways = mm ∧ Ex H G ∧ G Fo = some (.lst fs) ∧ G W = some (.lst qs) ∧ WyL K H [Fo, W] G fs found ∧ WyL K H [Fo, W] G qs ways ∧ (∀ w ∈ found, TwOk ss w) ∧ (∀ w ∈ ways, ∃ t, WayOk ss w t) ∧ mzS ways + found.length ≤ 800000,
      ⟨mzS ways0, none, none, [], qs0, [], ways0, rfl, rfl, e0, hF0, hW0, .nil, hw0, (fun w hw => absurd hw (by simp)), hwo0, hmz0⟩, ?_⟩
    rintro mm σ G ⟨x5, x6, fs, qs, found, ways, rfl, rfl, e1, hF, hQ, hf, hw, hfo, hwo, hmz⟩
    refine ⟨_, rfl, Nat.zero_le _, fun l hl => ?_⟩
    have yl := Ex.new (o := .lst []) hl
    have fl : upd G l (.lst []) l = some (.lst []) := upd_same
    generalize upd G l (.lst []) = G1 at yl fl ⊢
    have keep1 : ∀ {os ws}, WyL K H [Fo, W] G os ws → WyL K H [Fo, W] G1 os ws := fun h => WyL.go (fun z o _ hz => yl _ _ hz) h
    have e2 := e1.trans yl
    refine ⟨.list (ways.map wkD), .list [], .lst (SqL.of (yl _ _ hQ)) (WyL.dpa e2 (keep1 hw)), .lst (SqL.of fl) .nil, wkDs_shaped _, rfl, _, rfl, ?_⟩
    rw [eqv_wks_nil]
    have hF1 := yl _ _ hF
    have hQ1 := yl _ _ hQ
    have hf1 := keep1 hf
    have hw1 := keep1 hw
    cases hwz : ways with
    | nil => exact iteF ⟨x5, x6, fs, found, rfl, e2, hF1, WyL.sub (by simp) hf1, hfo, by omega⟩
    | cons w0 wr =>
      refine iteT ?_
      obtain ⟨ps, p, us', u, rfl, ew, hps, hp⟩ := hw1.snoc (by rw [hwz]; simp)
      rw [← hwz, ew]
      rw [ew] at hwo hmz
      obtain ⟨t, hwt⟩ := hwo u (by simp)
      have hwo' : ∀ w ∈ us', ∃ t, WayOk ss w t := fun w hw => hwo w (by simp [hw])
      have hmzE : mzS (us' ++ [u]) = mzS us' + mzW u := mzS_app us' [u]
      rw [hmzE] at hmz
      refine ⟨fun σ G => ∃ (x5 x6 : Option V) (fs qs : List V) (found ways : List (List St5)), σ = [some (.ref g), some (.int bg), some (.int en), some (.ref Fo), some (.ref W), x5, x6, none] ∧ mzS ways < mzS (us' ++ [u]) ∧ Ex H G ∧ G Fo = some (.lst fs) ∧ G W = some (.lst qs) ∧ WyL K H [Fo, W] G fs found ∧ WyL K H [Fo, W] G qs ways ∧ (∀ w ∈ found, TwOk ss w) ∧ (∀ w ∈ ways, ∃ t, WayOk ss w t) ∧ mzS ways + found.length ≤ 800000, ?_, ?_⟩
      · rintro σ' G' ⟨x5, x6, fs, qs, found, ways, e, lt, r⟩
        exact ⟨mzS ways, lt, x5, x6, fs, qs, found, ways, e, rfl, r⟩
      -- pop
      refine ⟨_, rfl, .inl ⟨rfl, _, SqL.of hQ1⟩, W, _, p, rfl, rfl, hQ1, by simp, ?_⟩
      rw [List.dropLast_concat]
      obtain ⟨q, xs, rfl, hq0, hqX, hq, hqd⟩ := hp
      have qF : q ≠ Fo := fun e => hqX (by rw [e]; simp)
      have qW : q ≠ W := fun e => hqX (by rw [e]; simp)
      have e3 : Ex H (upd G1 W (.lst ps)) := e2.mut hW
      have hF2 : upd G1 W (.lst ps) Fo = some (.lst fs) := by rw [upd_ne nFW]; exact hF1
      have hW2 : upd G1 W (.lst ps) W = some (.lst ps) := upd_same
      have keep2 : ∀ {os ws}, WyL K H [Fo, W] G1 os ws → WyL K H [Fo, W] (upd G1 W (.lst ps)) os ws := fun h => WyL.go (fun z o hz hz2 => by
        have : z ≠ W := fun e => hz (by rw [e]; simp)
        rw [upd_ne this]
        exact hz2) h
      have hf2 := keep2 hf1
      have hw2 := keep2 hps
      have hq2 : upd G1 W (.lst ps) q = some (.lst xs) := by rw [upd_ne qW]; exact hq
      generalize upd G1 W (.lst ps) = G2 at e3 hF2 hW2 hf2 hw2 hq2 ⊢
      obtain ⟨tb, htb, htD⟩ := last_at hqd hwt.last
      have lastI : ∀ {G : Hp}, Ex G2 G → ∃ u', SqT K G tb [.int t.one, .int t.other, .ref u', .int t.ticks, .int t.change] := fun e => ixs (dp_ex (e3.trans e) _ _ htD)
      obtain ⟨tu, htu⟩ := lastI (Ex.refl G2)
      refine ⟨_, rfl, _, rfl, q, _, (-1 : Int), _, rfl, rfl, SqL.of hq2, htb, tb, _, 1, .int t.other, rfl, rfl, htu, rfl, _, rfl, rfl, _, rfl, ?_⟩
      rw [dec_int]
      by_cases hte : t.other = en
      · rw [decide_eq_true hte]
        refine iteT ?_
        refine ⟨_, rfl, .inl ⟨rfl, _, SqL.of hF2⟩, _, rfl, Fo, fs, _, rfl, rfl, hF2, ?_, ?_⟩
        · rw [hf2.len]
          have : sizeLine = 16777216 := rfl
          omega
        · have kp : ∀ {os ws}, WyL K H [Fo, W] G2 os ws → WyL K H [Fo, W] (upd G2 Fo (.lst (fs ++ [.ref q]))) os ws := fun h => WyL.go (fun z o hz hz2 => by
            have : z ≠ Fo := fun e => hz (by rw [e]; simp)
            rw [upd_ne this]
            exact hz2) h
          refine ⟨_, _, fs ++ [.ref q], ps, found ++ [u], us', rfl, ?_, e3.mut hFo, upd_same, by rw [upd_ne nFW']; exact hW2, WyL.app (kp hf2) (.cons ⟨q, xs, rfl, hq0, hqX, by rw [upd_ne qF]; exact hq2, hqd⟩ .nil), kp hw2, fun w hw => ?_, hwo', ?_⟩
          · have := mzW_pos u
            omega
          · rcases List.mem_append.mp hw with hw | hw
            · exact hfo w hw
            · obtain rfl := List.mem_singleton.mp hw
              exact ⟨hwt.ne, hwt.len hc6 hok, hwt.sub⟩
          · have := mzW_pos u
            rw [List.length_append]
            show _ + (_ + 1) ≤ _
            omega
      rw [decide_eq_false hte]
      refine iteF ?_
      -- met
      refine ⟨_, rfl, q, rfl, ⟨_, SqL.of hq2⟩, fun D hD0 => ?_⟩
      refine lc_list (xs := xs) (fun i G => Ex G2 G ∧ G D = some (.lst (((u.take i).map (·.one)).map V.int))) ⟨Ex.new hD0, upd_same⟩ (fun i G _ q' => SqL.of (q'.1 _ _ hq2)) ?_ ?_
      · rintro i x G hx ⟨q1, q2⟩
        obtain ⟨s, b, hs, rfl, hb⟩ := sts_get hqd hx
        have il := (List.getElem?_eq_some_iff.mp hs).1
        have ul := hwt.len hc6 hok
        obtain ⟨_, p1⟩ := ixs (dp_ex (e3.trans q1) _ _ hb)
        refine ⟨rfl, _, rfl, b, _, 0, .int s.one, rfl, rfl, p1, rfl, _, q2, ?_, q1.mut hD0, ?_⟩
        · rw [List.length_map, List.length_map, List.length_take]
          have : sizeLine = 16777216 := rfl
          omega
        · rw [upd_same, List.take_add_one, hs, List.map_append, List.map_append]
          rfl
      rintro G3 ⟨y3, hD3⟩
      rw [sts_len hqd, List.take_length] at hD3
      obtain ⟨_, htu3⟩ := lastI y3
      refine ⟨_, rfl, _, rfl, q, _, (-1 : Int), _, rfl, rfl, SqL.of (y3 _ _ hq2), htb, tb, _, 1, .int t.other, rfl, rfl, htu3, rfl, by show 1 ≤ sizeLine; decide, fun l1 hl1 => ?_⟩
      have y4 := Ex.new (o := .lst [V.int t.other]) hl1
      have f4 : upd G3 l1 (.lst [V.int t.other]) l1 = some (.lst [V.int t.other]) := upd_same
      generalize upd G3 l1 (.lst [V.int t.other]) = G4 at y4 f4 ⊢
      have ul := hwt.len hc6 hok
      refine ⟨D, l1, _, _, rfl, rfl, y4 _ _ hD3, f4, sz_le (by rw [List.length_map, List.length_map]; show _ + 1 ≤ _; omega), fun M hM => ?_⟩
      have em : (u.map (·.one)).map V.int ++ [V.int t.other] = (metL u t).map V.int := by
        unfold metL
        rw [List.map_append]
        rfl
      rw [em]
      have y5 := Ex.new (o := .lst ((metL u t).map V.int)) hM
      have f5 : upd G4 M (.lst ((metL u t).map V.int)) M = some (.lst ((metL u t).map V.int)) := upd_same
      generalize upd G4 M (.lst ((metL u t).map V.int)) = G5 at y5 f5 ⊢
      have y25 := y3.trans (y4.trans y5)
      have e5 := e3.trans y25
      refine ⟨_, rfl, .inl ⟨rfl, _, SqL.of (y25 _ _ hW2)⟩, _, rfl, g, rfl, ⟨us, ex_l e5 hg⟩, fun D2 hD2 => ?_⟩
      have D2F : D2 ≠ Fo := (ne_of_none (y25 _ _ hF2) hD2).symm
      have D2W : D2 ≠ W := (ne_of_none (y25 _ _ hW2) hD2).symm
      refine lc_list (xs := us) (fun i G => Ex G5 G ∧ ∃ acc news, G D2 = some (.lst acc) ∧ WyL K H [Fo, W, D2] G acc news ∧ (∀ w ∈ news, ∃ s, w = u ++ [s] ∧ WayOk ss w s) ∧ news.length ≤ i) ⟨Ex.new hD2, [], [], upd_same, .nil, (fun w hw => absurd hw (by simp)), Nat.le_refl _⟩ (fun i G _ q' => ex_l (e5.trans q'.1) hg) ?_ ?_
      · rintro i x G hx ⟨q1, acc, news, q2, q3, q4, q5⟩
        have il := (List.getElem?_eq_some_iff.mp hx).1
        obtain ⟨s, b, hs, rfl, hb⟩ := sts_get hD hx
        obtain ⟨_, p1⟩ := ixs (dp_ex (e5.trans q1) _ _ hb)
        obtain ⟨_, htu5⟩ := lastI (y25.trans q1)
        have hqG := (y25.trans q1) _ _ hq2
        have skip : Ex G5 G ∧ ∃ acc news, G D2 = some (.lst acc) ∧ WyL K H [Fo, W, D2] G acc news ∧ (∀ w ∈ news, ∃ s, w = u ++ [s] ∧ WayOk ss w s) ∧ news.length ≤ i + 1 := ⟨q1, acc, news, q2, q3, q4, by omega⟩
        refine ⟨rfl, _, rfl, b, _, 0, .int s.one, rfl, rfl, p1, rfl, _, rfl, _, rfl, q, _, (-1 : Int), _, rfl, rfl, SqL.of hqG, htb, tb, _, 1, .int t.other, rfl, rfl, htu5, rfl, rfl, _, rfl, ?_⟩
        rw [dec_int]
        by_cases h1 : s.one = t.other
        case neg =>
          rw [decide_eq_false h1]
          exact iteF skip
        rw [decide_eq_true h1]
        refine iteT ?_
        refine ⟨_, rfl, b, _, 1, .int s.other, rfl, rfl, p1, rfl, _, rfl, .int s.other, (metL u t).map PyData.int, .int _, .lst (SqL.of (q1 _ _ f5)) (dp_ints _), rfl, shaped_ints _, _, rfl, ?_⟩
        rw [any_ints]
        by_cases h2 : s.other ∈ metL u t
        · rw [decide_eq_true h2]
          exact skip
        rw [decide_eq_false h2]
        refine ⟨_, rfl, _, rfl, by show 1 ≤ sizeLine; decide, fun l2 hl2 => ?_⟩
        have z1 := Ex.new (o := .lst [V.ref b]) hl2
        have g1 : upd G l2 (.lst [V.ref b]) l2 = some (.lst [V.ref b]) := upd_same
        generalize upd G l2 (.lst [V.ref b]) = G6 at z1 g1 ⊢
        have hxl := sts_len hqd
        refine ⟨q, l2, xs, _, rfl, rfl, z1 _ _ hqG, g1, sz_le (by show _ + 1 ≤ _; omega), fun q' hq' => ?_⟩
        have z2 := Ex.new (o := .lst (xs ++ [V.ref b])) hq'
        have z12 := z1.trans z2
        have q'D : q' ≠ D2 := (ne_of_none (z1 _ _ q2) hq').symm
        have q'F : q' ≠ Fo := (ne_of_none ((y25.trans (q1.trans z1)) _ _ hF2) hq').symm
        have q'W : q' ≠ W := (ne_of_none ((y25.trans (q1.trans z1)) _ _ hW2) hq').symm
        refine ⟨acc, z12 _ _ q2, ?_, (q1.trans z12).mut hD2, acc ++ [.ref q'], news ++ [u ++ [s]], upd_same, ?_, fun w hw => ?_, by rw [List.length_append]; exact Nat.succ_le_succ q5⟩
        · rw [q3.len]
          have : sizeLine = 16777216 := rfl
          omega
        · refine WyL.app (WyL.go (fun z o hz hz2 => ?_) q3) (.cons ⟨q', xs ++ [.ref b], rfl, fresh_back (e5.trans (q1.trans z1)) hq', by simp [q'D, q'F, q'W], ?_, ?_⟩ .nil)
          · have : z ≠ D2 := fun e => hz (by rw [e]; simp)
            rw [upd_ne this]
            exact z12 _ _ hz2
          · rw [upd_ne q'D]
            exact upd_same
          · rw [List.map_append]
            exact dpa_app hqd (.cons hb .nil)
        · rcases List.mem_append.mp hw with hw | hw
          · exact q4 w hw
          · obtain rfl := List.mem_singleton.mp hw
            exact ⟨s, rfl, hwt.more (mem_of_get hs) h1 h2⟩
      rintro G6 ⟨y6, acc, news, hD6, hn6, hno, hnl⟩
      have y26 := y25.trans y6
      have hW6 := y26 _ _ hW2
      have hpl := hw2.len
      have hml := mzS_len us'
      refine ⟨W, D2, ps, acc, rfl, rfl, hW6, hD6, ?_, ?_⟩
      · rw [hpl, hn6.len]
        have : sizeLine = 16777216 := rfl
        omega
      have kp : ∀ {os ws}, WyL K H [Fo, W] G6 os ws → WyL K H [Fo, W] (upd G6 W (.lst (ps ++ acc))) os ws := fun h => WyL.go (fun z o hz hz2 => by
        have : z ≠ W := fun e => hz (by rw [e]; simp)
        rw [upd_ne this]
        exact hz2) h
      have k26 : ∀ {os ws}, WyL K H [Fo, W] G2 os ws → WyL K H [Fo, W] G6 os ws := fun h => WyL.go (fun z o _ hz2 => y26 _ _ hz2) h
      have hlt : mzS news < mzW u := by
        by_cases h5 : news = []
        · rw [h5]
          exact mzW_pos u
        · obtain ⟨w1, hw1⟩ : ∃ w1, w1 ∈ news := by
            cases news with
            | nil => exact absurd rfl h5
            | cons x r => exact ⟨x, List.mem_cons_self⟩
          obtain ⟨s1, e1', hwk⟩ := hno w1 hw1
          have l1 := hwk.len hc6 hok
          rw [e1', List.length_append] at l1
          have l1 : u.length + 1 ≤ 5 := l1
          have hle := mzS_le (n := 15 ^ (4 - u.length)) news fun w hw => by
            obtain ⟨s2, e2', _⟩ := hno w hw
            subst e2'
            unfold mzW
            rw [List.length_append]
            show 15 ^ (5 - (u.length + 1)) ≤ _
            rw [show 5 - (u.length + 1) = 4 - u.length by omega]
            exact Nat.le_refl _
          have h14 : news.length * 15 ^ (4 - u.length) ≤ 14 * 15 ^ (4 - u.length) := Nat.mul_le_mul_right _ (by omega)
          have hpos : 1 ≤ 15 ^ (4 - u.length) := Nat.one_le_pow _ _ (by decide)
          have hE : mzW u = 15 * 15 ^ (4 - u.length) := by
            unfold mzW
            rw [show 5 - u.length = (4 - u.length) + 1 by omega, Nat.pow_succ, Nat.mul_comm]
          omega
      refine ⟨_, _, fs, ps ++ acc, found, us' ++ news, rfl, ?_, (e3.trans y26).mut hW, by rw [upd_ne nFW]; exact y26 _ _ hF2, upd_same, kp (k26 hf2), kp (WyL.app (k26 hw2) (WyL.sub (by simp) hn6)), hfo, fun w hw => ?_, ?_⟩
      · rw [mzS_app]
        omega
      · rcases List.mem_append.mp hw with hw | hw
        · exact hwo' w hw
        · obtain ⟨s, _, h⟩ := hno w hw
          exact ⟨s, h⟩
      · rw [mzS_app]
        omega
end
end AA

set_option Elab.async false
set_option linter.all false
set_option maxRecDepth 100000
set_option maxHeartbeats 4000000
/-! _law_bent. -/
namespace AA
open PySem PySem.Spec PyProof.Rows L2 Evl
/-- a function of the module -/
def FnV (K : PySem.W.Frag) (f : Addr) : Prop := ∃ (od : Option Addr) (fd : FuncData) (osl : Array (Option Value)), K.lookup f = some ⟨.type "function", od, .func fd, osl⟩
theorem lk_fnv {K : PySem.W.Frag} {F : Hp} {f : Addr} (h : FnV K f) : Lk K F (.ref f) false := by
  obtain ⟨od, fd, osl, h⟩ := h
  exact lk_fn h rfl
theorem ni_fnv {K : PySem.W.Frag} {F : Hp} {f : Addr} (h : FnV K f) : NotI K F (.ref f) := by
  obtain ⟨od, fd, osl, h⟩ := h
  exact ni_fn h rfl
theorem dpa_drop {K : PySem.W.Frag} {H : Hp} : ∀ {xs : List V} {ds : List PyData} (j : Nat), DpAll K H xs ds → DpAll K H (xs.drop j) (ds.drop j)
  | [], _, j, h => by
    cases h
    rw [List.drop_nil, List.drop_nil]
    exact .nil
  | x :: xs, _, 0, h => h
  | x :: xs, _, j + 1, h => by
    cases h with
    | cons h1 h2 => exact dpa_drop j h2
theorem dpa_rev {K : PySem.W.Frag} {H : Hp} : ∀ {xs : List V} {ds : List PyData}, DpAll K H xs ds → DpAll K H xs.reverse ds.reverse
  | [], _, h => by
    cases h
    exact .nil
  | x :: xs, _, h => by
    cases h with
    | cons h1 h2 =>
      rw [List.reverse_cons, List.reverse_cons]
      exact dpa_app (dpa_rev h2) (.cons h1 .nil)
theorem cut_1 (xs : List V) : cutV xs (some 1) none = xs.drop 1 := cut_from xs 1
theorem cut_t1 (xs : List V) : cutV xs none (some 1) = xs.take 1 := cut_to xs 1
theorem cut_init (xs : List V) : cutV xs none (some (-1)) = xs.take (xs.length - 1) := by
  unfold cutV
  have h : HT.sIx xs.length xs.length (some (-1)) = xs.length - 1 := by
    show (if (-1 : Int) < 0 then ((-1 : Int) + (xs.length : Int)).toNat else min (-1 : Int).toNat xs.length) = xs.length - 1
    rw [if_pos (by decide)]
    omega
  rw [h, HT.sIx_none, List.drop_zero, Nat.sub_zero]
section
variable {K : PySem.W.Frag}
/-- a thing that is handed to is_pass -/
def BtOk (K : PySem.W.Frag) (F : Hp) (v : V) : Prop := Lk K F v false ∨ ∃ d, Dp K F v d ∧ dOk d = true ∧ d.depth ≤ 4 ∧ cnt d ≤ 500
theorem BtOk.ex {F F' : Hp} {v : V} (h : BtOk K F v) (e : Ex F F') : BtOk K F' v := h.imp (fun z => z.ex e) fun ⟨d, h1, h2⟩ => ⟨d, dp_ex e _ _ h1, h2⟩
theorem bt_lst {F : Hp} {p : Addr} {xs : List V} {ds : List PyData} (h : F p = some (.lst xs)) (hd : DpAll K F xs ds) (ho : dOkA ds = true) (hz : PyData.depthAll ds ≤ 3) (hc : cntA ds ≤ 400) : BtOk K F (.ref p) := by
  have hl := cntA_len ds
  refine .inr ⟨.list ds, .lst (SqL.of h) hd, ?_, ?_, ?_⟩
  · show (decide (ds.length ≤ 1000000) && dOkA ds) = true
    rw [ho, decide_eq_true (by omega)]
    rfl
  · show PyData.depthAll ds + 1 ≤ 4
    omega
  · show cntA ds + 1 ≤ 500
    omega
theorem bt_tup {F : Hp} {p : Addr} {xs : List V} {ds : List PyData} (h : F p = some (.tup xs)) (hd : DpAll K F xs ds) (ho : dOkA ds = true) (hz : PyData.depthAll ds ≤ 3) (hc : cntA ds ≤ 400) : BtOk K F (.ref p) := by
  have hl := cntA_len ds
  refine .inr ⟨.tuple ds, .tup (SqT.of h) hd, ?_, ?_, ?_⟩
  · show (decide (ds.length ≤ 1000000) && dOkA ds) = true
    rw [ho, decide_eq_true (by omega)]
    rfl
  · show PyData.depthAll ds + 1 ≤ 4
    omega
  · show cntA ds + 1 ≤ 500
    omega
theorem bt_wk {F : Hp} {p : Addr} {xs : List V} {u : List St5} (h : F p = some (.lst xs)) (hd : DpAll K F xs (u.map stD)) (hl : u.length ≤ 40) : BtOk K F (.ref p) :=
  bt_lst h hd (dok_sts u) (by have := stDs_depth u; omega) (by rw [cnt_sts]; omega)
theorem dokA_app : ∀ (xs ys : List PyData), dOkA (xs ++ ys) = (dOkA xs && dOkA ys)
  | [], _ => rfl
  | x :: xs, ys => by
    show (dOk x && dOkA (xs ++ ys)) = ((dOk x && dOkA xs) && dOkA ys)
    rw [dokA_app xs ys, Bool.and_assoc]
theorem depA_app : ∀ (xs ys : List PyData), PyData.depthAll (xs ++ ys) = max (PyData.depthAll xs) (PyData.depthAll ys)
  | [], ys => (Nat.zero_max _).symm
  | x :: xs, ys => by
    show max (PyData.depth x) (PyData.depthAll (xs ++ ys)) = max (max (PyData.depth x) (PyData.depthAll xs)) (PyData.depthAll ys)
    rw [depA_app xs ys, Nat.max_assoc]
/-- steps and None, as they come -/
theorem some_data {F : Hp} {us : List V} {ss : List St5} (hD : DpAll K F us (ss.map stD)) : ∀ acc : List V, (∀ y ∈ acc, y ∈ us ++ [V.non]) → ∃ ds, DpAll K F acc ds ∧ dOkA ds = true ∧ PyData.depthAll ds ≤ 2 ∧ cntA ds ≤ 8 * acc.length
  | [], _ => ⟨[], .nil, rfl, by decide, Nat.le_refl _⟩
  | y :: acc, h => by
    obtain ⟨ds, h1, h2, h3, h4⟩ := some_data hD acc fun z hz => h z (List.mem_cons_of_mem _ hz)
    have one : ∃ d, Dp K F y d ∧ dOk d = true ∧ d.depth ≤ 2 ∧ cnt d ≤ 8 := by
      rcases List.mem_append.mp (h y List.mem_cons_self) with hy | hy
      · obtain ⟨i, hi⟩ := List.mem_iff_getElem?.mp hy
        obtain ⟨s, b, hs, rfl, hb⟩ := sts_get hD hi
        refine ⟨stD s, hb, ?_, Nat.le_of_eq (stD_depth s), Nat.le_refl 8⟩
        have := dok_sts [s]
        show dOk (stD s) = true
        have e : (dOk (stD s) && true) = true := this
        rwa [Bool.and_true] at e
      · obtain rfl := List.mem_singleton.mp hy
        exact ⟨.none, .non, rfl, by decide, by decide⟩
    obtain ⟨d, d1, d2, d3, d4⟩ := one
    refine ⟨d :: ds, .cons d1 h1, ?_, ?_, ?_⟩
    · show (dOk d && dOkA ds) = true
      rw [d2, h2]
      rfl
    · show max (PyData.depth d) (PyData.depthAll ds) ≤ 2
      omega
    · show cnt d + cntA ds ≤ 8 * (acc.length + 1)
      omega
end
/-- the heap without the stream and one more thing -/
def h3 (a b D : Addr) (H : Hp) : Hp := hid D D (hid a b H)
theorem h3_mono {a b D : Addr} {H H' : Hp} (e : Ex H H') : Ex (h3 a b D H) (h3 a b D H') := hid_mono (hid_mono e)
theorem h3_S {a b D : Addr} {H H' : Hp} (e : ExS a b H H') : Ex (h3 a b D H) (h3 a b D H') := hid_mono e
theorem h3_le {a b D : Addr} {H : Hp} : Ex (h3 a b D H) (hid a b H) := hid_ex
theorem h3_ne {a b D p : Addr} {H : Hp} (pa : p ≠ a) (pb : p ≠ b) (pD : p ≠ D) : h3 a b D H p = H p := by
  unfold h3
  rw [hid_ne pD pD, hid_ne pa pb]
section
variable {P : Program} {w : World} {K : PySem.W.Frag} {mg : Str → Option Value} {base : Heap}
def spBent (K : PySem.W.Frag) : Sp := fun vs H Q _ => ∃ (a b D0 : Addr) (o0 : HO) (n : Nat) (g q : Addr) (us xs : List V) (ss u : List St5), vs = [.ref a, .ref g, .ref q] ∧ SAt H a b n ∧ n < 900000000 ∧ H D0 = some o0 ∧ h3 a b D0 H g = some (.lst us) ∧ DpAll K (h3 a b D0 H) us (ss.map stD) ∧ ss.length ≤ 100 ∧ h3 a b D0 H q = some (.lst xs) ∧ DpAll K (h3 a b D0 H) xs (u.map stD) ∧ u.length ≤ 15 ∧
  ∀ (H' : Hp) (v : V), ExS a b H H' → SAt H' a b (n + 4) → BtOk K (h3 a b D0 H') v → Q v H'
abbrev nmBent : List Str := ["_law_stream_here", "_law_steps", "_law_walk", "_law_some", "_law_k"]
theorem scBent : FnScope nmBent ["_law_stream_here", "_law_steps", "_law_walk"] (defScope sBent) := ⟨rfl, rfl, rfl, by decide +kernel, rfl, by decide +kernel, by decide +kernel⟩
theorem ok_bent {f fD : Addr} {fd : FuncData} (F : L2.Fun K "_law_bent" "_law_bent" sBent f fd) (T : Bn mg) (mD : mg "_law_draw" = some (.ref fD)) (vD : FnV K fD) (cP : C8.Cal P w K mg base 2 "_law_pick" (spPick K) []) : FnOk P w K mg base CX0 3 f fd ["_law_stream_here", "_law_steps", "_law_walk"] (spBent K) := by
  refine F.ok scBent (fun vs H Q E h => ?_) (fun cdv A outer s H vs Q E hr h => ?_)
  · obtain ⟨a, b, D0, o0, n, g, q, us, xs, ss, u, rfl, _⟩ := h
    rfl
  · obtain ⟨a, b, D0, o0, n, g, q, us, xs, ss, u, rfl, hS, hn, hD0, hg, hD, hsz, hq, hX, hul, k⟩ := h
    refine ⟨_, Evl.pss_cut (ps_set (i := 3) scBent.nd rfl (Or.inl rfl) (pe_lst (pa_cons (pv 2) (pa_cons (pe_slice (r := rSlL K) sl_list (pv 2) (po_some pe_int) po_none) (pa_cons (pe_slice (r := rSlL K) sl_list (pv 2) po_none (po_some (pe_un un_neg pe_int))) (pa_cons (pe_op op_cat (pv 2) (pv 2)) (pa_cons (pe_rev (pv 2) (pe_un un_neg pe_int))
          (pa_cons (pe_op op_cat (pv 2) (pe_lst (pa_cons pe_non pa_nil))) (pa_cons (pe_lst (pa_cons (pv 2) pa_nil)) (pa_cons (pe_callTy call_tuple_of (by rfl) T.tuple boot_tuple (pa_cons (pv 2) pa_nil)) (pa_cons (pe_op op_cat (pv 2) (pe_slice (r := rSlL K) sl_list (pv 2) po_none (po_some pe_int))) pa_nil)))))))))))
      (Evl.pss_cut (ps_expr (pe_bm PySem.F.plainAttrs_list PySem.F.slot_list_extend PySem.F.type_list_extend mt_extend (pv 3) (pa_cons (pe_lst (pa_cons
          (pe_lc (own := [("_law_k", 4)]) (g := gName 4) (tt := tYes) (by rfl) scBent.nd (pi_range1 (by rfl) T.range (pa_cons pe_int pa_nil)) (blkOk_by (N := nmBent) (sc := defScope sBent) (by decide +kernel))
              (fun _ _ _ _ _ => pg_name (i := 4) scBent.nd rfl (Or.inl rfl)) (fun _ _ _ _ _ => pts_nil) (fun _ _ _ _ _ => C8.pe_c cP hr (by decide) (by rfl) (pa_cons (pv 0) (pa_cons (pe_op op_cat (pv 1) (pe_lst (pa_cons pe_non pa_nil))) pa_nil))))
          (pa_cons pe_non (pa_cons pe_int (pa_cons pe_str (pa_cons pe_dnewK (pa_cons (pe_lst pa_nil) (pa_cons pe_bl (pa_cons (pe_glob (v := .ref fD) (by rfl) mD rfl) pa_nil))))))))) pa_nil)))
      (pss_one (ps_ret (C8.pe_c cP hr (by decide) (by rfl) (pa_cons (pv 0) (pa_cons (pv 3) pa_nil)))))), ?_⟩
    have neD : ∀ {p : Addr}, H p = none → p ≠ D0 := fun h z => by
      rw [z, hD0] at h
      cases h
    have hxl := sts_len hX
    have hgl := sts_len hD
    refine ⟨fun σ G => ∃ (L : Addr) (os : List V), σ = [some (.ref a), some (.ref g), some (.ref q), some (.ref L), none] ∧ Ex H G ∧ G L = some (.lst os) ∧ H L = none ∧ os.length = 9 ∧ ∀ o ∈ os, BtOk K (hid L L (h3 a b D0 G)) o, ?_, ?_⟩
    · have put : ∀ {G : Hp} {p : Addr} {o : HO}, Ex H G → G p = none → h3 a b D0 (upd G p o) p = some o := fun e h => by
        have h0 := fresh_back e h
        rw [h3_ne (hS.nea h0) (hS.neb h0) (neD h0)]
        exact upd_same
      have kX : ∀ {G : Hp}, Ex H G → DpAll K (h3 a b D0 G) xs (u.map stD) := fun e => dpa_ex (h3_mono e) _ _ hX
      have kq : ∀ {G : Hp}, Ex H G → G q = some (.lst xs) := fun e => e _ _ (hid_ex _ _ (h3_le _ _ hq))
      have bq : BtOk K (h3 a b D0 H) (.ref q) := bt_wk hq hX (by omega)
      refine ⟨_, rfl, _, rfl, _, rfl, q, _, rfl, SqL.of (kq (Ex.refl H)), fun w1 hw1 => ?_⟩
      rw [cut_1]
      have y1 := Ex.new (o := .lst (xs.drop 1)) hw1
      have b1 : BtOk K (h3 a b D0 (upd H w1 (.lst (xs.drop 1)))) (.ref w1) := bt_wk (u := u.drop 1) (put (Ex.refl H) hw1) (by rw [List.map_drop]; exact dpa_drop 1 (kX y1)) (by rw [List.length_drop]; omega)
      have bq1 := bq.ex (h3_mono y1)
      generalize upd H w1 (.lst (xs.drop 1)) = G1 at y1 b1 bq1 ⊢
      refine ⟨_, rfl, _, rfl, _, rfl, q, _, rfl, SqL.of (kq y1), fun w2 hw2 => ?_⟩
      rw [cut_init]
      have z2 := Ex.new (o := .lst (xs.take (xs.length - 1))) hw2
      have y2 := y1.trans z2
      have b2 : BtOk K (h3 a b D0 (upd G1 w2 (.lst (xs.take (xs.length - 1))))) (.ref w2) := bt_wk (u := u.take (xs.length - 1)) (put y1 hw2) (by rw [List.map_take]; exact dpa_take _ (kX y2)) (by rw [List.length_take]; omega)
      have bq2 := bq1.ex (h3_mono z2)
      have b12 := b1.ex (h3_mono z2)
      generalize upd G1 w2 (.lst (xs.take (xs.length - 1))) = G2 at y2 b2 bq2 b12 ⊢
      refine ⟨_, rfl, _, rfl, q, q, _, _, rfl, rfl, kq y2, kq y2, sz_le (by omega), fun w3 hw3 => ?_⟩
      have z3 := Ex.new (o := .lst (xs ++ xs)) hw3
      have y3 := y2.trans z3
      have b3 : BtOk K (h3 a b D0 (upd G2 w3 (.lst (xs ++ xs)))) (.ref w3) := bt_wk (u := u ++ u) (put y2 hw3) (by rw [List.map_append]; exact dpa_app (kX y3) (kX y3)) (by rw [List.length_append]; omega)
      have bq3 := bq2.ex (h3_mono z3)
      have b13 := b12.ex (h3_mono z3)
      have b23 := b2.ex (h3_mono z3)
      generalize upd G2 w3 (.lst (xs ++ xs)) = G3 at y3 b3 bq3 b13 b23 ⊢
      refine ⟨_, rfl, _, rfl, _, rfl, rfl, q, _, rfl, SqL.of (kq y3), fun w4 hw4 => ?_⟩
      have z4 := Ex.new (o := .lst xs.reverse) hw4
      have y4 := y3.trans z4
      have b4 : BtOk K (h3 a b D0 (upd G3 w4 (.lst xs.reverse))) (.ref w4) := bt_wk (u := u.reverse) (put y3 hw4) (by rw [List.map_reverse]; exact dpa_rev (kX y4)) (by rw [List.length_reverse]; omega)
      have bq4 := bq3.ex (h3_mono z4)
      have b14 := b13.ex (h3_mono z4)
      have b24 := b23.ex (h3_mono z4)
      have b34 := b3.ex (h3_mono z4)
      generalize upd G3 w4 (.lst xs.reverse) = G4 at y4 b4 bq4 b14 b24 b34 ⊢
      refine ⟨_, rfl, by show 1 ≤ sizeLine; decide, fun n1 hn1 => ?_⟩
      have z5 := Ex.new (o := .lst [V.non]) hn1
      have y5 := y4.trans z5
      have j5 : upd G4 n1 (.lst [V.non]) n1 = some (.lst [V.non]) := upd_same
      generalize upd G4 n1 (.lst [V.non]) = G5 at z5 y5 j5 ⊢
      refine ⟨q, n1, _, _, rfl, rfl, kq y5, j5, sz_le (by show _ + 1 ≤ _; omega), fun w5 hw5 => ?_⟩
      have z6 := Ex.new (o := .lst (xs ++ [V.non])) hw5
      have y6 := y5.trans z6
      have b6 : BtOk K (h3 a b D0 (upd G5 w5 (.lst (xs ++ [V.non])))) (.ref w5) := bt_lst (ds := u.map stD ++ [.none]) (put y5 hw5) (dpa_app (kX y6) (.cons .non .nil)) (by rw [dokA_app, dok_sts]; rfl) (by have := stDs_depth u; rw [depA_app]; show max _ 0 ≤ 3; omega) (by rw [cntA_app, cnt_sts]; show _ + 1 ≤ _; omega)
      have z46 := z5.trans z6
      have bq6 := bq4.ex (h3_mono z46)
      have b16 := b14.ex (h3_mono z46)
      have b26 := b24.ex (h3_mono z46)
      have b36 := b34.ex (h3_mono z46)
      have b46 := b4.ex (h3_mono z46)
      generalize upd G5 w5 (.lst (xs ++ [V.non])) = G6 at y6 b6 bq6 b16 b26 b36 b46 ⊢
      refine ⟨_, rfl, by show 1 ≤ sizeLine; decide, fun w6 hw6 => ?_⟩
      have z7 := Ex.new (o := .lst [V.ref q]) hw6
      have y7 := y6.trans z7
      have b7 : BtOk K (h3 a b D0 (upd G6 w6 (.lst [V.ref q]))) (.ref w6) := bt_lst (ds := [wkD u]) (put y6 hw6) (.cons (.lst (SqL.of (h3_mono y7 _ _ hq)) (kX y7)) .nil) (by
          show (dOk (.list (u.map stD)) && true) = true
          show ((decide ((u.map stD).length ≤ 1000000) && dOkA (u.map stD)) && true) = true
          rw [dok_sts, List.length_map, decide_eq_true (by omega)]
          rfl) (by have := stDs_depth u; show max (PyData.depthAll (u.map stD) + 1) 0 ≤ 3; omega) (by show cntA (u.map stD) + 1 + 0 ≤ 400; rw [cnt_sts]; omega)
      have bq7 := bq6.ex (h3_mono z7)
      have b17 := b16.ex (h3_mono z7)
      have b27 := b26.ex (h3_mono z7)
      have b37 := b36.ex (h3_mono z7)
      have b47 := b46.ex (h3_mono z7)
      have b67 := b6.ex (h3_mono z7)
      generalize upd G6 w6 (.lst [V.ref q]) = G7 at y7 b7 bq7 b17 b27 b37 b47 b67 ⊢
      refine ⟨_, rfl, q, xs, rfl, .inl ⟨SqL.of (kq y7), fun w7 hw7 => ?_⟩⟩
      have z8 := Ex.new (o := .tup xs) hw7
      have y8 := y7.trans z8
      have b8 : BtOk K (h3 a b D0 (upd G7 w7 (.tup xs))) (.ref w7) := bt_tup (put y7 hw7) (kX y8) (dok_sts u) (by have := stDs_depth u; omega) (by rw [cnt_sts]; omega)
      have bq8 := bq7.ex (h3_mono z8)
      have b18 := b17.ex (h3_mono z8)
      have b28 := b27.ex (h3_mono z8)
      have b38 := b37.ex (h3_mono z8)
      have b48 := b47.ex (h3_mono z8)
      have b68 := b67.ex (h3_mono z8)
      have b78 := b7.ex (h3_mono z8)
      generalize upd G7 w7 (.tup xs) = G8 at y8 b8 bq8 b18 b28 b38 b48 b68 b78 ⊢
      refine ⟨_, rfl, _, rfl, _, rfl, q, _, rfl, SqL.of (kq y8), fun s1 hs1 => ?_⟩
      rw [cut_t1]
      have z9 := Ex.new (o := .lst (xs.take 1)) hs1
      have y9 := y8.trans z9
      have j9 : upd G8 s1 (.lst (xs.take 1)) s1 = some (.lst (xs.take 1)) := upd_same
      generalize upd G8 s1 (.lst (xs.take 1)) = G9 at z9 y9 j9 ⊢
      refine ⟨q, s1, _, _, rfl, rfl, kq y9, j9, sz_le (by rw [List.length_take]; omega), fun w8 hw8 => ?_⟩
      have za := Ex.new (o := .lst (xs ++ xs.take 1)) hw8
      have ya := y9.trans za
      have ba : BtOk K (h3 a b D0 (upd G9 w8 (.lst (xs ++ xs.take 1)))) (.ref w8) := bt_wk (u := u ++ u.take 1) (put y9 hw8) (by rw [List.map_append, List.map_take]; exact dpa_app (kX ya) (dpa_take 1 (kX ya))) (by rw [List.length_append, List.length_take]; omega)
      have z8a := z9.trans za
      generalize upd G9 w8 (.lst (xs ++ xs.take 1)) = Ga at za z8a ya ba ⊢
      refine ⟨by show 9 ≤ sizeLine; decide, fun L hL => ?_⟩
      have L0 := fresh_back ya hL
      have La := hS.nea L0
      have Lb := hS.neb L0
      refine ⟨L, _, rfl, ya.trans (Ex.new hL), upd_same, L0, rfl, fun o ho => ?_⟩
      have eL : Ex (h3 a b D0 Ga) (hid L L (h3 a b D0 (upd Ga L (.lst [V.ref q, V.ref w1, V.ref w2, V.ref w3, V.ref w4, V.ref w5, V.ref w6, V.ref w7, V.ref w8])))) := gh_ex (hid_none (hid_none hL)) (h3_mono (Ex.new hL))
      have e8 := (h3_mono (a := a) (b := b) (D := D0) z8a).trans eL
      simp only [List.mem_cons, List.not_mem_nil, or_false] at ho
      rcases ho with rfl | rfl | rfl | rfl | rfl | rfl | rfl | rfl | rfl
      · exact bq8.ex e8
      · exact b18.ex e8
      · exact b28.ex e8
      · exact b38.ex e8
      · exact b48.ex e8
      · exact b68.ex e8
      · exact b78.ex e8
      · exact b8.ex e8
      · exact ba.ex eL
    rintro σ G1 ⟨L, os, rfl, e1, hL1, L0, hol, hos⟩
    have La := hS.nea L0
    have Lb := hS.neb L0
    have LD := neD L0
    have S1 := hS.ex e1
    refine ⟨fun σ G => ∃ os : List V, σ = [some (.ref a), some (.ref g), some (.ref q), some (.ref L), none] ∧ ExS a b H G ∧ SAt G a b (n + 3) ∧ G L = some (.lst os) ∧ 0 < os.length ∧ os.length ≤ 20 ∧ ∀ o ∈ os, BtOk K (hid L L (h3 a b D0 G)) o, ?_, ?_⟩
    · refine ⟨_, rfl, .inl ⟨rfl, _, SqL.of hL1⟩, 3, rfl, by decide, by decide, fun D hD0' => ?_⟩
      have Da := S1.nea hD0'
      have Db := S1.neb hD0'
      have DL : D ≠ L := fun z => by
        rw [z, hL1] at hD0'
        cases hD0'
      have S1D := S1.upd (o := .lst []) Da Db
      refine lc_range (lo := 0) (n := (3 : Int).toNat) (fun i G => ExS a b G1 G ∧ SAt G a b (n + i) ∧ ∃ acc : List V, G D = some (.lst acc) ∧ acc.length = i ∧ ∀ y ∈ acc, y ∈ us ++ [V.non]) ⟨ExS.own ExS.rfl hD0' Da Db, S1D, [], upd_same, rfl, fun y hy => absurd hy (by simp)⟩ ?_ ?_
      · rintro i G hi ⟨q1, q2, acc, q3, q4, q5⟩
        have hi3 : i < 3 := hi
        have e0 : ExS a b H G := (hid_mono (a := a) (b := b) e1).trans q1
        refine ⟨rfl, ?_⟩
        refine ⟨_, rfl, _, rfl, by show 1 ≤ sizeLine; decide, fun n1 hn1 => ?_⟩
        have z1 := Ex.new (o := .lst [V.non]) hn1
        have j1 : upd G n1 (.lst [V.non]) n1 = some (.lst [V.non]) := upd_same
        generalize upd G n1 (.lst [V.non]) = G2 at z1 j1 ⊢
        have eg2 : hid a b G2 g = some (.lst us) := hid_mono z1 _ _ (e0 _ _ (h3_le _ _ hg))
        refine ⟨g, n1, _, _, rfl, rfl, hid_ex _ _ eg2, j1, sz_le (by show _ + 1 ≤ _; omega), fun t ht => ?_⟩
        have z2 := Ex.new (o := .lst (us ++ [V.non])) ht
        have ta := (q2.ex z1).nea ht
        have tb := (q2.ex z1).neb ht
        have j2 : hid a b (upd G2 t (.lst (us ++ [V.non]))) t = some (.lst (us ++ [V.non])) := by
          rw [hid_ne ta tb]
          exact upd_same
        have z12 := z1.trans z2
        generalize upd G2 t (.lst (us ++ [V.non])) = G3 at z12 j2 ⊢
        refine ⟨a, b, n + i, t, us ++ [V.non], rfl, q2.ex z12, by omega, SqL.of j2, by rw [List.length_append]; exact Nat.succ_pos _, by rw [List.length_append]; show _ + 1 < _; omega, fun G4 j x e4 s4 hx => ?_⟩
        have e14 : ExS a b G G4 := (hid_mono (a := a) (b := b) z12).trans e4
        refine ⟨acc, e14.at q3 Da Db, by rw [q4]; exact sz_m (by omega), ?_, ?_, acc ++ [x], upd_same, by rw [List.length_append, q4]; rfl, fun y hy => ?_⟩
        · exact ExS.own (q1.trans e14) hD0' Da Db
        · exact s4.upd Da Db
        · rcases List.mem_append.mp hy with hy | hy
          · exact q5 y hy
          · obtain rfl := List.mem_singleton.mp hy
            exact mem_of_get hx
      · rintro G ⟨q1, q2, acc, q3, q4, q5⟩
        have q4 : acc.length = 3 := q4
        have e0 : ExS a b H G := (hid_mono (a := a) (b := b) e1).trans q1
        have S3 : SAt G a b (n + 3) := q2
        refine fun d5 hd5 => ⟨Nat.zero_le _, fun l5 hl5 => ⟨by show 8 ≤ sizeLine; decide, fun u5 hu5 => ?_⟩⟩
        have y1 := Ex.new (o := .dK []) hd5
        have j1 : upd G d5 (.dK []) d5 = some (.dK []) := upd_same
        have j1h : h3 a b D0 (upd G d5 (.dK [])) d5 = some (.dK []) := by
          rw [h3_ne (S3.nea hd5) (S3.neb hd5) (neD (e0.back S3 hd5))]
          exact upd_same
        generalize upd G d5 (.dK []) = A1 at y1 j1 j1h hl5 hu5 ⊢
        have y2 := Ex.new (o := .lst []) hl5
        have j2h : h3 a b D0 (upd A1 l5 (.lst [])) l5 = some (.lst []) := by
          rw [h3_ne ((S3.ex y1).nea hl5) ((S3.ex y1).neb hl5) (neD (e0.back S3 (fresh_back y1 hl5)))]
          exact upd_same
        generalize upd A1 l5 (.lst []) = A2 at y2 j2h hu5 ⊢
        generalize hNs : ([V.ref D, V.non, V.int 5, V.str "ab", V.ref d5, V.ref l5, V.bl true, V.ref fD] : List V) = Ns
        have y3 := Ex.new (o := .lst Ns) hu5
        have y12 := y1.trans y2
        have y123 := y12.trans y3
        have hLG : G L = some (.lst os) := q1.at hL1 La Lb
        have hL3 : upd A2 u5 (.lst Ns) L = some (.lst os) := y123 _ _ hLG
        have S5 := S3.ex y123
        have nl : Ns.length = 8 := by rw [← hNs]; rfl
        refine ⟨L, u5, os, Ns, rfl, rfl, hL3, upd_same, by rw [hol, nl]; decide, os ++ Ns, rfl, ?_, ?_, upd_same, by rw [List.length_append, nl]; omega, by rw [List.length_append, nl, hol]; decide, fun o ho => ?_⟩
        · exact ExS.own (e0.trans (hid_mono (a := a) (b := b) y123)) L0 La Lb
        · exact S5.upd La Lb
        · rw [show hid L L (h3 a b D0 (upd (upd A2 u5 (.lst Ns)) L (.lst (os ++ Ns)))) = hid L L (h3 a b D0 (upd A2 u5 (.lst Ns))) from by unfold h3; rw [hid_upd La Lb, hid_upd LD LD, hid_upda]]
          rcases List.mem_append.mp ho with ho | ho
          · exact (hos o ho).ex (hid_mono (h3_S (q1.trans (hid_mono (a := a) (b := b) y123))))
          · have ne : ∀ {p : Addr} {X : Hp} {o : HO}, G p = none → h3 a b D0 X p = some o → hid L L (h3 a b D0 X) p = some o := fun {p X o} h0 h => by
              have pL : p ≠ L := fun z => by
                rw [z, hLG] at h0
                cases h0
              rw [hid_ne pL pL]
              exact h
            have eN : Ex (h3 a b D0 A2) (h3 a b D0 (upd A2 u5 (.lst Ns))) := h3_mono y3
            rw [← hNs] at ho
            simp only [List.mem_cons, List.not_mem_nil, or_false] at ho
            rcases ho with rfl | rfl | rfl | rfl | rfl | rfl | rfl | rfl
            · obtain ⟨ds, d1, d2, d3, d4⟩ := some_data hD acc q5
              have hDh : h3 a b D0 G D = some (.lst acc) := by
                rw [h3_ne Da Db (neD (fresh_back e1 hD0'))]
                exact q3
              have hDX : hid L L (h3 a b D0 (upd A2 u5 (.lst Ns))) D = some (.lst acc) := by
                rw [hid_ne DL DL]
                exact h3_mono y123 _ _ hDh
              refine bt_lst hDX (dpa_ex (fun z o hz => ?_) _ _ d1) d2 (by omega) (by rw [q4] at d4; omega)
              have zL : z ≠ L := fun e => by
                rw [e] at hz
                rw [hid_ex _ _ (h3_le _ _ hz)] at L0
                cases L0
              rw [hid_ne zL zL]
              exact h3_mono y123 _ _ (h3_S e0 _ _ hz)
            · exact .inr ⟨.none, .non, rfl, by decide, by decide⟩
            · exact .inr ⟨.int 5, .int 5, rfl, by decide, by decide⟩
            · exact .inr ⟨.str _, .str _, by decide +kernel, by show 0 ≤ 4; decide, by show 1 ≤ 500; decide⟩
            · exact .inl (lk_dict (ne hd5 (eN _ _ (h3_mono y2 _ _ j1h))))
            · exact bt_lst (ne (fresh_back y1 hl5) (eN _ _ j2h)) .nil rfl (by decide) (by decide)
            · exact .inr ⟨.bool true, .bl true, rfl, by decide, by decide⟩
            · exact .inl (lk_fnv vD)
    rintro σ G2 ⟨os2, rfl, e2, S2, hL2, hp2, hl2, hos2⟩
    have hLh : hid a b G2 L = some (.lst os2) := by
      rw [hid_ne La Lb]
      exact hL2
    refine ⟨_, rfl, _, rfl, a, b, n + 3, L, os2, rfl, S2, by omega, SqL.of hLh, hp2, by omega, fun G3 j x e3 s3 hx => ?_⟩
    exact k G3 x (e2.trans e3) s3 ((hos2 x (mem_of_get hx)).ex (hid_ex.trans (h3_S e3)))
end
end AA

set_option Elab.async false
set_option linter.all false
set_option maxRecDepth 100000
set_option maxHeartbeats 4000000
/-! try with several clauses, each 'as' the same name. -/
namespace AA
open PySem PySem.Spec PyProof.Rows L2
/-- behind a clause its name is gone -/
def clr (i : Nat) (D : Ends) : Ends := ⟨fun τ G => D.nx (τ.set i none) G, D.rt, fun τ G => D.bk (τ.set i none) G, fun τ G => D.ct (τ.set i none) G⟩
abbrev Cl := Value × (Addr → Value → Option Addr → TS)
/-- what the clauses wish, one after the other; slot i is the name's -/
def wAll (K : PySem.W.Frag) (i : Nat) (Wo : WX) (D : Ends) : List Cl → WX
  | [] => Wo
  | p :: r => fun cv dv τ G => ∃ hit, PySem.W.exmOne K cv p.1 = some hit ∧ (hit = true → ∀ ea, G ea = none → p.2 ea cv dv (clr i D) (τ.set i (some (.ref ea))) G) ∧ (hit = false → wAll K i Wo D r cv dv τ G)
inductive ClsOk (X : Cx) (nm : Str) : List ExceptHandler → List Cl → Prop
  | nil : ClsOk X nm [] []
  | cons {cn : Str} {cv : Value} {ts : Addr → Value → Option Addr → TS} {st : Stmt} {sts : List Stmt} {p1 p2 : Pos} {hs : List ExceptHandler} {l : List Cl} (nc : Names X cn cv)
      (su : ∀ (ea : Addr) (eo : Obj) (tv : Value) (dv : Option Addr) (pn : List (Addr × Obj)), Zc tv dv eo → (∃ vs, eo.data = .fields vs) → PSs (X.suite ea ((ea, eo) :: pn)) (st :: sts) (ts ea tv dv)) (more : ClsOk X nm hs l) :
      ClsOk X nm (.ExceptHandler (some (.Name cn p1)) (some nm) (st :: sts) p2 :: hs) ((cv, ts) :: l)
section
variable {X : Cx} {nm : Str} {i : Nat} {body : List Stmt} {h1 : ExceptHandler} {hr : List ExceptHandler} {l : List Cl} {pos : Pos} {tb : WX → TS} {Wo : WX}
theorem ps_tryAs (stk : X.stack = X.env :: X.outer) (frm : X.env.frame = some X.env.locals) (nod : X.N.Nodup) (at_ : X.N[i]? = some nm) (loc : X.env.kindOf nm = some .local) (tk : Takes X Wo)
    (bd : ∀ (W : WX) (pn : List (Addr × Obj)) (xe : Value → Shared → Prop), Takes (X.tr pn xe) W → PassesOwn (model X.prog X.w) X.A X.env xe → PSs (X.tr pn xe) body (tb W))
    (cs : ClsOk X nm (h1 :: hr) l) : PS X (.Try body (h1 :: hr) [] [] pos) (fun D τ G => tb (wAll X.K i Wo D l) D τ G) := by
  refine ⟨fun pins s τ G D I hh => ?_⟩
  have okX := I.ok
  have frs_ : X.A.frames = some (X.env :: X.outer) := okX.frames.trans (congrArg some stk)
  refine wpAny_Try_except (wpAny_mono ((bd (wAll X.K i Wo D l) (X.pn ++ pins) (fun e q1 => wpAny (model X.prog X.w) X.A (noteFrame e X.env) (fun _ q2 => wpAny (model X.prog X.w) X.A (setFlight e none) (fun _ q3 =>
    wpAny (model X.prog X.w) X.A (handleBy e X.env (h1 :: hr)) (SP X pins D) X.xe q3) X.xe q2) X.xe q1) (fun u z xx => ?catchIt) PassesOwn.looking).run [] s τ G D (I.toTry _) hh) (fun f z hz => ?through) (fun e z hz => hz))
  case through =>
    cases f with
    | next => exact let ⟨τ1, G1, J1, q⟩ := hz; wpAny_execs_nil ⟨τ1, G1, J1.ofTry okX, q⟩
    | brk => exact let ⟨τ1, G1, J1, q⟩ := hz; ⟨τ1, G1, J1.ofTry okX, q⟩
    | cont => exact let ⟨τ1, G1, J1, q⟩ := hz; ⟨τ1, G1, J1.ofTry okX, q⟩
    | ret v => exact let ⟨w1, τ1, G1, J1, r1, q⟩ := hz; ⟨w1, τ1, G1, J1.ofTry okX, r1, q⟩
  case catchIt =>
    obtain ⟨ea, gB, sJ, pinJ, τ1, G1, tv, dv, rfl, J0, nbl, upw, sky, fre, oss, agr, want⟩ := xx
    have J : Inv X pins τ1 G1 sJ := J0.ofTry okX
    have sky1 : Sky gB (X.env :: X.outer) ea (Zc tv dv) X.env.locals z.heap := stk ▸ sky
    show wpAny (model X.prog X.w) X.A (noteFrame (.ref ea) X.env) _ _ _
    refine Sky.land Zc.steady frs_ frm sky1 fun k3 fly3 up3 => ?_
    have J3 : Inv X pins τ1 G1 { z with heap := k3 } := J.landed nbl fly3.1 (upw.trans up3) oss agr
    obtain ⟨o3, v3, e3, z3, d3⟩ := fly3.there
    have nfr : ea ∉ frs (X.env :: X.outer) := fun hm => by
      obtain ⟨_, o', e', hnf⟩ := fly3.2.2.1.mem hm
      exact hnf _ ((Option.some.inj (e'.symm.trans e3)) ▸ d3)
    have nL : ea ≠ X.env.locals := fun q => nfr (List.mem_filterMap.mpr ⟨X.env, List.mem_cons_self, frm.trans (congrArg some q.symm)⟩)
    have nF : ea ∉ X.fs := fun hm => by
      obtain ⟨e, he, q⟩ := List.mem_filterMap.mp hm
      exact nfr (List.mem_filterMap.mpr ⟨e, List.mem_cons_of_mem _ he, q⟩)
    have S3 := J3.suite e3 d3 fre nL nF
    suffices go : ∀ {hs' : List ExceptHandler} {l' : List Cl}, ClsOk X nm hs' l' → wAll X.K i Wo D l' tv dv τ1 G1 → wpAny (model X.prog X.w) X.A (handleBy (.ref ea) X.env hs') (SP X pins D) X.xe { z with heap := k3 } from go cs want
    intro hs' l' ck
    induction ck with
    | nil =>
      intro wo
      refine wpAny_handleBy_nil ?_
      obtain ⟨_, _, _, o4, v4, T4, _, _, e4, _, d4, p4, _⟩ := id fly3
      unfold PySem.passOn
      refine wpAny_bind (wpAny_field e4 d4 p4 ?_)
      rw [if_neg (show ¬ ((Value.ref T4 == Value.none) = true) from by simp)]
      have fin : wpAny (model X.prog X.w) X.A (setFlight (.ref ea) X.env.frame) (fun _ q => wpAny (model X.prog X.w) X.A (throw (.ref ea) : Sem Flow) (SP X pins D) X.xe q) X.xe { z with heap := k3 } := by
        rw [frm]
        exact HandSPX.setFlight_upZ fly3 fun k5 held5 up5 => wpAny_throw (tk _ _ ⟨ea, gB, sJ, pins, τ1, G1, tv, dv, rfl, J, nbl, (upw.trans up3).trans up5, .inr (.inr (stk ▸ held5)), fre, oss, agr, wo⟩)
      first
        | exact wpAny_bind (wpAny_pure (wpAny_bind fin))
        | exact wpAny_bind fin
    | @cons cn cv ts st sts p1 p2 hs2 l2 nc su more ih =>
      rintro ⟨hit, hx, yes, no⟩
      refine wpAny_handleBy_cons (codeAny_handlers_test ?_) (by intro q; cases q)
      have LT : PySem.W.Looks (model X.prog X.w) k3 (typeOf (.ref ea)) tv := fun A Q E s k q => wpAny_typeOf_ref (k _ _ e3) (z3.1 ▸ q)
      have test : ∀ {Q : Value → Shared → Prop} {E : Value → Shared → Prop}, Q cv { z with heap := k3 } → wpAny (model X.prog X.w) (X.A.mark (some (.ref ea))) (eval (.Name cn p1) X.env) Q E { z with heap := k3 } := fun {Q E} q =>
        nc.2.2.elim (fun hm => ld_glob (X := X.suite ea ((ea, o3) :: (X.pn ++ pins))) S3 nc.1 hm q nc.2.1) (fun hm => ld_blt (X := X.suite ea ((ea, o3) :: (X.pn ++ pins))) S3 nc.1 hm.1 hm.2.1 q hm.2.2 nc.2.1)
      refine test ((PySem.W.exm_one (M := model X.prog X.w) J3.kIn LT hx).here ?_)
      cases hit with
      | false => exact ih (no rfl)
      | true =>
        refine codeAny_handlers_suite_as (HandSPX.lands_againZ fly3 fun k4 fly4 up4 => ?_)
        have J4 : Inv X pins τ1 G1 { z with heap := k4 } := J.landed nbl fly4.1 ((upw.trans up3).trans up4) oss agr
        obtain ⟨o4, v4, e4, z4, d4⟩ := fly4.there
        refine store_ok (X := X.suite ea ((ea, o4) :: (X.pn ++ pins))) (v := .ref ea) (J4.suite e4 d4 fre nL nF) nod at_ (.inl loc) rfl (fun q5 S5 => ?_) (.inr loc)
        refine wpAny_mono ((su ea o4 tv dv (X.pn ++ pins) z4 ⟨_, d4⟩).run [] q5 _ G1 _ S5 (yes rfl ea fre)) (fun f q6 h6 => ?_) (fun _ _ q => False.elim q)
        have end_ : ∀ {τ6 : L2.St} {G6 : Hp} {Q : Shared → Prop}, Inv (X.suite ea ((ea, o4) :: (X.pn ++ pins))) [] τ6 G6 q6 → (∀ q7, Inv X pins (τ6.set i none) G6 q7 → Q q7) →
            wpAny (model X.prog X.w) X.A (do bindName X.env nm .none; unbindBehindTheSuite X.env nm p2) (fun _ q7 => Q q7) X.xe q6 := fun S6 hq => gone_ok (S6.unsuite okX) nod at_ loc hq
        cases f with
        | next => exact let ⟨_, _, S6, h7⟩ := h6; end_ S6 fun q7 J7 => ⟨_, _, J7, h7⟩
        | brk => exact let ⟨_, _, S6, h7⟩ := h6; end_ S6 fun q7 J7 => ⟨_, _, J7, h7⟩
        | cont => exact let ⟨_, _, S6, h7⟩ := h6; end_ S6 fun q7 J7 => ⟨_, _, J7, h7⟩
        | ret u => exact let ⟨_, _, _, S6, r6, h7⟩ := h6; end_ S6 fun q7 J7 => ⟨_, _, _, J7, r6, h7⟩
end
end AA

set_option Elab.async false
set_option linter.all false
set_option maxRecDepth 100000
set_option maxHeartbeats 4000000
/-! Parts made, the stream and the tables, _law_tried. -/
namespace AA
open PySem PySem.Spec PyProof.Rows L2 Evl LamX
theorem sqt_hidp {G : Hp} {K : PySem.W.Frag} {p t : Addr} {vs xs : List V} (hp : G p = some (.lst vs)) (h : SqT K G t xs) : SqT K (hid p p G) t xs := by
  rcases h with h | h
  · refine .inl ?_
    rcases h with h | ⟨u, h⟩
    · have tp : t ≠ p := fun z => by rw [z, hp] at h; cases h
      exact .inl (gh_ne tp h)
    · have tp : t ≠ p := fun z => by rw [z, hp] at h; cases h
      exact .inr ⟨u, gh_ne tp h⟩
  · exact .inr h
theorem sts_hidp {G : Hp} {K : PySem.W.Frag} {p : Addr} {us : List V} (hp : G p = some (.lst us)) : ∀ {vs : List V} {ss : List St5}, DpAll K G vs (ss.map stD) → DpAll K (hid p p G) vs (ss.map stD)
  | [], [], _ => .nil
  | v :: vs, s :: ss, h => by
    cases h with
    | cons h1 h2 =>
      obtain ⟨t, u, rfl, h3, h4⟩ := stD_inv h1
      exact .cons (stD_mk (sqt_hidp hp h3) (sqt_hidp hp h4)) (sts_hidp hp h2)
  | [], _ :: _, h => by cases h
  | _ :: _, [], h => by cases h
theorem WebL.hidp {K : PySem.W.Frag} {C : Addr} {G : Hp} {x lw p : Addr} {n : Int} {ss : List St5} {vs : List V} (h : WebL K C G x lw n ss) (hp : G p = some (.lst vs)) (pl : p ≠ lw) : WebL K C (hid p p G) x lw n ss := by
  obtain ⟨dx, kd, ys, h1, h2, h3⟩ := h
  have px : x ≠ p := fun z => by
    rw [z, hp] at h1
    cases h1
  exact ⟨dx, kd, ys, gh_ne px h1, gh_ne pl.symm h2, sts_hidp hp h3⟩
theorem WebL.hidS {K : PySem.W.Frag} {C : Addr} {G : Hp} {x lw a b : Addr} {m : Nat} {n : Int} {ss : List St5} (h : WebL K C G x lw n ss) (S : SAt G a b m) (xa : x ≠ a) (xb : x ≠ b) (la : lw ≠ a) (lb : lw ≠ b) : WebL K C (hid a b G) x lw n ss := by
  obtain ⟨dx, kd, ys, h1, h2, h3⟩ := h
  exact ⟨dx, kd, ys, by rw [hid_ne xa xb]; exact h1, by rw [hid_ne la lb]; exact h2, sts_hid S h3⟩
theorem eqv_nil_sts : ∀ ss : List St5, PyData.eqv (.list (ss.map stD)) (.list []) = ss.isEmpty
  | [] => rfl
  | _ :: _ => rfl
def spPtI0 (K : PySem.W.Frag) (CW C CP CS CI CO : Addr) : Sp := fun vs H Q _ => spPtInit K CW C CP CS CI CO vs H Q E0
/-- all that is known of the class of parts -/
structure PtK (P : Program) (w : World) (K : PySem.W.Frag) (mg : Str → Option Value) (base : Heap) (CW C CP CS CI CO fI fW fN fO fE : Addr) (fdI fdW fdN fdO fdE : FuncData) : Prop where
  T : PtTxt K mg C
  M : Mk K C fI
  GI : FnOk P w K mg base CX0 7 fI fdI ["self", "places", "steps", "ins", "outs"] (spPtI0 K CW C CP CS CI CO)
  bI : Binds K fdI ["self", "places", "steps", "ins", "outs"] []
  GW : FnOk P w K mg base CX0 1 fW fdW ["self"] (spPWeb K CW C)
  bW : Binds K fdW ["self"] []
  mW : Meth K C "web" fW
  GN : FnOk P w K mg base CX0 1 fN fdN ["self"] (spPIns K CW C)
  bN : Binds K fdN ["self"] []
  mN : Meth K C "ins" fN
  GO : FnOk P w K mg base CX0 1 fO fdO ["self"] (spPOuts K CW C)
  bO : Binds K fdO ["self"] []
  mO : Meth K C "outs" fO
  GE : FnOk P w K mg base CX0 2 fE fdE ["self", "other"] (spPEq K CW C)
  bE : Binds K fdE ["self", "other"] []
  hE : PySem.W.findIn K (.ref C) "__eq__" = some (some (.ref fE))
  iE : PySem.W.isFn K (.ref fE) = true
  hN : PySem.W.findIn K (.ref C) "__ne__" = some (some (.builtin "object.__ne__"))
  hm : PySem.W.mroIn K C (.type "object") = some true
section
variable {K : PySem.W.Frag}
theorem PtL.at {CW C : Addr} {H : Hp} {x wb lw li lo : Addr} {n : Int} {ss : List St5} {is os : List Int} (h : PtL K CW C H x wb lw li lo n ss is os) : PtAt K CW C H x n ss is os := ⟨_, _, _, _, h⟩
theorem PtL.up {CW C p : Addr} {H : Hp} {x wb lw li lo : Addr} {n : Int} {ss : List St5} {is os : List Int} {vs : List V} {o : HO} (h : PtL K CW C H x wb lw li lo n ss is os) (hp : H p = some (.lst vs)) (h1 : p ≠ lw) (h2 : p ≠ li) (h3 : p ≠ lo) : PtL K CW C (upd H p o) x wb lw li lo n ss is os := by
  obtain ⟨⟨dx, kd, q⟩, hw, hi, hu⟩ := h
  have px : x ≠ p := fun z => by
    rw [z, hp] at q
    cases q
  exact ⟨⟨dx, kd, by rw [upd_ne px]; exact q⟩, hw.up hp h1, by rw [upd_ne h2.symm]; exact hi, by rw [upd_ne h3.symm]; exact hu⟩
theorem PtL.hidp {CW C p : Addr} {G : Hp} {x wb lw li lo : Addr} {n : Int} {ss : List St5} {is os : List Int} {vs : List V} (h : PtL K CW C G x wb lw li lo n ss is os) (hp : G p = some (.lst vs)) (h1 : p ≠ lw) (h2 : p ≠ li) (h3 : p ≠ lo) : PtL K CW C (hid p p G) x wb lw li lo n ss is os := by
  obtain ⟨⟨dx, kd, q⟩, hw, hi, hu⟩ := h
  have px : x ≠ p := fun z => by
    rw [z, hp] at q
    cases q
  exact ⟨⟨dx, kd, gh_ne px q⟩, hw.hidp hp h1, gh_ne h2.symm hi, gh_ne h3.symm hu⟩
/-- five addresses that are none of the stream's -/
structure Off (a b x wb lw li lo : Addr) : Prop where
  x : x ≠ a ∧ x ≠ b
  w : wb ≠ a ∧ wb ≠ b
  l : lw ≠ a ∧ lw ≠ b
  i : li ≠ a ∧ li ≠ b
  u : lo ≠ a ∧ lo ≠ b
theorem PtL.hidS {CW C : Addr} {G : Hp} {x wb lw li lo a b : Addr} {m : Nat} {n : Int} {ss : List St5} {is os : List Int} (h : PtL K CW C G x wb lw li lo n ss is os) (S : SAt G a b m) (f : Off a b x wb lw li lo) : PtL K CW C (hid a b G) x wb lw li lo n ss is os := by
  obtain ⟨⟨dx, kd, q⟩, hw, hi, hu⟩ := h
  exact ⟨⟨dx, kd, by rw [hid_ne f.x.1 f.x.2]; exact q⟩, hw.hidS S f.w.1 f.w.2 f.l.1 f.l.2, by rw [hid_ne f.i.1 f.i.2]; exact hi, by rw [hid_ne f.u.1 f.u.2]; exact hu⟩
theorem off_of {G : Hp} {x wb lw li lo a b : Addr} {m : Nat} (S : SAt G a b m) (h1 : G x = none) (h2 : G wb = none) (h3 : G lw = none) (h4 : G li = none) (h5 : G lo = none) : Off a b x wb lw li lo := ⟨⟨S.nea h1, S.neb h1⟩, ⟨S.nea h2, S.neb h2⟩, ⟨S.nea h3, S.neb h3⟩, ⟨S.nea h4, S.neb h4⟩, ⟨S.nea h5, S.neb h5⟩⟩
theorem up_none {H : Hp} {p x dx : Addr} {o o' : HO} (h : upd (upd H dx o) x o' p = none) : H p = none := by
  by_cases q1 : p = x
  · rw [q1, upd_same] at h
    cases h
  · rw [upd_ne q1] at h
    by_cases q2 : p = dx
    · rw [q2, upd_same] at h
      cases h
    · rw [upd_ne q2] at h
      exact h
theorem dr_arg {n : Int} {G : Hp} {a : Addr} {is tk : List Int} {B : Nat → Prop} {Gd : List Int → Prop} (h : SqA K G a (is.map V.int)) (hl : is.length ≤ 1000) (nd : is.Nodup) (hr : ∀ i ∈ is, 0 ≤ i ∧ i < n ∧ i ∉ tk) (ne : is ≠ []) (k : Gd is) : DrArg K n G (.ref a) tk B Gd :=
  .inr ⟨a, _, rfl, h, .inr ⟨is, hl, nd, hr, .inl ⟨rfl, ne, k⟩⟩⟩
theorem DrOk.iArg {n : Int} {is os : List Int} (h : DrOk n is os) : ∀ i ∈ is, 0 ≤ i ∧ i < n ∧ i ∉ ([] : List Int) := fun i hi => ⟨(h.rg i (List.mem_append_left _ hi)).1, (h.rg i (List.mem_append_left _ hi)).2, by simp⟩
theorem DrOk.oArg {n : Int} {is os : List Int} (h : DrOk n is os) : ∀ i ∈ os, 0 ≤ i ∧ i < n ∧ i ∉ is := fun i hi => ⟨(h.rg i (List.mem_append_right _ hi)).1, (h.rg i (List.mem_append_right _ hi)).2, fun z => (List.nodup_append.mp h.nd).2.2 i z i hi rfl⟩
/-- a part made of good things -/
theorem part_good {CW C CP CS CI CO x dx : Addr} {G : Hp} {n : Int} {ss : List St5} {xs : List V} {is os : List Int} {a ai ao : Addr} {Q : VK} (nx : G x = none) (ndx : G dx = none) (hn : 1 ≤ n) (hs : SqA K G a xs) (hr : RdAll K n G xs ss) (nd : ss.Nodup) (hz : ss.length ≤ 1000000) (hi : SqA K G ai (is.map V.int)) (ho : SqA K G ao (os.map V.int)) (hd : DrOk n is os)
    (k : ∀ (G' : Hp) (wb lw li lo : Addr) (ts : List St5), Ex G G' → PtL K CW C G' x wb lw li lo n ts is os → G wb = none → G lw = none → G li = none → G lo = none → ts.Perm ss → SrS ts → Q .non G') :
    spPtI0 K CW C CP CS CI CO [.ref x, .int n, .ref a, .ref ai, .ref ao] (upd (upd G dx (.own x)) x (.ins C dx [])) Q E0 := by
  have me := made_ex (o := .ins C dx []) nx ndx
  refine ⟨x, dx, .int n, .ref a, .ref ai, .ref ao, rfl, upd_same, .inr ⟨n, rfl, hn, .inr ⟨a, xs, ss, rfl, hs.ex me, nd, hz, .inl ⟨hr.ex me, ?_⟩⟩⟩⟩
  refine dr_arg (hi.ex me) (by have := hd.i2; omega) (List.nodup_append.mp hd.nd).1 hd.iArg hd.i1 ?_
  refine dr_arg (ho.ex me) (by have := hd.o2; omega) (List.nodup_append.mp hd.nd).2.1 hd.oArg hd.o1 ?_
  exact fun G' ts wb lw li lo e p h1 h2 h3 h4 pr so => k G' wb lw li lo ts (me.trans e) p (up_none h1) (up_none h2) (up_none h3) (up_none h4) pr so
end
section
variable {K : PySem.W.Frag}
/-! ### the stream and the tables stand -/
abbrev NXs (a b : Addr) (G G' : Hp) : Prop := Ex (nt (hid a b G)) (nt (hid a b G'))
theorem nxs_N {a b : Addr} {G G' : Hp} (e : LamX.ExtN G G') : NXs a b G G' := fun x o h => by
  obtain ⟨h1, h2⟩ := nt_some h
  obtain ⟨h3, h4, h5⟩ := hid_some h1
  exact nt_of (by rw [hid_ne h4 h5]; exact e _ _ h3 h2) h2
theorem sat_N {a b : Addr} {m : Nat} {G G' : Hp} (S : SAt G a b m) (e : LamX.ExtN G G') : SAt G' a b m := by
  obtain ⟨ns, c1, c2, c3, h1, h2, r⟩ := S
  exact ⟨ns, c1, c2, c3, e _ _ h1 (fun ps z => nomatch z), e _ _ h2 (fun ps z => nomatch z), r⟩
theorem tab_keep {T : List (Addr × Str)} {G G' : Hp} (t : LamX.Tabs T G) (e : ∀ x o, G x = some o → (∀ xs, o ≠ .lst xs) → G' x = some o) : LamX.Tabs T G' := fun p hp => by
  obtain ⟨ps, h1, h2, h3⟩ := t p hp
  refine ⟨ps, e _ _ h1 (fun xs z => nomatch z), h2, fun pos cv hc => ?_⟩
  obtain ⟨c, e1, e2⟩ := h3 pos cv hc
  exact ⟨c, e1, e _ _ e2 fun xs z => by
    unfold LamX.CodeO at z
    cases z⟩
theorem tabs_S {T : List (Addr × Str)} {a b : Addr} {m : Nat} {G G' : Hp} (t : LamX.Tabs T G) (S : SAt G a b m) (e : ExS a b G G') : LamX.Tabs T G' := tab_keep t fun x o h n => by
  obtain ⟨ns, c1, c2, c3, h1, h2, _⟩ := S
  exact e.at h (fun z => n _ (Option.some.inj (h.symm.trans (by rw [z]; exact h1)))) (fun z => n _ (Option.some.inj (h.symm.trans (by rw [z]; exact h2))))
theorem tabs_upd {T : List (Addr × Str)} {p : Addr} {G : Hp} {xs ys : List V} (t : LamX.Tabs T G) (hp : G p = some (.lst xs)) : LamX.Tabs T (upd G p (.lst ys)) := tab_keep t fun x o h n => by
  have : x ≠ p := fun z => n xs (Option.some.inj (h.symm.trans (by rw [z]; exact hp)))
  rw [upd_ne this]
  exact h
structure RS (T : List (Addr × Str)) (a b : Addr) (H : Hp) (m : Nat) (G : Hp) : Prop where
  e : NXs a b H G
  s : SAt G a b m
  t : LamX.Tabs T G
theorem RS.ex {T : List (Addr × Str)} {a b : Addr} {H G G' : Hp} {m : Nat} (r : RS T a b H m G) (e : Ex G G') : RS T a b H m G' := ⟨r.e.trans (nt_mono (hid_mono e)), r.s.ex e, r.t.ext e⟩
theorem RS.go {T : List (Addr × Str)} {a b : Addr} {H G G' : Hp} {m k : Nat} (r : RS T a b H m G) (e : ExS a b G G') (s : SAt G' a b k) : RS T a b H k G' := ⟨r.e.trans (nt_mono e), s, tabs_S r.t r.s e⟩
theorem RS.N {T : List (Addr × Str)} {a b : Addr} {H G G' : Hp} {m : Nat} (r : RS T a b H m G) (e : LamX.ExtN G G') (t : LamX.Tabs T G') : RS T a b H m G' := ⟨r.e.trans (nxs_N e), sat_N r.s e, t⟩
theorem RS.mut {T : List (Addr × Str)} {a b p : Addr} {H G : Hp} {m : Nat} {xs ys : List V} (r : RS T a b H m G) (hp : G p = some (.lst xs)) (fr : ∀ x o, nt (hid a b H) x = some o → x ≠ p) (pa : p ≠ a) (pb : p ≠ b) : RS T a b H m (upd G p (.lst ys)) :=
  ⟨fun x o h => by
    have n := fr x o h
    obtain ⟨h1, h2⟩ := nt_some (r.e _ _ h)
    refine nt_of ?_ h2
    rw [hid_upd pa pb, upd_ne n]
    exact h1, r.s.upd pa pb, tabs_upd r.t hp⟩
/-- what stands over the stream and beside the tables stands -/
theorem RS.at {T : List (Addr × Str)} {a b : Addr} {H G : Hp} {m : Nat} (r : RS T a b H m G) : Ex (nt (hid a b H)) G := r.e.trans (nt_le.trans hid_ex)
theorem tps_nt {H : Hp} : Ex (tps H) (nt (tps H)) := fun x o h => by
  obtain ⟨_, xs, rfl⟩ := tps_some h
  exact nt_of h fun ps z => nomatch z

end
theorem WebL.nt {K : PySem.W.Frag} {C : Addr} {G : Hp} {x lw : Addr} {n : Int} {ss : List St5} (h : WebL K C G x lw n ss) : WebL K C (AA.nt G) x lw n ss := by
  obtain ⟨dx, kd, ys, h1, h2, h3⟩ := h
  exact ⟨dx, kd, ys, nt_of h1 (fun ps z => nomatch z), nt_of h2 (fun ps z => nomatch z), dpa_nt _ _ h3⟩
theorem PtL.nt {K : PySem.W.Frag} {CW C : Addr} {G : Hp} {x wb lw li lo : Addr} {n : Int} {ss : List St5} {is os : List Int} (h : PtL K CW C G x wb lw li lo n ss is os) : PtL K CW C (AA.nt G) x wb lw li lo n ss is os :=
  ⟨let ⟨dx, kd, q⟩ := h.o; ⟨dx, kd, nt_of q fun ps z => nomatch z⟩, h.w.nt, nt_of h.i (fun ps z => nomatch z), nt_of h.u (fun ps z => nomatch z)⟩
/-- a def whose code object stands at c -/
structure FunC (K : PySem.W.Frag) (x : Str) (st : Stmt) (f : Addr) (fd : FuncData) (c : Addr) : Prop where
  ex : ∃ (oc : Value) (od : Option Addr) (kV doc pm : Value) (an : Option Addr) (ct : Value) (osl : Array (Option Value)), fd = PySem.W.fnOf x x (defArgs st) (defBody st) (defScope st) .none kV doc pm an (.ref c) ct ∧ K.lookup f = some ⟨oc, od, .func fd, osl⟩ ∧ PySem.W.codeIn K (.ref c) x = true
  kp : PySem.W.keepIn K (.ref f) = true

theorem takes_len {X : Cx} {W : WX} (tk : Takes X W) : Takes X (fun cv dv τ G => τ.length = X.N.length → W cv dv τ G) := fun u z ⟨a, B, sI, pins, τ, G, cv, dv, e, I, nb, up, sky, na, os, ag, w⟩ =>
  tk u z ⟨a, B, sI, pins, τ, G, cv, dv, e, I, nb, up, sky, na, os, ag, w I.len⟩
/-- how a lambda's exception is told -/
def TrE (CD CY : Addr) (Q : VK) : XK := fun cv dv G =>
  (cv = .ref CD ∧ ∃ dd v, dv = some dd ∧ G dd = some (.xd [(("number" : Str), v)]) ∧ ∀ p, G p = none → Q (.ref p) (upd G p (.tup [.str "door", v]))) ∨
  (cv = .ref CY ∧ ∃ dd v, dv = some dd ∧ G dd = some (.xd [(("index" : Str), v)]) ∧ ∀ p, G p = none → Q (.ref p) (upd G p (.tup [.str "ways", v])))
def TTried (CD CY : Addr) : (XK → Hp → VK → Prop) → Hp → VK → Prop := fun tl H Q => tl (TrE CD CY Q) H (fun v G => 2 ≤ sizeLine ∧ ∀ p, G p = none → Q (.ref p) (upd G p (.tup [.str "told", v])))
theorem scTried : FnScope ["_law_ask", "e"] ["_law_ask"] (defScope sTried) := ⟨rfl, rfl, rfl, by decide +kernel, rfl, by decide +kernel, by decide +kernel⟩
/-- which error is caught by which clause -/
structure ExmK (K : PySem.W.Frag) (CD CY : Addr) : Prop where
  dd : PySem.W.exmOne K (.ref CD) (.ref CD) = some true
  yd : PySem.W.exmOne K (.ref CY) (.ref CD) = some false
  yy : PySem.W.exmOne K (.ref CY) (.ref CY) = some true
theorem tried_gives {X : Cx} {q : Str} {g CD CY fD fY : Addr} {cdg : Value} (TD : ExT X.K X.mg "BadDoor" "number" CD fD) (TY : ExT X.K X.mg "BadWays" "index" CY fY) (k : ExmK X.K CD CY) :
    GivesTo X ["_law_ask", "e"] "_law_tried" (defScope sTried) g cdg (defBody sTried) "_law_ask" q (TTried CD CY) := by
  intro f c' s H Q tl act hc h
  refine ⟨_, pss_one (ps_tryAs (X := (cxOf C8.CX0 X.prog X.w X.K X.mg X.base ["_law_ask", "e"] "_law_tried" (defScope sTried) g cdg X.A X.stack s H C8.E0).nox) (i := 1) (nm := "e") (Wo := fun _ _ _ _ => False)
      (l := [(.ref CD, fun a cls d => tRet (tTup (tCons (tC (.str "door")) (tCons (tXf a cls d CD "number" (tVar 1)) tNil)))), (.ref CY, fun a cls d => tRet (tTup (tCons (tC (.str "ways")) (tCons (tXf a cls d CY "index" (tVar 1)) tNil))))])
      (tb := fun W D σ H => ∃ Ech : XK, (∀ cls d σ' H', Ech cls d H' → σ'.length = 2 → W cls d σ' H') ∧ σ[0]? = some (some (.ref f)) ∧ H c' = some (CodeO c' q) ∧ tl Ech H (fun v G => 2 ≤ sizeLine ∧ ∀ p, G p = none → D.rt (.ref p) (upd G p (.tup [.str "told", v]))))
      rfl rfl scTried.nd rfl rfl L2.takes0 (fun W pn xe tk _ => ?_)
      (.cons ⟨rfl, by decide, .inl TD.gC⟩ (fun a oe cls d pn hz hf => pss_one (ps_ret (by exact (pe_tup (pa_cons pe_str (pa_cons (pe_xf TD.xf TD.no hz hf (pv 1)) pa_nil))))))
        (.cons ⟨rfl, by decide, .inl TY.gC⟩ (fun a oe cls d pn hz hf => pss_one (ps_ret (by exact (pe_tup (pa_cons pe_str (pa_cons (pe_xf TY.xf TY.no hz hf (pv 1)) pa_nil)))))) .nil))), ?_⟩
  · refine ⟨fun pins s' σ H' D I h' => ?_⟩
    obtain ⟨Ech, hW, h1, h2, h3⟩ := h'
    refine PSs.run (t := tRet (tTup (tCons (tC (.str "told")) (tCons (fun σZ HZ Q => σZ[0]? = some (some (.ref f)) ∧ HZ c' = some (CodeO c' q) ∧ tl Ech HZ Q) tNil)))) ?_ pins s' σ H' D I ⟨h1, h2, h3⟩
    exact pss_one (ps_ret (pe_tup (pa_cons pe_str (pa_cons (act _ pn xe Ech _ _ (takes_len tk) hW) pa_nil))))
  · refine ⟨TrE CD CY Q, fun cv dv σ' G hE hl => ?_, rfl, hc, h⟩
    obtain ⟨x0, x1, rfl⟩ : ∃ x0 x1, σ' = [x0, x1] := two_ofl hl
    rcases hE with ⟨rfl, dd, v, rfl, hx, kq⟩ | ⟨rfl, dd, v, rfl, hx, kq⟩
    · refine ⟨true, k.dd, fun _ ea hea => ?_, fun z => nomatch z⟩
      exact ⟨_, rfl, rfl, rfl, dd, _, v, rfl, hx, rfl, by show 2 ≤ sizeLine; decide, fun p hp => kq p hp⟩
    · refine ⟨false, k.yd, (fun z => nomatch z), fun _ => ⟨true, k.yy, fun _ ea hea => ?_, fun z => nomatch z⟩⟩
      exact ⟨_, rfl, rfl, rfl, dd, _, v, rfl, hx, rfl, by show 2 ≤ sizeLine; decide, fun p hp => kq p hp⟩
/-- f(k = v, ..) alone -/
theorem pe_callK0 {X : Cx} {CX : CXT} {k : Nat} {f : Addr} {fd : FuncData} {ps ks : List Str} {sp : Sp} {E : XK} {x : Str} {p pos : Pos} {kws : List Keyword} {tk : TA} {g : List Value → List Value → List Value} {gV : List V → List V → List V} (F : FnOk X.prog X.w X.K X.mg X.base CX k f fd ps sp) (hr : Room k X.A) (hg : Gl X x) (hm : X.mg x = some (.ref f)) (hk : PySem.W.keepIn X.K (.ref f) = true) (hb : KBinds X.K fd ps ks g gV) (hx : Passes CX X E)
    (hkw : PK X kws tk) (hall : (backToKw pos (keywordEach kws X.env)).all (·.1.isSome) = true := by rfl) (hks : (backToKw pos (keywordEach kws X.env)).filterMap (·.1) = ks := by rfl) (hdb : (x == ("__debug__" : Str)) = false := by decide)
    (hpl : ((backTo pos (starEach [] X.env)).any (·.1) || (backToKw pos (keywordEach kws X.env)).any (·.1.isNone)) = false := by rfl) :
    PE X (.Call (.Name x p) [] kws pos) (fun σ H Q => tk σ H fun zs H2 => sp (gV [] zs) H2 Q E) := ⟨fun pins s σ H Q I h =>
  wpAny_Call_Name_kw (ld_glob I hg hm (PySem.W.callWith_KW0 (h₀ := X.base) I.ok.mod.kin hk hall (thn (hkw.run pos pins s σ H _ I h) fun ws s2 ⟨zs, H2, I2, rz, q2⟩ => ⟨I2.kIn, by
    rw [hks]
    exact run_fnk (us := []) (vs := []) F hr hb hx I2 .nil rz q2⟩) hpl) hdb)⟩
/-- keywords that come in the other order -/
def revK {α : Type} : List α → List α → List α
  | [], ws => ws.reverse
  | _ :: _, _ => []
theorem revK_rel {vs : List V} {us : List Value} {zs : List V} {ws : List Value} (h : Vals vs us) (k : Vals zs ws) : Vals (revK vs zs) (revK us ws) := by
  cases h with
  | nil => exact vals_rev k
  | cons _ _ => exact .nil
def qP : Str := (("_law_passes_right" : Str) ++ ".<locals>.") ++ "<lambda>"
def qC : Str := (("_law_closed_right" : Str) ++ ".<locals>.") ++ "<lambda>"
section
variable {P : Program} {w : World} {K : PySem.W.Frag} {mg : Str → Option Value} {base : Heap}
/-- what the top has written of _law_tried -/
structure TrP (K : PySem.W.Frag) (mg : Str → Option Value) (CD CY g fD fY : Addr) (fdg : FuncData) : Prop where
  F : L2.Fun K "_law_tried" "_law_tried" sTried g fdg
  m : mg "_law_tried" = some (.ref g)
  b : Binds K fdg ["_law_ask"] []
  TD : ExT K mg "BadDoor" "number" CD fD
  TY : ExT K mg "BadWays" "index" CY fY
  ex : ExmK K CD CY
/-- _law_tried(lambda: body) -/
theorem pe_triedB {X : Cx} {CD CY g fD fY c PT : Addr} {fdg : FuncData} {T : List (Addr × Str)} {q0 : Str} {k : Nat} {body : Expr} {t : XK → TE} {p3 p4 p5 : Pos} {ps : Arguments} {scope : Scope} (hXK : X.K = K) (hXm : X.mg = mg) (hXb : X.base = base) (W : TrP K mg CD CY g fD fY fdg) (TB : LamX.TabB base mg c PT)
    (hT : (PT, q0 ++ "<lambda>") ∈ T) (hu : ∀ p ∈ T, p.1 = PT → p.2 = q0 ++ "<lambda>")
    (hg : Gl X "_law_tried") (hcode : X.env.code = .ref c) (hq : X.env.qual = q0) (hr : Room (k + 2) X.A) (L : LamX.LamS X.env.scope scope) (hdef : defaultsOf ps X.env = ([], []))
    (hbind : ∀ (q : Str) (cl : List (Str × Addr)) (pm cv ctv : Value), bindArgs (PySem.W.kla_fn "<lambda>" q ps body scope cl pm cv ctv) ⟨[], []⟩ = pure [])
    (hbody : ∀ (A : Around) (outer : List Env) (s : Shared) (H : Hp) (E : XK) (f c' : Addr), Room k (A.deeper (LamX.lamEnv X scope s.heap.objs.size f c')) → PE (LamX.lamCx X A outer s H E scope f c') body (t E)) :
    PE X (.Call (.Name "_law_tried" p3) [.Lambda ps body scope p4] [] p5) (LamX.tLam T (TTried CD CY) t) := by
  subst hXK hXm hXb hq
  obtain ⟨oc, od, kV, doc, pm, an, cdv, ct, osl, rfl, lk, hcd⟩ := W.F.ex
  exact LamX.pe_lamcall (k := k) (Ng := ["_law_ask", "e"]) (a := "_law_ask") hg W.m W.F.kp lk hcd W.b scTried rfl (.inl rfl) (tried_gives W.TD W.TY W.ex) TB hcode hT hu hr L hdef hbind hbody
end
section
variable {K : PySem.W.Frag}
/-- no number of a door is told -/
theorem pass_tellI {CW C CD CY x wb lw pi po : Addr} {G : Hp} {n : Int} {ts : List St5} {is os : List Int} {v vj vt : V} {Q QN : VK} (hP : PtL K CW C G x wb lw pi po n ts is os) (nd : ts.Nodup) (hz : ts.length ≤ 1000000) (h : NoNum K G is.length v)
    (kq : ∀ G' p, Ex G G' → G' p = none → Q (.ref p) (upd G' p (.tup [.str "door", v]))) : spPass K CW C CD [.ref x, v, vj, vt] G QN (TrE CD CY Q) :=
  ⟨x, wb, lw, pi, po, n, ts, is, os, v, vj, vt, rfl, hP, nd, hz, .inl ⟨h, fun H' dd eH h0 h1 => .inl ⟨rfl, dd, v, rfl, h1, fun p hp => kq H' p eH hp⟩⟩⟩
theorem pass_tellJ {CW C CD CY x wb lw pi po : Addr} {G : Hp} {n a0 : Int} {ts : List St5} {is os : List Int} {v vt : V} {Q QN : VK} (hP : PtL K CW C G x wb lw pi po n ts is os) (nd : ts.Nodup) (hz : ts.length ≤ 1000000) (ha : is[0]? = some a0) (h : NoNum K G os.length v)
    (kq : ∀ G' p, Ex G G' → G' p = none → Q (.ref p) (upd G' p (.tup [.str "door", v]))) : spPass K CW C CD [.ref x, .int 0, v, vt] G QN (TrE CD CY Q) :=
  ⟨x, wb, lw, pi, po, n, ts, is, os, .int 0, v, vt, rfl, hP, nd, hz, .inr ⟨0, a0, rfl, ha, .inl ⟨h, fun H' dd eH h0 h1 => .inl ⟨rfl, dd, v, rfl, h1, fun p hp => kq H' p eH hp⟩⟩⟩⟩
/-- two parts that are one -/
def PrtR (K : PySem.W.Frag) (CW C : Addr) (x y : Addr) (H : Hp) : Prop := x = y ∧ ∃ n ss is os, PtAt K CW C H x n ss is os
theorem prtR_ex {CW C : Addr} : ∀ a b H H', Ex H H' → PrtR K CW C a b H → PrtR K CW C a b H' := fun a b H H' e ⟨h, n, ss, is, os, q⟩ => ⟨h, n, ss, is, os, q.ex e⟩
/-- a thing that is no number of a door, and is itself -/
def OddD (K : PySem.W.Frag) (C : Addr) (R : Addr → Addr → Hp → Prop) (m : Nat) (F : Hp) (o : V) : Prop := NoNum K F m o ∧ ∀ G, Ex F G → Sm K C R G 6 o o
theorem oddd_dp {C : Addr} {R : Addr → Addr → Hp → Prop} {m : Nat} {F : Hp} {o : V} {d : PyData} (h : Dp K F o d) (hi : isIntD d = false) (ho : dOk d = true) (hd : d.depth < 6) : OddD K C R m F o := ⟨.inl (ni_dp h hi), fun G e => sm_two d o o 6 (dp_ex e _ _ h) (dp_ex e _ _ h) ho hd⟩
theorem oddd_int {C : Addr} {R : Addr → Addr → Hp → Prop} {m : Nat} {F : Hp} {j : Int} (h : j < 0 ∨ (m : Int) ≤ j) : OddD K C R m F (.int j) := ⟨.inr ⟨j, rfl, h⟩, fun G e => .inl ⟨rfl, rfl⟩⟩
theorem oddd_fn {C : Addr} {R : Addr → Addr → Hp → Prop} {m : Nat} {F : Hp} {f : Addr} (h : FnV K f) : OddD K C R m F (.ref f) := by
  refine ⟨.inl (ni_fnv h), fun G e => ?_⟩
  obtain ⟨od, fd, osl, h⟩ := h
  exact .inr (.inr (.inr (.inr (.inr ⟨f, _, rfl, rfl, h, rfl⟩))))
theorem oddd_dict {C : Addr} {R : Addr → Addr → Hp → Prop} {m : Nat} {F : Hp} {p : Addr} (h : F p = some (.dK [])) : OddD K C R m F (.ref p) := ⟨.inl (ni_dict h), fun G e => .inr (.inr (.inr (.inl ⟨p, p, rfl, rfl, e _ _ h, e _ _ h, by decide⟩)))⟩
/-- an instance is no int -/
theorem ni_ins {C x dx : Addr} {F : Hp} {fs : List (Str × V)} (IC : InsK K C) (hi : PySem.W.kitOne K (.ref C) (.type "int") = some false) (hb : PySem.W.kitOne K (.ref C) (.type "bool") = some false) (h : F x = some (.ins C dx fs)) : NotI K F (.ref x) :=
  ⟨.ref C, false, false, fun H' e => .inl (.base (.ins (e _ _ (nt_of h fun ps z => nomatch z)) IC.cl IC.ha IC.hn IC.ht IC.hm)), hi, hb, rfl⟩
theorem oddd_part {CW C x wb lw pi po : Addr} {m : Nat} {F : Hp} {n : Int} {ts : List St5} {is os : List Int} (IC : InsK K C) (hi : PySem.W.kitOne K (.ref C) (.type "int") = some false) (hb : PySem.W.kitOne K (.ref C) (.type "bool") = some false) (h : PtL K CW C F x wb lw pi po n ts is os) : OddD K C (PrtR K CW C) m F (.ref x) := by
  obtain ⟨dx, kd, hx⟩ := h.o
  exact ⟨.inl (ni_ins IC hi hb hx), fun G e => .inr (.inr (.inr (.inr (.inl ⟨x, dx, _, rfl, rfl, e _ _ hx, rfl, n, ts, is, os, (h.ex e).at⟩))))⟩
end
end AA

set_option Elab.async false
set_option linter.all false
set_option maxRecDepth 100000
set_option maxHeartbeats 4000000
/-! _law_passes_right. -/
namespace AA
open PySem PySem.Spec PyProof.Rows L2 Evl
theorem lGo_same {ss ts : List St5} (h : ∀ s, s ∈ ts ↔ s ∈ ss) : ∀ (ds : List PyData) (a : Int), lGo ts a ds = lGo ss a ds
  | [], _ => rfl
  | d :: r, a => by
    unfold lGo
    cases stepOf d with
    | none => rfl
    | some s =>
      show (if s ∈ ts ∧ s.one = a then lGo ts s.other r else none) = (if s ∈ ss ∧ s.one = a then lGo ss s.other r else none)
      rw [lGo_same h r s.other]
      by_cases q : s ∈ ss
      · have q' := (h s).mpr q
        simp [q, q']
      · have q' : s ∉ ts := fun z => q ((h s).mp z)
        simp [q, q']
theorem pass_yes {n : Int} {ss ts : List St5} (hok : ∀ s ∈ ts, StOk n s) (hm : ∀ s, s ∈ ts ↔ s ∈ ss) (a b : Int) {d d' : PyData} (hz : Lz d d') (hl : isListD d' = true) : passB (rdWalk n ts (itemsD d') []) a b = lawPass ss a b d := by
  rw [walk_same hok a b d' hl, lz_pass ts a b hz]
  unfold lawPass
  rw [lGo_same hm]
theorem pass_no {ss : List St5} (a b : Int) {d d' : PyData} (hz : Lz d d') (hl : isListD d' = false) : lawPass ss a b d = false := by
  have h := (lz_items hz).1
  rw [hl] at h
  unfold lawPass
  rw [← h]
  rfl
/-- a walk as a list on the heap G, beside the addresses X, its steps told of B -/
def WkX (K : PySem.W.Frag) (B : Hp) (X : List Addr) (G : Hp) (v : V) (w : List St5) : Prop := ∃ q xs, v = V.ref q ∧ q ∉ X ∧ G q = some (.lst xs) ∧ DpAll K B xs (w.map stD)
theorem WkX.go {K : PySem.W.Frag} {B G G' : Hp} {X Y : List Addr} {v : V} {w : List St5} (h : WkX K B X G v w) (hs : ∀ q u, q ∉ X → G q = some u → q ∉ Y ∧ G' q = some u) : WkX K B Y G' v w := by
  obtain ⟨q, xs, h1, h2, h3, h4⟩ := h
  obtain ⟨k1, k2⟩ := hs _ _ h2 h3
  exact ⟨q, xs, h1, k1, k2, h4⟩
theorem WyL.get {K : PySem.W.Frag} {H : Hp} {X : List Addr} {G : Hp} : ∀ {os : List V} {ws : List (List St5)}, WyL K H X G os ws → ∀ v ∈ os, ∃ w ∈ ws, WyAt K H X G v w
  | _, _, .nil, v, h => absurd h (by simp)
  | _, _, .cons h t, v, hv => (List.mem_cons.mp hv).elim (fun e => ⟨_, List.mem_cons_self, e ▸ h⟩) fun hv => let ⟨w, a, b⟩ := WyL.get t v hv; ⟨w, List.mem_cons_of_mem _ a, b⟩
section
variable {P : Program} {w : World} {K : PySem.W.Frag} {mg : Str → Option Value} {base : Heap}
def spPass0 (K : PySem.W.Frag) (CW C CB : Addr) : Sp := fun vs H Q _ => spPass K CW C CB vs H Q E0
def spPasR (K : PySem.W.Frag) (CW C : Addr) (T : List (Addr × Str)) : Sp := fun vs H Q _ => ∃ (a b : Addr) (m : Nat) (x wb lw pi po l li lo : Addr) (n : Int) (vs0 : List V) (ss ts : List St5) (is os : List Int), vs = [.ref a, .ref x, .ref l, .ref li, .ref lo] ∧ m < 500000000 ∧ LamX.Tabs T H ∧ SAt H a b m ∧
  PtL K CW C (hid a b H) x wb lw pi po n ts is os ∧ ts.Nodup ∧ (∀ s, s ∈ ts ↔ s ∈ ss) ∧ hid a b H l = some (.lst vs0) ∧ hid a b H li = some (.lst (is.map V.int)) ∧ hid a b H lo = some (.lst (os.map V.int)) ∧ DpAll K (tps H) vs0 (ss.map stD) ∧ n ≤ 6 ∧ (∀ s ∈ ss, StOk n s) ∧ ss.length ≤ 14 ∧ DrOk n is os ∧
  ∀ H', RS T a b H (m + 5000000) H' → Q (.bl true) H'
abbrev nmPR : List Str := ["_law_stream_here", "_law_part_here", "_law_steps", "_law_ins", "_law_outs", "_law_i", "_law_begin", "_law_j", "_law_end", "_law_walks", "_law_walk", "_law_thing", "_law_handed", "_law_odd"]
theorem scPR : FnScope nmPR ["_law_stream_here", "_law_part_here", "_law_steps", "_law_ins", "_law_outs"] (defScope sPassesRight) := ⟨rfl, rfl, rfl, by decide +kernel, rfl, by decide +kernel, by decide +kernel⟩
theorem ok_pasR {f fD fPa CW C CD CY g fd_ fy_ c PT : Addr} {fd ddPa fdg : FuncData} {T : List (Addr × Str)} (F : FunC K "_law_passes_right" sPassesRight f fd c) (B : Bn mg) (TB : LamX.TabB base mg c PT) (hT : (PT, (("_law_passes_right" : Str) ++ ".<locals>.") ++ "<lambda>") ∈ T) (hu : ∀ p ∈ T, p.1 = PT → p.2 = (("_law_passes_right" : Str) ++ ".<locals>.") ++ "<lambda>")
    (TR : TrP K mg CD CY g fd_ fy_ fdg) (IC : InsK K C) (hCi : PySem.W.kitOne K (.ref C) (.type "int") = some false) (hCb : PySem.W.kitOne K (.ref C) (.type "bool") = some false)
    (GP : FnOk P w K mg base (L2.CX P w) 5 fPa ddPa ["part", "i", "j", "thing"] (spPass K CW C CD)) (mP : mg "is_pass" = some (.ref fPa)) (kP : PySem.W.keepIn K (.ref fPa) = true) (bP : Binds K ddPa ["part", "i", "j", "thing"] []) (kbP : KBinds K ddPa ["part", "i", "j", "thing"] ["thing", "j", "i", "part"] revK revK)
    (cIP : C8.Cal P w K mg base 5 "is_pass" (spPass0 K CW C CD) []) (mD : mg "_law_draw" = some (.ref fD)) (vD : FnV K fD)
    (cM : C8.Cal P w K mg base 2 "_law_mixed" (spMixed K) []) (cPs : C8.Cal P w K mg base 1 "_law_passes" (spPasses K) []) (cB : C8.Cal P w K mg base 3 "_law_bent" (spBent K) []) (cL : C8.Cal P w K mg base 8 "_law_loose" (spLooseB K 6) []) (cLI : C8.Cal P w K mg base 3 "_law_is_pass" (spLIsPass K) [])
    (cS : C8.Cal P w K mg base 10 "_law_same" (spSame K C (PrtR K CW C) 7) []) : FnOk P w K mg base CX0 11 f fd ["_law_stream_here", "_law_part_here", "_law_steps", "_law_ins", "_law_outs"] (spPasR K CW C T) := by
  obtain ⟨oc, od, kV, doc, pm, an, ct, osl, rfl, lk, hcd⟩ := F.ex
  refine fn_of lk hcd scPR (fun vs H Q E h => ?_) fun A outer s H vs Q E hr h => ?_
  · obtain ⟨a, b, m, x, wb, lw, pi, po, l, li, lo, n, vs0, ss, ts, is, os, rfl, _⟩ := h
    rfl
  suffices go : ∃ t, PSs (cxOf CX0 P w K mg base nmPR "_law_passes_right" (defScope sPassesRight) f (.ref c) A outer s H E).nox (defBody sPassesRight) t ∧ t { nx := fun _ H' => Q .non H', rt := Q } (L2.start nmPR vs) H from let ⟨t, h1, h2⟩ := go; ⟨t, h1.nox, h2⟩
  · obtain ⟨a, b, m, x, wb, lw, pi, po, l, li, lo, n, vs0, ss, ts, is, os, rfl, hm, hTb, hS, hP, htn, htm, hl, hli, hlo, hD, hn6, hok, hsz, hdr, k⟩ := h
    have hr7 : Room 7 (A.deeper (envOfC "_law_passes_right" (defScope sPassesRight) s.heap.objs.size f (.ref c))) := hr.mono (by decide)
    refine ⟨_, Evl.pss_cut (ps_for PassesOwn.never rfl (pi_enum (by rfl) B.enumerate (pa_cons (pv 3) pa_nil)) (pg_tup (n := 2) rfl (pgs_cons (pg_name (i := 5) scPR.nd rfl (Or.inl rfl)) (pgs_cons (pg_name (i := 6) scPR.nd rfl (Or.inl rfl)) pgs_nil)))
          (pss_one (ps_for PassesOwn.never rfl (pi_enum (by rfl) B.enumerate (pa_cons (pv 4) pa_nil)) (pg_tup (n := 2) rfl (pgs_cons (pg_name (i := 7) scPR.nd rfl (Or.inl rfl)) (pgs_cons (pg_name (i := 8) scPR.nd rfl (Or.inl rfl)) pgs_nil)))
            (Evl.pss_cut (ps_set (i := 9) scPR.nd rfl (Or.inl rfl) (pe_slice (r := rSlL K) sl_list (C8.pe_c cM hr (by decide) (by rfl) (pa_cons (pv 0) (pa_cons (C8.pe_c cPs hr (by decide) (by rfl) (pa_cons (pv 2) (pa_cons (pv 6) (pa_cons (pv 8) pa_nil)))) pa_nil))) po_none (po_some pe_int)))
            (Evl.pss_cut (ps_expr (pe_bm PySem.F.plainAttrs_list PySem.F.slot_list_extend PySem.F.type_list_extend mt_extend (pv 9) (pa_cons (pe_op op_cat
                (pe_lc (own := [("_law_walk", 10)]) (g := gName 10) (tt := tYes) (by rfl) scPR.nd (pi_list (pe_slice (r := rSlL K) sl_list (pv 9) po_none (po_some pe_int))) (blkOk_by (N := nmPR) (sc := defScope sPassesRight) (by decide +kernel)) (fun _ _ _ _ _ => pg_name (i := 10) scPR.nd rfl (Or.inl rfl)) (fun _ _ _ _ _ => pts_nil)
                    (fun _ _ _ _ _ => pe_op op_cat (pe_op op_cat (pe_slice (r := rSlL K) sl_list (pv 10) po_none (po_some (pe_un un_neg pe_int))) (pe_lst (pa_cons (pe_ix (r := rIxL K) ix_list (pv 10) (pe_un un_neg pe_int) (fun _ _ => rfl)) pa_nil))) (pe_slice (r := rSlL K) sl_list (pv 10) (po_some pe_int) po_none)))
                (pe_lst (pa_cons (pe_lst pa_nil) pa_nil))) pa_nil)))
            (pss_one (ps_for PassesOwn.never rfl (pi_list (pe_op op_cat (pv 9) (pe_op op_rep (pe_lc (own := [("_law_walk", 10)]) (g := gName 10) (tt := tYes) (by rfl) scPR.nd (pi_list (pv 9)) (blkOk_by (N := nmPR) (sc := defScope sPassesRight) (by decide +kernel)) (fun _ _ _ _ _ => pg_name (i := 10) scPR.nd rfl (Or.inl rfl)) (fun _ _ _ _ _ => pts_nil)
                    (fun _ _ _ _ _ => C8.pe_c cB hr (by decide) (by rfl) (pa_cons (pv 0) (pa_cons (pv 2) (pa_cons (pv 10) pa_nil))))) pe_int))) (pg_name (i := 11) scPR.nd rfl (Or.inl rfl))
              (pss_cons (ps_set (i := 12) scPR.nd rfl (Or.inl rfl) (C8.pe_c cL hr (by decide) (by rfl) (pa_cons (pv 0) (pa_cons (pv 11) pa_nil))))
              (pss_one (ps_if (pt_not (pt_val (C8.pe_c cS hr (by decide) (by rfl) (pa_cons (C8.pe_c cIP hr (by decide) (by rfl) (pa_cons (pv 1) (pa_cons (pv 5) (pa_cons (pv 7) (pa_cons (pv 12) pa_nil))))) (pa_cons (C8.pe_c cLI hr (by decide) (by rfl) (pa_cons (pv 2) (pa_cons (pv 6) (pa_cons (pv 8) (pa_cons (pv 11) pa_nil))))) pa_nil)))))
                (pss_one (ps_ret pe_bl)) pss_nil))))))))))
      (Evl.pss_cut (ps_for PassesOwn.never rfl (pi_list (pe_lst (pa_cons pe_non (pa_cons (pe_un un_neg pe_int) (pa_cons (pe_callB call_len_seq (by rfl) B.len PySem.boot_len (pa_cons (pv 3) pa_nil)) (pa_cons pe_bl (pa_cons pe_str (pa_cons (pe_tup (pa_cons pe_int pa_nil)) (pa_cons (pe_lst pa_nil) (pa_cons pe_dnewK (pa_cons (pe_glob (v := .ref fD) (by rfl) mD rfl) pa_nil))))))))))) (pg_name (i := 13) scPR.nd rfl (Or.inr rfl))
          (pss_one (ps_if (pt_not (pt_val (C8.pe_c cS hr (by decide) (by rfl) (pa_cons (pe_triedB (q0 := ("_law_passes_right" : Str) ++ ".<locals>.") (k := 5) rfl rfl rfl TR TB hT hu (by rfl) rfl rfl hr7 (LamX.lamS_by (by rfl)) rfl (fun _ _ _ _ _ => rfl) (fun _ _ _ _ _ _ _ hr' => pe_call GP hr' (by rfl) mP kP bP .nil (passes_call (takes_of rfl rfl rfl rfl) fun _ _ _ _ z => z) (pa_cons (pv 1) (pa_cons (pv 13) (pa_cons pe_non (pa_cons pe_non pa_nil))))))
              (pa_cons (pe_tup (pa_cons pe_str (pa_cons (pv 13) pa_nil))) pa_nil))))) (pss_one (ps_ret pe_bl)) pss_nil)))
      (Evl.pss_cut (ps_for PassesOwn.never rfl (pi_list (pe_lst (pa_cons pe_non (pa_cons (pe_un un_neg pe_int) (pa_cons (pe_callB call_len_seq (by rfl) B.len PySem.boot_len (pa_cons (pv 4) pa_nil)) (pa_cons pe_bl (pa_cons pe_str (pa_cons (pe_tup (pa_cons pe_int pa_nil)) (pa_cons (pe_lst pa_nil) (pa_cons pe_dnewK (pa_cons (pv 1) pa_nil))))))))))) (pg_name (i := 13) scPR.nd rfl (Or.inr rfl))
          (pss_one (ps_if (pt_not (pt_val (C8.pe_c cS hr (by decide) (by rfl) (pa_cons (pe_triedB (q0 := ("_law_passes_right" : Str) ++ ".<locals>.") (k := 5) rfl rfl rfl TR TB hT hu (by rfl) rfl rfl hr7 (LamX.lamS_by (by rfl)) rfl (fun _ _ _ _ _ => rfl) (fun _ _ _ _ _ _ _ hr' => pe_callK0 GP hr' (by rfl) mP kP kbP (passes_call (takes_of rfl rfl rfl rfl) fun _ _ _ _ z => z) (pk_cons pe_non (pk_cons (pv 13) (pk_cons pe_int (pk_cons (pv 1) pk_nil))))))
              (pa_cons (pe_tup (pa_cons pe_str (pa_cons (pv 13) pa_nil))) pa_nil))))) (pss_one (ps_ret pe_bl)) pss_nil)))
      (pss_one (ps_ret pe_bl)))), ?_⟩
    have hlen := sts_len hD
    have i2 := hdr.i2
    have o2 := hdr.o2
    have hmi : (is.map V.int).length = is.length := List.length_map ..
    have hmo : (os.map V.int).length = os.length := List.length_map ..
    have htok : ∀ s ∈ ts, StOk n s := fun s hs => hok s ((htm s).mp hs)
    have htz : ts.length ≤ 1000000 := by
      have := nd_len ts ss htn fun s hs => (htm s).mp hs
      omega
    obtain ⟨x0, hx0⟩ : ∃ x0, is[0]? = some x0 := by
      cases q : is with
      | nil => exact absurd q hdr.i1
      | cons x r => exact ⟨x, rfl⟩
    have bl : nt (hid a b H) l = some (.lst vs0) := nt_of hl fun ps z => nomatch z
    have bi : nt (hid a b H) li = some (.lst (is.map V.int)) := nt_of hli fun ps z => nomatch z
    have bo : nt (hid a b H) lo = some (.lst (os.map V.int)) := nt_of hlo fun ps z => nomatch z
    have bD : DpAll K (nt (hid a b H)) vs0 (ss.map stD) := dpa_nt _ _ (dpa_ex (tps_in hS) _ _ hD)
    have bP : PtL K CW C (nt (hid a b H)) x wb lw pi po n ts is os := hP.nt
    have Gl : ∀ {k : Nat} {G : Hp}, RS T a b H k G → G l = some (.lst vs0) := fun r => r.at _ _ bl
    have Gi : ∀ {k : Nat} {G : Hp}, RS T a b H k G → G li = some (.lst (is.map V.int)) := fun r => r.at _ _ bi
    have Go : ∀ {k : Nat} {G : Hp}, RS T a b H k G → G lo = some (.lst (os.map V.int)) := fun r => r.at _ _ bo
    have GD : ∀ {k : Nat} {G : Hp}, RS T a b H k G → DpAll K G vs0 (ss.map stD) := fun r => dpa_ex r.at _ _ bD
    have GPt : ∀ {k : Nat} {G : Hp}, RS T a b H k G → PtL K CW C G x wb lw pi po n ts is os := fun r => bP.ex r.at
    have r0 : RS T a b H m H := ⟨Ex.refl _, hS, hTb⟩
    -- what is new is none of the things that stood
    have fr : ∀ {k : Nat} {G : Hp} {p : Addr}, RS T a b H k G → G p = none → ∀ z o, nt (hid a b H) z = some o → z ≠ p := fun r hp z o hz e => by
      have := r.at _ _ hz
      rw [e, hp] at this
      cases this
    refine ⟨fun σ G => ∃ x5 x6 x7 x8 x9 x11 x12 k, σ = [some (.ref a), some (.ref x), some (.ref l), some (.ref li), some (.ref lo), x5, x6, x7, x8, x9, none, x11, x12, none] ∧ RS T a b H k G ∧ k ≤ m + 4000000, ?_, ?_⟩
    · refine ⟨_, rfl, li, _, rfl, SqL.of (Gi r0), for_enumL (K := K) (a := li) (xs := is.map V.int) (fun i σ G => ∃ x5 x6 x7 x8 x9 x11 x12 k, σ = [some (.ref a), some (.ref x), some (.ref l), some (.ref li), some (.ref lo), x5, x6, x7, x8, x9, none, x11, x12, none] ∧ RS T a b H k G ∧ k ≤ m + 2000000 * i) ?_ ?_ ?_ ?_⟩
      · exact ⟨none, none, none, none, none, none, none, m, rfl, r0, Nat.le_refl _⟩
      · rintro i σ G _ ⟨x5, x6, x7, x8, x9, x11, x12, k, rfl, r, _⟩
        exact SqL.of (Gi r)
      case refine_4 =>
        rintro σ G ⟨x5, x6, x7, x8, x9, x11, x12, k, rfl, r, hk⟩
        rw [hmi] at hk
        exact ⟨_, _, _, _, _, _, _, k, rfl, r, by omega⟩
      rintro i xi σ G T0 hxi ⟨x5, x6, x7, x8, x9, x11, x12, k1, rfl, r1, hk1⟩ hT0
      obtain ⟨bg, hbg, rfl⟩ := get_ints hxi
      refine ⟨T0, _, rfl, SqT.of upd_same, rfl, _, _, rfl, _, _, rfl, rfl, ?_⟩
      have r2 := r1.ex (Ex.new (o := .tup [V.int (i : Nat), V.int bg]) hT0)
      generalize upd G T0 (.tup [V.int (i : Nat), V.int bg]) = G2 at r2 ⊢
      refine ⟨_, rfl, lo, _, rfl, SqL.of (Go r2), for_enumL (K := K) (a := lo) (xs := os.map V.int) (fun j σ G => ∃ x7 x8 x9 x11 x12 k, σ = [some (.ref a), some (.ref x), some (.ref l), some (.ref li), some (.ref lo), some (.int (i : Nat)), some (.int bg), x7, x8, x9, none, x11, x12, none] ∧ RS T a b H k G ∧ k ≤ k1 + 900000 * j) ?_ ?_ ?_ ?_⟩
      · exact ⟨_, _, _, _, _, k1, rfl, r2, Nat.le_refl _⟩
      · rintro j σ G _ ⟨x7, x8, x9, x11, x12, k, rfl, r, _⟩
        exact SqL.of (Go r)
      case refine_4 =>
        rintro σ G ⟨x7, x8, x9, x11, x12, k, rfl, r, hk⟩
        rw [hmo] at hk
        exact ⟨_, _, _, _, _, _, _, k, rfl, r, by omega⟩
      rintro j xj σ G T1 hxj ⟨x7, x8, x9, x11, x12, k2, rfl, r3, hk2⟩ hT1
      obtain ⟨en, hen, rfl⟩ := get_ints hxj
      have il := (List.getElem?_eq_some_iff.mp hbg).1
      have jl := (List.getElem?_eq_some_iff.mp hen).1
      refine ⟨T1, _, rfl, SqT.of upd_same, rfl, _, _, rfl, _, _, rfl, rfl, ?_⟩
      have r4 := r3.ex (Ex.new (o := .tup [V.int (j : Nat), V.int en]) hT1)
      generalize upd G T1 (.tup [V.int (j : Nat), V.int en]) = Gc at r4 ⊢
      have S4 := r4.s
      have hB : ∀ {G : Hp}, ExS a b Gc G → ∀ {u : List St5} {xs : List V}, DpAll K (hid a b Gc) xs (u.map stD) → DpAll K (hid a b G) xs (u.map stD) := fun e _ _ h => dpa_ex e _ _ h
      -- the walks
      refine ⟨fun σ G => ∃ (q3 : Addr) (ys : List V) (k3 : Nat), σ = [some (.ref a), some (.ref x), some (.ref l), some (.ref li), some (.ref lo), some (.int (i : Nat)), some (.int bg), some (.int (j : Nat)), some (.int en), some (.ref q3), none, x11, x12, none] ∧ ExS a b Gc G ∧ SAt G a b k3 ∧ k3 ≤ k2 + 800000 ∧ Gc q3 = none ∧ G q3 = some (.lst ys) ∧ ys.length ≤ 3 ∧ ∀ y ∈ ys, ∃ u, WkX K (hid a b Gc) [a, b, q3] G y u ∧ u ≠ [] ∧ u.length ≤ 5, ?_, ?_⟩
      · refine ⟨_, rfl, _, rfl, _, rfl, _, rfl, l, vs0, ss, n, bg, en, rfl, SqL.of (Gl r4), GD r4, hn6, hok, hsz, fun G1 F0 ws wl e1 F0n hF0 hWl hTw hwl => ?_⟩
        have S5 := S4.ex e1
        have F0a := S4.nea F0n
        have F0b := S4.neb F0n
        have hwlen := hWl.len
        refine ⟨a, b, k2, F0, ws, rfl, S5, SqL.of (by rw [hid_ne F0a F0b]; exact hF0), by omega, by omega, fun G5 p ys e5 s5 p0 hp perm => ?_⟩
        refine ⟨_, rfl, p, _, rfl, SqL.of hp, fun q3 hq3 => ?_⟩
        have hc3 : cutV ys none (some 3) = ys.take 3 := cut_to ys 3
        rw [hc3]
        have e15 : ExS a b Gc G5 := (hid_mono (a := a) (b := b) e1).trans e5
        have q3c : Gc q3 = none := e15.back s5 hq3
        have z6 := Ex.new (o := .lst (ys.take 3)) hq3
        refine ⟨q3, ys.take 3, _, rfl, e15.trans (hid_mono z6), s5.ex z6, by omega, q3c, upd_same, by rw [List.length_take]; omega, fun y hy => ?_⟩
        obtain ⟨u, hu1, q, xs, rfl, q0, hqX, hq, hqd⟩ := hWl.get y (perm.mem_iff.mp (List.mem_of_mem_take hy))
        have tw := hTw u hu1
        have qa := S4.nea q0
        have qb := S4.neb q0
        have q5 : G5 q = some (.lst xs) := e5.at hq qa qb
        have qq : q ≠ q3 := ne_of_none q5 hq3
        exact ⟨u, ⟨q, xs, rfl, by simp [qa, qb, qq], z6 _ _ q5, sts_hid S4 hqd⟩, tw.ne, tw.len⟩
      rintro σ Gw ⟨q3, ys, k3, rfl, eW, sW, hk3, q3c, hq3, hyl, hys⟩
      have q3a := S4.nea q3c
      have q3b := S4.neb q3c
      -- one more walk, and none
      refine ⟨fun σ G => ∃ (vs5 : List V), σ = [some (.ref a), some (.ref x), some (.ref l), some (.ref li), some (.ref lo), some (.int (i : Nat)), some (.int bg), some (.int (j : Nat)), some (.int en), some (.ref q3), none, x11, x12, none] ∧ ExS a b Gc G ∧ SAt G a b k3 ∧ G q3 = some (.lst vs5) ∧ vs5.length ≤ 5 ∧ ∀ y ∈ vs5, ∃ u, WkX K (hid a b Gc) [a, b, q3] G y u ∧ u.length ≤ 15, ?_, ?_⟩
      · refine ⟨_, rfl, .inl ⟨rfl, _, SqL.of hq3⟩, _, rfl, _, rfl, q3, _, rfl, SqL.of hq3, fun c1 hc1 => ?_⟩
        rw [cut_t1]
        have y1 := Ex.new (o := .lst (ys.take 1)) hc1
        have j1 : upd Gw c1 (.lst (ys.take 1)) c1 = some (.lst (ys.take 1)) := upd_same
        generalize upd Gw c1 (.lst (ys.take 1)) = G1 at y1 j1 ⊢
        refine ⟨c1, rfl, ⟨_, SqL.of j1⟩, fun D hD0 => ?_⟩
        have D3 : D ≠ q3 := (ne_of_none (y1 _ _ hq3) hD0).symm
        have Dw := fresh_back y1 hD0
        have Da := sW.nea Dw
        have Db := sW.neb Dw
        refine lc_list (xs := ys.take 1) (fun i G => Ex G1 G ∧ ∃ acc : List V, G D = some (.lst acc) ∧ acc.length ≤ i ∧ ∀ y ∈ acc, ∃ u, WkX K (hid a b Gc) [a, b, q3, D] G y u ∧ u.length ≤ 12) ⟨Ex.new hD0, [], upd_same, Nat.le_refl _, fun y hy => absurd hy (by simp)⟩ (fun i G _ q => SqL.of (q.1 _ _ j1)) ?_ ?_
        · rintro i2 xw G hxw ⟨q1, acc, q2, q4, q5⟩
          obtain ⟨u, ⟨q, xs, rfl, hqX, hq, hqd⟩, une, ulen⟩ := hys xw (List.mem_of_mem_take (mem_of_get hxw))
          have il2 := (List.getElem?_eq_some_iff.mp hxw).1
          rw [List.length_take] at il2
          have hxl := sts_len hqd
          obtain ⟨t, ht⟩ : ∃ t, u.getLast? = some t := ⟨u.getLast une, List.getLast?_eq_some_getLast une⟩
          obtain ⟨tb, htb, htD⟩ := last_at hqd ht
          have hqG := (y1.trans q1) _ _ hq
          refine ⟨rfl, _, rfl, _, rfl, _, rfl, q, _, rfl, SqL.of hqG, fun p1 hp1 => ?_⟩
          rw [cut_init]
          have z1 := Ex.new (o := .lst (xs.take (xs.length - 1))) hp1
          have f1 : upd G p1 (.lst (xs.take (xs.length - 1))) p1 = some (.lst (xs.take (xs.length - 1))) := upd_same
          generalize upd G p1 (.lst (xs.take (xs.length - 1))) = A1 at z1 f1 ⊢
          refine ⟨_, rfl, _, rfl, q, _, (-1 : Int), _, rfl, rfl, SqL.of (z1 _ _ hqG), htb, by show 1 ≤ sizeLine; decide, fun p2 hp2 => ?_⟩
          have z2 := Ex.new (o := .lst [V.ref tb]) hp2
          have f2 : upd A1 p2 (.lst [V.ref tb]) p2 = some (.lst [V.ref tb]) := upd_same
          generalize upd A1 p2 (.lst [V.ref tb]) = A2 at z2 f2 ⊢
          refine ⟨p1, p2, _, _, rfl, rfl, z2 _ _ f1, f2, sz_le (by rw [List.length_take]; show _ + 1 ≤ _; omega), fun p3 hp3 => ?_⟩
          have z3 := Ex.new (o := .lst (xs.take (xs.length - 1) ++ [V.ref tb])) hp3
          have f3 : upd A2 p3 (.lst (xs.take (xs.length - 1) ++ [V.ref tb])) p3 = some (.lst (xs.take (xs.length - 1) ++ [V.ref tb])) := upd_same
          generalize upd A2 p3 (.lst (xs.take (xs.length - 1) ++ [V.ref tb])) = A3 at z3 f3 ⊢
          have z13 := z1.trans (z2.trans z3)
          refine ⟨_, rfl, _, rfl, q, _, rfl, SqL.of (z13 _ _ hqG), fun p4 hp4 => ?_⟩
          rw [cut_1]
          have z4 := Ex.new (o := .lst (xs.drop 1)) hp4
          have f4 : upd A3 p4 (.lst (xs.drop 1)) p4 = some (.lst (xs.drop 1)) := upd_same
          generalize upd A3 p4 (.lst (xs.drop 1)) = A4 at z4 f4 ⊢
          refine ⟨p3, p4, _, _, rfl, rfl, z4 _ _ f3, f4, sz_le (by rw [List.length_append, List.length_take, List.length_drop]; show _ + 1 + _ ≤ _; omega), fun p5 hp5 => ?_⟩
          have z5 := Ex.new (o := .lst (xs.take (xs.length - 1) ++ [V.ref tb] ++ xs.drop 1)) hp5
          have z15 := z13.trans (z4.trans z5)
          have p5D : p5 ≠ D := (ne_of_none ((z13.trans z4) _ _ q2) hp5).symm
          have p5q : p5 ≠ q3 := (ne_of_none ((y1.trans (q1.trans (z13.trans z4))) _ _ hq3) hp5).symm
          have p5w := fresh_back (y1.trans (q1.trans (z13.trans z4))) hp5
          refine ⟨acc, z15 _ _ q2, by
            have : sizeLine = 16777216 := rfl
            omega, (q1.trans z15).mut hD0, acc ++ [.ref p5], upd_same, by rw [List.length_append]; exact Nat.succ_le_succ q4, fun y hy => ?_⟩
          rcases List.mem_append.mp hy with hy | hy
          · obtain ⟨u', h1, h2⟩ := q5 y hy
            refine ⟨u', h1.go fun z o hz hz2 => ⟨hz, ?_⟩, h2⟩
            have : z ≠ D := fun e => hz (by rw [e]; simp)
            rw [upd_ne this]
            exact z15 _ _ hz2
          · obtain rfl := List.mem_singleton.mp hy
            refine ⟨u.take (xs.length - 1) ++ [t] ++ u.drop 1, ⟨p5, _, rfl, by simp [sW.nea p5w, sW.neb p5w, p5q, p5D], by rw [upd_ne p5D]; exact upd_same, ?_⟩, ?_⟩
            · rw [List.map_append, List.map_append, List.map_take, List.map_drop]
              exact dpa_app (dpa_app (dpa_take _ hqd) (.cons htD .nil)) (dpa_drop 1 hqd)
            · rw [List.length_append, List.length_append, List.length_take, List.length_drop]
              show _ + 1 + _ ≤ 12
              omega
        · rintro G6 ⟨q1, acc, hD6, hal, hac⟩
          have hal : acc.length ≤ 1 := by
            rw [List.length_take] at hal
            omega
          refine ⟨Nat.zero_le _, fun l0 hl0 => ⟨by show 1 ≤ sizeLine; decide, fun l1 hl1 => ?_⟩⟩
          have z1 := Ex.new (o := .lst []) hl0
          have f1 : upd G6 l0 (.lst []) l0 = some (.lst []) := upd_same
          generalize upd G6 l0 (.lst []) = A1 at z1 f1 hl1 ⊢
          have z2 := Ex.new (o := .lst [V.ref l0]) hl1
          have f2 : upd A1 l1 (.lst [V.ref l0]) l1 = some (.lst [V.ref l0]) := upd_same
          generalize upd A1 l1 (.lst [V.ref l0]) = A2 at z2 f2 ⊢
          have z12 := z1.trans z2
          refine ⟨D, l1, _, _, rfl, rfl, z12 _ _ hD6, f2, sz_le (by show _ + 1 ≤ _; omega), fun u5 hu5 => ?_⟩
          have z3 := Ex.new (o := .lst (acc ++ [V.ref l0])) hu5
          have e03 := y1.trans (q1.trans (z12.trans z3))
          have l0w := fresh_back (y1.trans q1) hl0
          have l0q : l0 ≠ q3 := (ne_of_none ((y1.trans q1) _ _ hq3) hl0).symm
          refine ⟨q3, u5, ys, _, rfl, rfl, e03 _ _ hq3, upd_same, sz_le (by rw [List.length_append]; show _ + (_ + 1) ≤ _; omega), ?_⟩
          refine ⟨_, rfl, ExS.own (eW.trans (hid_mono (a := a) (b := b) e03)) q3c q3a q3b, (sW.ex e03).upd q3a q3b, upd_same, by rw [List.length_append, List.length_append]; show _ + (_ + 1) ≤ _; omega, fun y hy => ?_⟩
          have go3 : ∀ {v : V} {u : List St5}, WkX K (hid a b Gc) [a, b, q3] (upd A2 u5 (.lst (acc ++ [V.ref l0]))) v u → WkX K (hid a b Gc) [a, b, q3] (upd (upd A2 u5 (.lst (acc ++ [V.ref l0]))) q3 (.lst (ys ++ (acc ++ [V.ref l0])))) v u := fun h => h.go fun z o hz hz2 => ⟨hz, by
            have : z ≠ q3 := fun e => hz (by rw [e]; simp)
            rw [upd_ne this]
            exact hz2⟩
          rcases List.mem_append.mp hy with hy | hy
          · obtain ⟨u, h1, h2, h3⟩ := hys y hy
            exact ⟨u, go3 (h1.go fun z o hz hz2 => ⟨hz, e03 _ _ hz2⟩), by omega⟩
          · rcases List.mem_append.mp hy with hy | hy
            · obtain ⟨u, h1, h2⟩ := hac y hy
              exact ⟨u, go3 (h1.go fun z o hz hz2 => ⟨fun e => hz (by simp only [List.mem_cons, List.not_mem_nil, or_false] at e ⊢; rcases e with e | e | e <;> simp [e]), (z12.trans z3) _ _ hz2⟩), by omega⟩
            · obtain rfl := List.mem_singleton.mp hy
              exact ⟨[], go3 ⟨l0, [], rfl, by simp [sW.nea l0w, sW.neb l0w, l0q], (z2.trans z3) _ _ f1, .nil⟩, by decide⟩
      rintro σ Gv ⟨vs5, rfl, eV, sV, hq5, hvl, hvs⟩
      -- what is handed
      refine ⟨_, rfl, _, rfl, q3, rfl, ⟨_, SqL.of hq5⟩, fun D hD0 => ?_⟩
      have D3 : D ≠ q3 := (ne_of_none hq5 hD0).symm
      have Da := sV.nea hD0
      have Db := sV.neb hD0
      have hlc : hid a b Gc l = some (.lst vs0) := by
        obtain ⟨h1, _⟩ := nt_some (r4.e _ _ bl)
        exact h1
      have hDc : DpAll K (hid a b Gc) vs0 (ss.map stD) := dpa_ex (Ex.trans r4.e nt_le) _ _ bD
      have bt_ok : ∀ {G : Hp} {v : V} {u : List St5}, ExS a b Gc G → WkX K (hid a b Gc) [a, b, q3] G v u → u.length ≤ 15 → BtOk K (hid a b G) v := fun {G v u} e h hul => by
        obtain ⟨q, xs, rfl, hqX, hq, hqd⟩ := h
        simp only [List.mem_cons, List.not_mem_nil, or_false, not_or] at hqX
        exact bt_wk (by rw [hid_ne hqX.1 hqX.2.1]; exact hq) (dpa_ex e _ _ hqd) (by omega)
      refine lc_list (xs := vs5) (fun i G => ExS a b Gv G ∧ SAt G a b (k3 + 4 * i) ∧ ∃ acc : List V, G D = some (.lst acc) ∧ acc.length = i ∧ ∀ y ∈ acc, BtOk K (h3 a b D G) y) ⟨ExS.own ExS.rfl hD0 Da Db, sV.upd Da Db, [], upd_same, rfl, fun y hy => absurd hy (by simp)⟩ (fun i G _ q => SqL.of (q.1.at hq5 q3a q3b)) ?_ ?_
      · rintro i2 xw G hxw ⟨q1, q2, acc, q4, q5, q6⟩
        obtain ⟨u, ⟨q, xs, rfl, hqX, hq, hqd⟩, ulen⟩ := hvs xw (mem_of_get hxw)
        have il2 := (List.getElem?_eq_some_iff.mp hxw).1
        simp only [List.mem_cons, List.not_mem_nil, or_false, not_or] at hqX
        have qD : q ≠ D := ne_of_none hq hD0
        have eG : ExS a b Gc G := eV.trans q1
        have hDn : hid a b Gc D = none := hid_none (eV.back sV hD0)
        have emb : Ex (hid a b Gc) (h3 a b D G) := gh_ex hDn eG
        refine ⟨rfl, _, rfl, _, rfl, _, rfl, a, b, D, _, k3 + 4 * i2, l, q, vs0, xs, ss, u, rfl, q2, by omega, q4, emb _ _ hlc, dpa_ex emb _ _ hDc, by omega, ?_, dpa_ex emb _ _ hqd, ulen, fun G' v e' s' hv => ?_⟩
        · rw [h3_ne hqX.1 hqX.2.1 qD]
          exact q1.at hq hqX.1 hqX.2.1
        refine ⟨acc, e'.at q4 Da Db, by rw [q5]; exact sz_m (by omega), ExS.own (q1.trans e') hD0 Da Db, ?_, acc ++ [v], upd_same, by rw [List.length_append, q5]; rfl, fun y hy => ?_⟩
        · exact (s'.upd Da Db)
        · rw [show h3 a b D (upd G' D (.lst (acc ++ [v]))) = h3 a b D G' from by unfold h3; rw [hid_upd Da Db, hid_upda]]
          rcases List.mem_append.mp hy with hy | hy
          · exact (q6 y hy).ex (h3_S e')
          · obtain rfl := List.mem_singleton.mp hy
            exact hv
      rintro G6 ⟨q1, q2, acc, hD6, hal, hac⟩
      have e6 : ExS a b Gc G6 := eV.trans q1
      have hq6 : G6 q3 = some (.lst vs5) := q1.at hq5 q3a q3b
      refine ⟨_, _, _, rfl, rfl, hD6, by decide, by decide, by rw [hal]; show vs5.length * 2 ≤ _; exact sz_le (by omega), fun p1 hp1 => ?_⟩
      have hrp : (List.replicate (2 : Int).toNat acc).flatten = acc ++ acc := by
        show (List.replicate 2 acc).flatten = acc ++ acc
        simp [List.replicate]
      rw [hrp]
      have z1 := Ex.new (o := .lst (acc ++ acc)) hp1
      have f1 : upd G6 p1 (.lst (acc ++ acc)) p1 = some (.lst (acc ++ acc)) := upd_same
      generalize upd G6 p1 (.lst (acc ++ acc)) = A1 at z1 f1 ⊢
      refine ⟨q3, p1, _, _, rfl, rfl, z1 _ _ hq6, f1, sz_le (by rw [List.length_append]; omega), fun Z hZ => ?_⟩
      have z2 := Ex.new (o := .lst (vs5 ++ (acc ++ acc))) hZ
      have f2 : upd A1 Z (.lst (vs5 ++ (acc ++ acc))) Z = some (.lst (vs5 ++ (acc ++ acc))) := upd_same
      generalize upd A1 Z (.lst (vs5 ++ (acc ++ acc))) = G7 at z2 f2 ⊢
      have z12 := z1.trans z2
      have e7 : ExS a b Gc G7 := e6.trans (hid_mono z12)
      have s7 := q2.ex z12
      have hZb : hid a b G7 Z = some (.lst (vs5 ++ (acc ++ acc))) := by
        rw [hid_ne ((q2.ex z1).nea hZ) ((q2.ex z1).neb hZ)]
        exact f2
      have hal5 : acc.length = vs5.length := hal
      have bts : ∀ y ∈ vs5 ++ (acc ++ acc), BtOk K (hid a b G7) y := fun y hy => by
        have old : y ∈ acc → BtOk K (hid a b G7) y := fun h => (hac y h).ex (h3_le.trans (hid_mono z12))
        rcases List.mem_append.mp hy with hy | hy
        · obtain ⟨u, h1, h2⟩ := hvs y hy
          refine bt_ok e7 (h1.go fun z o hz hz2 => ⟨hz, ?_⟩) h2
          simp only [List.mem_cons, List.not_mem_nil, or_false, not_or] at hz
          exact z12 _ _ (q1.at hz2 hz.1 hz.2.1)
        · exact (List.mem_append.mp hy).elim old old
      have hzl : (vs5 ++ (acc ++ acc)).length ≤ 15 := by
        rw [List.length_append, List.length_append]
        omega
      have r7 : RS T a b H (k3 + 4 * vs5.length) G7 := (r4.go e6 q2).ex z12
      refine ⟨Z, rfl, ⟨_, SqL.of f2⟩, ?_⟩
      generalize vs5 ++ (acc ++ acc) = zs at f2 hZb bts hzl ⊢
      refine for_list (K := K) (a := Z) (xs := zs) (fun i3 σ G => ∃ x11 x12 k, σ = [some (.ref a), some (.ref x), some (.ref l), some (.ref li), some (.ref lo), some (.int (i : Nat)), some (.int bg), some (.int (j : Nat)), some (.int en), some (.ref q3), none, x11, x12, none] ∧ RS T a b H k G ∧ ExS a b G7 G ∧ k ≤ k3 + 4 * vs5.length + 500 * i3) ⟨_, _, _, rfl, r7, ExS.rfl, Nat.le_refl _⟩ (fun i3 σ G _ ⟨_, _, _, _, _, e, _⟩ => SqL.of (hid_ex _ _ (e _ _ hZb))) ?_ ?_
      · rintro i3 v σ G hv ⟨y11, y12, k, rfl, rG, eG, hk⟩
        have iz := (List.getElem?_eq_some_iff.mp hv).1
        have bt := (bts v (mem_of_get hv)).ex eG
        have inv : ∀ {G' G'' : Hp} {k' : Nat} {y12 : Option V}, ExS a b G G' → SAt G' a b k' → k' ≤ k + 500 → Ex G' G'' → ∃ x11 x12 k, [some (.ref a), some (.ref x), some (.ref l), some (.ref li), some (.ref lo), some (.int (i : Nat)), some (.int bg), some (.int (j : Nat)), some (.int en), some (.ref q3), none, some v, y12, none] = [some (.ref a), some (.ref x), some (.ref l), some (.ref li), some (.ref lo), some (.int (i : Nat)), some (.int bg), some (.int (j : Nat)), some (.int en), some (.ref q3), none, x11, x12, none] ∧ RS T a b H k G'' ∧ ExS a b G7 G'' ∧ k ≤ k3 + 4 * vs5.length + 500 * (i3 + 1) := fun {G' G'' k' y12} e s hk' e2 =>
          ⟨_, _, k', rfl, (rG.go e s).ex e2, Ex.trans (Ex.trans eG e) (hid_mono e2), by omega⟩
        have hbl : ∀ {G : Hp} (bb : Bool), Sm K C (PrtR K CW C) G 7 (.bl bb) (.bl bb) := fun bb => .inl ⟨rfl, rfl⟩
        refine ⟨_, rfl, _, rfl, a, b, k, v, rfl, rG.s, ?_⟩
        rcases bt with lkv | ⟨d, hd, hdo, hdd, hdc⟩
        · refine .inl ⟨by decide, lkv, fun G' e' s' => ?_⟩
          have rG' := rG.go e' s'
          refine ⟨_, rfl, _, rfl, _, rfl, _, rfl, x, wb, lw, pi, po, n, ts, is, os, _, _, v, rfl, GPt rG', htn, htz, .inr ⟨i, bg, rfl, hbg, .inr ⟨j, en, rfl, hen, .inl ⟨(lkv.ex e').ex hid_ex, fun G8 e8 => ?_⟩⟩⟩⟩
          refine ⟨_, rfl, _, rfl, _, rfl, _, rfl, l, vs0, ss, bg, en, v, rfl, SqL.of (Gl (rG'.ex e8)), GD (rG'.ex e8), .inl ⟨((lkv.ex e').ex hid_ex).ex e8, fun G9 e9 => ?_⟩⟩
          refine ⟨_, _, rfl, hbl false, fun G10 e10 => ⟨_, rfl, iteF ?_⟩⟩
          exact inv e' s' (by omega) (e8.trans (e9.trans e10))
        · refine .inr ⟨d, hd, by omega, by omega, by omega, fun G' v' d' e' s' hv' hz => ?_⟩
          have rG' := rG.go e' s'
          have hdv : Dp K G' v d := dp_ex (Ex.trans e' hid_ex) _ _ hd
          have hdv' : Dp K G' v' d' := dp_ex nw_le _ _ hv'
          cases hl' : isListD d' with
          | false =>
            have lk' := lk_dp hdv'
            rw [hl'] at lk'
            refine ⟨_, rfl, _, rfl, _, rfl, _, rfl, x, wb, lw, pi, po, n, ts, is, os, _, _, v', rfl, GPt rG', htn, htz, .inr ⟨i, bg, rfl, hbg, .inr ⟨j, en, rfl, hen, .inl ⟨lk', fun G8 e8 => ?_⟩⟩⟩⟩
            refine ⟨_, rfl, _, rfl, _, rfl, _, rfl, l, vs0, ss, bg, en, v, rfl, SqL.of (Gl (rG'.ex e8)), GD (rG'.ex e8), .inr ⟨d, dp_ex e8 _ _ hdv, hdo, fun G9 e9 => ?_⟩⟩
            rw [pass_no bg en hz hl']
            refine ⟨_, _, rfl, hbl false, fun G10 e10 => ⟨_, rfl, iteF ?_⟩⟩
            exact inv e' s' (by omega) (e8.trans (e9.trans e10))
          | true =>
            have hlen' : (itemsD d').length ≤ 1000000 := by
              have hld : isListD d = true := by
                rw [← (lz_items hz).1]
                exact hl'
              have h1 := (dok_items hdo hld).1
              rcases (lz_items hz).2 with h2 | h2
              · rw [← h2]
                exact h1
              · rw [← h2.len]
                exact h1
            refine ⟨_, rfl, _, rfl, _, rfl, _, rfl, x, wb, lw, pi, po, n, ts, is, os, _, _, v', rfl, GPt rG', htn, htz, .inr ⟨i, bg, rfl, hbg, .inr ⟨j, en, rfl, hen, .inr ⟨d', hdv', hl', hlen', fun G8 e8 => ?_⟩⟩⟩⟩
            rw [pass_yes htok htm bg en hz hl']
            refine ⟨_, rfl, _, rfl, _, rfl, _, rfl, l, vs0, ss, bg, en, v, rfl, SqL.of (Gl (rG'.ex e8)), GD (rG'.ex e8), .inr ⟨d, dp_ex e8 _ _ hdv, hdo, fun G9 e9 => ?_⟩⟩
            refine ⟨_, _, rfl, hbl _, fun G10 e10 => ⟨_, rfl, iteF ?_⟩⟩
            exact inv e' s' (by omega) (e8.trans (e9.trans e10))
      · rintro σ G ⟨x11, x12, k, rfl, rG, _, hk⟩
        exact ⟨_, _, _, _, _, k, rfl, rG, by omega⟩
    rintro σ G1 ⟨x5, x6, x7, x8, x9, x11, x12, k1, rfl, r1, hk1⟩
    -- no number of an in door
    refine ⟨fun σ G => ∃ x13, σ = [some (.ref a), some (.ref x), some (.ref l), some (.ref li), some (.ref lo), x5, x6, x7, x8, x9, none, x11, x12, x13] ∧ RS T a b H k1 G, ?_, ?_⟩
    · refine ⟨_, rfl, _, rfl, li, _, rfl, .inl (SqL.of (Gi r1)), by show 1 ≤ sizeLine; decide, fun t5 ht5 => ⟨Nat.zero_le _, fun l5 hl5 => fun d5 hd5 => ⟨by show 9 ≤ sizeLine; decide, fun u5 hu5 => ?_⟩⟩⟩
      rw [hmi]
      have y1 := Ex.new (o := .tup [V.int 0]) ht5
      have j1 : upd G1 t5 (.tup [V.int 0]) t5 = some (.tup [V.int 0]) := upd_same
      generalize upd G1 t5 (.tup [V.int 0]) = A1 at y1 j1 hl5 hd5 hu5 ⊢
      have y2 := Ex.new (o := .lst []) hl5
      have j2 : upd A1 l5 (.lst []) l5 = some (.lst []) := upd_same
      generalize upd A1 l5 (.lst []) = A2 at y2 j2 hd5 hu5 ⊢
      have y3 := Ex.new (o := .dK []) hd5
      have j3 : upd A2 d5 (.dK []) d5 = some (.dK []) := upd_same
      generalize upd A2 d5 (.dK []) = A3 at y3 j3 hu5 ⊢
      generalize hLs : ([V.non, V.int (-1), V.int (is.length : Int), V.bl true, V.str "0", V.ref t5, V.ref l5, V.ref d5, V.ref fD] : List V) = Ls
      have y4 := Ex.new (o := .lst Ls) hu5
      have j4 : upd A3 u5 (.lst Ls) u5 = some (.lst Ls) := upd_same
      refine ⟨u5, rfl, ⟨_, SqL.of j4⟩, ?_⟩
      generalize upd A3 u5 (.lst Ls) = A4 at y4 j4 ⊢
      have r5 := r1.ex (y1.trans (y2.trans (y3.trans y4)))
      have put : ∀ {p : Addr} {o : HO}, G1 p = none → A4 p = some o → (∀ ps, o ≠ .tbl ps) → nt (hid a b A4) p = some o := fun h0 h nn => nt_of (by rw [hid_ne (r1.s.nea h0) (r1.s.neb h0)]; exact h) nn
      have bu5 := put (fresh_back (y1.trans (y2.trans y3)) hu5) j4 fun ps z => nomatch z
      have odd5 : ∀ o ∈ Ls, OddD K C (PrtR K CW C) is.length (nt (hid a b A4)) o := fun o ho => by
        rw [← hLs] at ho
        simp only [List.mem_cons, List.not_mem_nil, or_false] at ho
        rcases ho with rfl | rfl | rfl | rfl | rfl | rfl | rfl | rfl | rfl
        · exact oddd_dp (d := .none) .non rfl rfl (by decide)
        · exact oddd_int (.inl (by decide))
        · exact oddd_int (.inr (Int.le_refl _))
        · exact oddd_dp (d := .bool true) (.bl true) rfl rfl (by decide)
        · exact oddd_dp (d := .str _) (.str _) rfl (by decide +kernel) (by show 0 < 6; decide)
        · exact oddd_dp (d := .tuple [.int 0]) (.tup (SqT.of (put ht5 ((y2.trans (y3.trans y4)) _ _ j1) fun ps z => nomatch z)) (.cons (.int 0) .nil)) rfl rfl (by decide)
        · exact oddd_dp (d := .list []) (.lst (SqL.of (put (fresh_back y1 hl5) ((y3.trans y4) _ _ j2) fun ps z => nomatch z)) .nil) rfl rfl (by decide)
        · exact oddd_dict (put (fresh_back (y1.trans y2) hd5) (y4 _ _ j3) fun ps z => nomatch z)
        · exact oddd_fn vD
      refine for_list (K := K) (a := u5) (xs := Ls) (fun i σ G => ∃ x13, σ = [some (.ref a), some (.ref x), some (.ref l), some (.ref li), some (.ref lo), x5, x6, x7, x8, x9, none, x11, x12, x13] ∧ RS T a b H k1 G ∧ NXs a b A4 G) ⟨_, rfl, r5, Ex.refl _⟩ (fun i σ G _ ⟨_, _, _, e⟩ => SqL.of (hid_ex _ _ (nt_le _ _ (e _ _ bu5)))) ?_ ?_
      · rintro i o σ G ho ⟨x13, rfl, rG, nG⟩
        obtain ⟨ob, oS⟩ := odd5 o (mem_of_get ho)
        refine ⟨rG.t, fun A6 eN t6 => ?_⟩
        have r6 := rG.N eN t6
        have n6 : NXs a b A4 A6 := Ex.trans nG (nxs_N eN)
        have emb : Ex (nt (hid a b A4)) A6 := Ex.trans n6 (nt_le.trans hid_ex)
        refine ⟨_, rfl, _, rfl, x, wb, lw, pi, po, n, ts, is, os, o, _, _, rfl, GPt r6, htn, htz, .inl ⟨ob.ex emb, fun A8 dd e8 h0 h1 => .inl ⟨rfl, dd, o, rfl, h1, fun p8 hp8 => ?_⟩⟩⟩
        have v2 := Ex.new (o := .tup [V.str "door", o]) hp8
        have i2 : upd A8 p8 (.tup [V.str "door", o]) p8 = some (.tup [V.str "door", o]) := upd_same
        generalize upd A8 p8 (.tup [V.str "door", o]) = A9 at v2 i2 ⊢
        refine ⟨_, rfl, by show 2 ≤ sizeLine; decide, fun p10 hp10 => ?_⟩
        have v3 := Ex.new (o := .tup [V.str "door", o]) hp10
        have i3 : upd A9 p10 (.tup [V.str "door", o]) p10 = some (.tup [V.str "door", o]) := upd_same
        generalize upd A9 p10 (.tup [V.str "door", o]) = A10 at v3 i3 ⊢
        have sS : Sm K C (PrtR K CW C) A10 6 (.str "door") (.str "door") := .inl ⟨rfl, by decide +kernel⟩
        refine ⟨.ref p8, .ref p10, rfl, .inr (.inr (.inl ⟨p8, p10, _, _, rfl, rfl, SqT.of (v3 _ _ i2), SqT.of i3, .cons sS (.cons (oS _ (emb.trans (e8.trans (v2.trans v3)))) .nil), by show 2 ≤ 1000000; decide⟩)), fun A11 e11 => ⟨_, rfl, iteF ?_⟩⟩
        have e := e8.trans (v2.trans (v3.trans e11))
        exact ⟨_, rfl, r6.ex e, Ex.trans n6 (nt_mono (hid_mono e))⟩
      · rintro σ G ⟨x13, rfl, rG, _⟩
        exact ⟨_, rfl, rG⟩
    rintro σ G2 ⟨x13, rfl, r2⟩
    -- no number of an out door
    refine ⟨fun σ G => ∃ x13, σ = [some (.ref a), some (.ref x), some (.ref l), some (.ref li), some (.ref lo), x5, x6, x7, x8, x9, none, x11, x12, x13] ∧ RS T a b H k1 G, ?_, ?_⟩
    · refine ⟨_, rfl, _, rfl, lo, _, rfl, .inl (SqL.of (Go r2)), by show 1 ≤ sizeLine; decide, fun t5 ht5 => ⟨Nat.zero_le _, fun l5 hl5 => fun d5 hd5 => ⟨_, rfl, by show 9 ≤ sizeLine; decide, fun u5 hu5 => ?_⟩⟩⟩
      rw [hmo]
      have y1 := Ex.new (o := .tup [V.int 0]) ht5
      have j1 : upd G2 t5 (.tup [V.int 0]) t5 = some (.tup [V.int 0]) := upd_same
      generalize upd G2 t5 (.tup [V.int 0]) = A1 at y1 j1 hl5 hd5 hu5 ⊢
      have y2 := Ex.new (o := .lst []) hl5
      have j2 : upd A1 l5 (.lst []) l5 = some (.lst []) := upd_same
      generalize upd A1 l5 (.lst []) = A2 at y2 j2 hd5 hu5 ⊢
      have y3 := Ex.new (o := .dK []) hd5
      have j3 : upd A2 d5 (.dK []) d5 = some (.dK []) := upd_same
      generalize upd A2 d5 (.dK []) = A3 at y3 j3 hu5 ⊢
      generalize hLs : ([V.non, V.int (-1), V.int (os.length : Int), V.bl true, V.str "0", V.ref t5, V.ref l5, V.ref d5, V.ref x] : List V) = Ls
      have y4 := Ex.new (o := .lst Ls) hu5
      have j4 : upd A3 u5 (.lst Ls) u5 = some (.lst Ls) := upd_same
      refine ⟨u5, rfl, ⟨_, SqL.of j4⟩, ?_⟩
      generalize upd A3 u5 (.lst Ls) = A4 at y4 j4 ⊢
      have r5 := r2.ex (y1.trans (y2.trans (y3.trans y4)))
      have put : ∀ {p : Addr} {o : HO}, G2 p = none → A4 p = some o → (∀ ps, o ≠ .tbl ps) → nt (hid a b A4) p = some o := fun h0 h nn => nt_of (by rw [hid_ne (r2.s.nea h0) (r2.s.neb h0)]; exact h) nn
      have bu5 := put (fresh_back (y1.trans (y2.trans y3)) hu5) j4 fun ps z => nomatch z
      have odd5 : ∀ o ∈ Ls, OddD K C (PrtR K CW C) os.length (nt (hid a b A4)) o := fun o ho => by
        rw [← hLs] at ho
        simp only [List.mem_cons, List.not_mem_nil, or_false] at ho
        rcases ho with rfl | rfl | rfl | rfl | rfl | rfl | rfl | rfl | rfl
        · exact oddd_dp (d := .none) .non rfl rfl (by decide)
        · exact oddd_int (.inl (by decide))
        · exact oddd_int (.inr (Int.le_refl _))
        · exact oddd_dp (d := .bool true) (.bl true) rfl rfl (by decide)
        · exact oddd_dp (d := .str _) (.str _) rfl (by decide +kernel) (by show 0 < 6; decide)
        · exact oddd_dp (d := .tuple [.int 0]) (.tup (SqT.of (put ht5 ((y2.trans (y3.trans y4)) _ _ j1) fun ps z => nomatch z)) (.cons (.int 0) .nil)) rfl rfl (by decide)
        · exact oddd_dp (d := .list []) (.lst (SqL.of (put (fresh_back y1 hl5) ((y3.trans y4) _ _ j2) fun ps z => nomatch z)) .nil) rfl rfl (by decide)
        · exact oddd_dict (put (fresh_back (y1.trans y2) hd5) (y4 _ _ j3) fun ps z => nomatch z)
        · exact oddd_part IC hCi hCb (bP.ex r5.e)
      refine for_list (K := K) (a := u5) (xs := Ls) (fun i σ G => ∃ x13, σ = [some (.ref a), some (.ref x), some (.ref l), some (.ref li), some (.ref lo), x5, x6, x7, x8, x9, none, x11, x12, x13] ∧ RS T a b H k1 G ∧ NXs a b A4 G) ⟨_, rfl, r5, Ex.refl _⟩ (fun i σ G _ ⟨_, _, _, e⟩ => SqL.of (hid_ex _ _ (nt_le _ _ (e _ _ bu5)))) ?_ ?_
      · rintro i o σ G ho ⟨x13, rfl, rG, nG⟩
        obtain ⟨ob, oS⟩ := odd5 o (mem_of_get ho)
        refine ⟨rG.t, fun A6 eN t6 => ?_⟩
        have r6 := rG.N eN t6
        have n6 : NXs a b A4 A6 := Ex.trans nG (nxs_N eN)
        have emb : Ex (nt (hid a b A4)) A6 := Ex.trans n6 (nt_le.trans hid_ex)
        refine ⟨_, rfl, _, rfl, x, wb, lw, pi, po, n, ts, is, os, .int 0, o, _, rfl, GPt r6, htn, htz, .inr ⟨0, x0, rfl, hx0, .inl ⟨ob.ex emb, fun A8 dd e8 h0 h1 => .inl ⟨rfl, dd, o, rfl, h1, fun p8 hp8 => ?_⟩⟩⟩⟩
        have v2 := Ex.new (o := .tup [V.str "door", o]) hp8
        have i2 : upd A8 p8 (.tup [V.str "door", o]) p8 = some (.tup [V.str "door", o]) := upd_same
        generalize upd A8 p8 (.tup [V.str "door", o]) = A9 at v2 i2 ⊢
        refine ⟨_, rfl, by show 2 ≤ sizeLine; decide, fun p10 hp10 => ?_⟩
        have v3 := Ex.new (o := .tup [V.str "door", o]) hp10
        have i3 : upd A9 p10 (.tup [V.str "door", o]) p10 = some (.tup [V.str "door", o]) := upd_same
        generalize upd A9 p10 (.tup [V.str "door", o]) = A10 at v3 i3 ⊢
        have sS : Sm K C (PrtR K CW C) A10 6 (.str "door") (.str "door") := .inl ⟨rfl, by decide +kernel⟩
        refine ⟨.ref p8, .ref p10, rfl, .inr (.inr (.inl ⟨p8, p10, _, _, rfl, rfl, SqT.of (v3 _ _ i2), SqT.of i3, .cons sS (.cons (oS _ (emb.trans (e8.trans (v2.trans v3)))) .nil), by show 2 ≤ 1000000; decide⟩)), fun A11 e11 => ⟨_, rfl, iteF ?_⟩⟩
        have e := e8.trans (v2.trans (v3.trans e11))
        exact ⟨_, rfl, r6.ex e, Ex.trans n6 (nt_mono (hid_mono e))⟩
      · rintro σ G ⟨x13, rfl, rG, _⟩
        exact ⟨_, rfl, rG⟩
    rintro σ G3 ⟨x13', rfl, r3⟩
    exact k G3 ⟨r3.e, r3.s.mono (by omega), r3.t⟩
end
end AA

set_option Elab.async false
set_option linter.all false
set_option maxRecDepth 100000
set_option maxHeartbeats 4000000
/-! Sets of steps: what is asked of a step, the search. -/
namespace AA
open PySem PySem.Spec PyProof.Rows L2
section
variable {P : Program} {w : World} {A : Around} {E : Value → Shared → Prop} {s : Shared}
/-- asked of each thing that a tuple holds -/
theorem cls_items {d n : Nat} {u : Addr} {o : Obj} {vs : Array Value} {Q : Bool → Shared → Prop} (ho : s.heap.get? u = some o) (hc : o.cls = .type "tuple") (hd : o.data = .seq vs n)
    (hv : ∀ v ∈ vs.toList, ∀ R : Bool → Shared → Prop, R false s → wpAny (model P w) A (ofAClassStatement d v) R E s) (h : Q false s) : wpAny (model P w) A (ofAClassStatement (d + 1) (.ref u)) Q E s := by
  have ty : s.TypeIs (.ref u) "tuple" := ⟨o, ho, hc⟩
  unfold ofAClassStatement
  refine wpAny_bind (wpAny_typeOf ty ?_)
  dsimp only
  simp only [show (("tuple" : String) == "tuple") = true from by decide, if_true, Bool.not_true, Bool.false_eq_true, if_false]
  try refine wpAny_bind (wpAny_pure ?_)
  try simp only [Bool.not_true, Bool.false_eq_true, if_false]
  show wpAny _ _ (seqItems? (.ref u) >>= _) _ _ s
  refine wpAny_bind (wpAny_seqItems ho hd ?_)
  dsimp only
  refine wpAny_bind ?_
  show wpAny _ _ (forIn vs _ _) _ _ s
  rw [← Array.forIn_toList]
  refine wpAny_forIn_list _ (fun r b z => b.1 = none ∧ z = s ∧ ∀ v ∈ r, v ∈ vs.toList) _ ?_ ?_ _ _ ⟨rfl, rfl, fun v m => m⟩
  · rintro v r b z ⟨hb, rfl, all⟩
    refine wpAny_bind (hv v (all v List.mem_cons_self) _ ?_)
    simp only [Bool.false_eq_true, if_false]
    exact wpAny_pure ⟨rfl, rfl, fun u m => all u (List.mem_cons_of_mem _ m)⟩
  · rintro ⟨b1, b2⟩ z ⟨hb, rfl, _⟩
    simp only at hb
    subst hb
    exact wpAny_pure h
theorem byv_items {d n : Nat} {u : Addr} {o : Obj} {vs : Array Value} {Q : Bool → Shared → Prop} (ho : s.heap.get? u = some o) (hc : o.cls = .type "tuple") (hd : o.data = .seq vs n)
    (hv : ∀ v ∈ vs.toList, ∀ R : Bool → Shared → Prop, R true s → wpAny (model P w) A (hashByValue d v) R E s) (h : Q true s) : wpAny (model P w) A (hashByValue (d + 1) (.ref u)) Q E s := by
  have ty : s.TypeIs (.ref u) "tuple" := ⟨o, ho, hc⟩
  unfold hashByValue
  refine wpAny_bind (wpAny_specialOf ty F.slot_tuple_hash.lookup ?_)
  show wpAny _ _ (seqItems? (.ref u) >>= _) _ _ s
  refine wpAny_bind (wpAny_seqItems ho hd ?_)
  refine wpAny_bind ?_
  show wpAny _ _ (forIn vs _ _) _ _ s
  rw [← Array.forIn_toList]
  refine wpAny_forIn_list _ (fun r b z => b.1 = none ∧ z = s ∧ ∀ v ∈ r, v ∈ vs.toList) _ ?_ ?_ _ _ ⟨rfl, rfl, fun v m => m⟩
  · rintro v r b z ⟨hb, rfl, all⟩
    refine wpAny_bind (hv v (all v List.mem_cons_self) _ ?_)
    simp only [Bool.not_true, Bool.false_eq_true, if_false]
    exact wpAny_pure ⟨rfl, rfl, fun u m => all u (List.mem_cons_of_mem _ m)⟩
  · rintro ⟨b1, b2⟩ z ⟨hb, rfl, _⟩
    simp only at hb
    subst hb
    exact wpAny_pure h
theorem cls_int {d : Nat} {i : Int} {t : Tok} {R : Bool → Shared → Prop} (h : R false s) : wpAny (model P w) A (ofAClassStatement d (.int i t)) R E s := by
  rw [ofAClass_int]
  exact wpAny_pure h
theorem byv_int {d : Nat} {i : Int} {t : Tok} {R : Bool → Shared → Prop} (h : R true s) : wpAny (model P w) A (hashByValue d (.int i t)) R E s := by
  rw [hashBy_int]
  exact wpAny_pure h
theorem cls_st {k : St5} {b : Addr} {Q : Bool → Shared → Prop} (x : IsSt s.heap (.ref b) k) (h : Q false s) : wpAny (model P w) A (ofAClassStatement 8 (.ref b)) Q E s := by
  obtain ⟨a, u, o, r, n, m, t1, t2, t3, t4, t5, t6, e, g1, g2, g3, g4, g5, g6⟩ := x
  cases e
  refine cls_items g1 g2 g3 (fun v hv R hR => ?_) h
  simp only [List.mem_cons, List.not_mem_nil, or_false] at hv
  rcases hv with rfl | rfl | rfl | rfl | rfl
  · exact cls_int hR
  · exact cls_int hR
  · refine cls_items g4 g5 g6 (fun v2 hv2 R2 hR2 => ?_) hR
    simp only [List.mem_cons, List.not_mem_nil, or_false] at hv2
    rcases hv2 with rfl | rfl <;> exact cls_int hR2
  · exact cls_int hR
  · exact cls_int hR
theorem byv_st {k : St5} {b : Addr} {Q : Bool → Shared → Prop} (x : IsSt s.heap (.ref b) k) (h : Q true s) : wpAny (model P w) A (hashByValue 8 (.ref b)) Q E s := by
  obtain ⟨a, u, o, r, n, m, t1, t2, t3, t4, t5, t6, e, g1, g2, g3, g4, g5, g6⟩ := x
  cases e
  refine byv_items g1 g2 g3 (fun v hv R hR => ?_) h
  simp only [List.mem_cons, List.not_mem_nil, or_false] at hv
  rcases hv with rfl | rfl | rfl | rfl | rfl
  · exact byv_int hR
  · exact byv_int hR
  · refine byv_items g4 g5 g6 (fun v2 hv2 R2 hR2 => ?_) hR
    simp only [List.mem_cons, List.not_mem_nil, or_false] at hv2
    rcases hv2 with rfl | rfl <;> exact byv_int hR2
  · exact byv_int hR
  · exact byv_int hR
theorem seen_st {k : St5} {b : Addr} {Q : Bool → Shared → Prop} (x : IsSt s.heap (.ref b) k) {ys : List Value} (hy : ∀ y ∈ ys, ∃ k' c, y = Value.ref c ∧ IsSt s.heap (.ref c) k') (h : Q false s) : wpAny (model P w) A (searchCouldBeSeen (.ref b) ys) Q E s := by
  have qu : ∀ {k' : St5} {c : Addr} {R : Bool → Shared → Prop}, IsSt s.heap (.ref c) k' → R true s → wpAny (model P w) A (eqIsQuiet 8 (.ref c)) R E s := fun z hR => quiet_key _ _ 8 s z.nested (by simp [stK, NestedKey.depth, NestedKey.depthAll]) A E _ hR
  unfold searchCouldBeSeen
  refine wpAny_bind ?_
  refine wpAny_forIn_list _ (fun r b2 z => b2.1 = none ∧ z = s ∧ ∀ y ∈ r, y ∈ ys) _ ?_ ?_ _ _ ⟨rfl, rfl, fun y m => m⟩
  · rintro v r b2 z ⟨hb, rfl, all⟩
    obtain ⟨k', c, rfl, hc⟩ := hy v (all _ List.mem_cons_self)
    have on : ∀ u ∈ r, u ∈ ys := fun u m => all u (List.mem_cons_of_mem _ m)
    dsimp only
    by_cases hv : (b == c || (carriedByValue (.ref b) && carriedByValue (.ref c))) = true
    · exact wp_if_pos hv (wpAny_pure ⟨rfl, rfl, on⟩)
    · refine wp_if_neg hv (wpAny_bind (qu x ?_))
      simp only [Bool.not_true, Bool.false_eq_true, if_false]
      refine wpAny_bind (qu hc ?_)
      simp only [Bool.not_true, Bool.false_eq_true, if_false]
      refine wpAny_bind (cls_st x ?_)
      simp only [Bool.false_eq_true, if_false]
      refine wpAny_bind (cls_st hc ?_)
      simp only [Bool.false_eq_true, if_false]
      exact wpAny_pure ⟨rfl, rfl, on⟩
  · rintro ⟨b1, b2⟩ z ⟨hb, rfl, _⟩
    simp only at hb
    subst hb
    exact wpAny_pure h
theorem eqb_st {x y : St5} {a b : Addr} {Q : Bool → Shared → Prop} (hu : A.units + 8 < cLine) (hx : IsSt s.heap (.ref a) x) (hy : IsSt s.heap (.ref b) y) (h : Q (decide (x = y)) s) : wpAny (model P w) A (eqBool (.ref a) (.ref b)) Q E s := by
  refine (nestedKind P w).eqBool hu hx.key hy.key ?_
  have e : decide (stK x = stK y) = decide (x = y) := by
    by_cases q : x = y
    · rw [decide_eq_true q, decide_eq_true (congrArg stK q)]
    · rw [decide_eq_false q, decide_eq_false fun z => q (stK_inj z)]
  rw [e]
  exact h
/-! ### the table -/
def sRows (g : St5 → Int) (L : List (Addr × St5)) : List (Int × Value) := L.map fun q => (g q.2, Value.ref q.1)
/-- a set at a, its steps L in the order of its table -/
structure SSt (w : World) (g : St5 → Int) (h : Heap) (a : Addr) (L : List (Addr × St5)) (es : Array (Int × Value)) (ep : Nat) (t : SetTable) : Prop where
  at_ : ∃ o, h.get? a = some o ∧ o.ExactSet ∧ o.data = .set es ep t
  rw_ : es.toList = sRows g L
  tab : TabOk t (L.map fun q => g q.2)
  nd : (L.map (·.2)).Nodup
  st : ∀ q ∈ L, IsSt h (.ref q.1) q.2
  pl : t.plain = true
  led : w.params.followText "set-order" = true ∨ t.led = true
  rm : L.length * 5 < t.mask * 3
  few : L.length < 64
variable {g : St5 → Int} {a : Addr} {L : List (Addr × St5)} {es : Array (Int × Value)} {ep : Nat} {t : SetTable}
theorem rows_len (h : es.toList = sRows g L) : es.size = L.length := by
  have := congrArg List.length h
  unfold sRows at this
  rw [List.length_map, Array.length_toList] at this
  exact this
theorem SSt.sz (R : SSt w g s.heap a L es ep t) : es.size = L.length := rows_len R.rw_
theorem SSt.fit (R : SSt w g s.heap a L es ep t) : t.fits es.size = true := by
  have z1 := R.tab.sz
  have z2 := R.rm
  rw [List.length_map] at z1
  unfold SetTable.fits SetTable.fill
  rw [R.tab.dm, Bool.and_eq_true, beq_iff_eq, decide_eq_true_eq, R.sz]
  show t.place.size = L.length ∧ t.place.size + 0 ≤ t.mask
  omega
theorem SSt.ent (R : SSt w g s.heap a L es ep t) {i : Nat} {q : Addr × St5} (h : L[i]? = some q) : es[i]? = some (g q.2, Value.ref q.1) := by
  rw [← Array.getElem?_toList, R.rw_]
  unfold sRows
  rw [List.getElem?_map, h]
  rfl
theorem SSt.odd (R : SSt w g s.heap a L es ep t) : ¬ t.gaveWay = true := by
  unfold SetTable.gaveWay
  rw [mask_odd R.tab.mok]
  decide
theorem nth_dummy {m : Nat} : ∀ (n : Nat) (p : SetTable.Probe), p.dummy = none → (nth m p n).dummy = none
  | 0, _, h => h
  | n + 1, p, h => nth_dummy n (adv m p) (by
    unfold adv
    split <;> exact h)
/-- where the search stands behind c turns -/
abbrev stp (t : SetTable) (h : Int) (c : Nat) : SetTable.Probe := nth t.mask (runAt t.mask (SetTable.bits h % (t.mask + 1)) (SetTable.bits h)) c
theorem st_from (R : SSt w g s.heap a L es ep t) {x : Addr} {k : St5} (hx : IsSt s.heap (.ref x) k) (hu : A.units + 8 < cLine) {N : Nat} (hN1 : N < 10 * SetTable.turns t.mask)
    (hN2 : way t.mask (g k) N ∉ t.place.toList) (hN3 : ∀ c, c < N → way t.mask (g k) c ∈ t.place.toList) {Q : SetFound → Shared → Prop}
    (yes : k ∈ L.map (·.2) → Q (.there none) s) (no : k ∉ L.map (·.2) → Q (.free (way t.mask (g k) N) false) s) :
    ∀ (f c : Nat) (sd : Option SetTable.Probe), sd.getD (t.probeStart (g k)) = stp t (g k) c → c ≤ N → N - c < f →
      (∀ (i : Nat) q, L[i]? = some q → q.2 = k → ∃ d, c ≤ d ∧ d < N ∧ t.place.toList[i]? = some (way t.mask (g k) d)) →
      wpAny (model P w) A (setSearchFrom a (.ref x) (g k) true f sd) Q E s := by
  intro f
  induction f with
  | zero => exact fun c sd _ _ z _ => absurd z (Nat.not_lt_zero _)
  | succ f ih =>
    intro c sd hsd hc hf ahead
    obtain ⟨o, ho, hex, hd⟩ := R.at_
    rw [setSearchFrom_succ]
    refine wpAny_bind (wpAny_setState_of ho hd R.fit ?_)
    dsimp only
    refine wp_if_neg R.odd ?_
    try refine wpAny_bind (wpAny_pure ?_)
    have on : ∀ q, (nth t.mask (stp t (g k) c) q) = stp t (g k) (c + q) := fun q => (nth_add t.mask c _ q).symm
    have onj : ∀ q, (nth t.mask (stp t (g k) c) q).j = way t.mask (g k) (c + q) := fun q => congrArg SetTable.Probe.j (on q)
    have spec := go_spec t R.tab.ris R.tab.dm (fun i => (es[i]?.map (·.1)).getD 0) (g k) (10 * SetTable.turns t.mask) (N - c) (stp t (g k) c) (nth_dummy c _ rfl) (by omega)
      (fun q hq => by rw [onj]; exact hN3 (c + q) (by omega)) (by rw [onj, show c + (N - c) = N by omega]; exact hN2)
    have hsh : ∀ (i : Nat) q, L[i]? = some q → (fun i => (es[i]?.map (·.1)).getD 0) i = g q.2 := fun i q hq => by
      show (es[i]?.map (·.1)).getD 0 = _
      rw [R.ent hq]
      rfl
    rcases spec with ⟨q, i, hq, hi, hh, hno, hpr⟩ | ⟨hno, hpr⟩
    · have found : t.probe (fun i => (es[i]?.map (·.1)).getD 0) (g k) (sd.getD (t.probeStart (g k))) = some (.candidate (way t.mask (g k) (c + q)) i (stp t (g k) (c + (q + 1)))) := by
        rw [hsd, ← onj, ← on]
        exact hpr
      rw [found]
      dsimp only
      rw [onj] at hi
      have il : i < L.length := by
        have z1 := (List.getElem?_eq_some_iff.mp hi).1
        have z2 := R.tab.sz
        rw [List.length_map] at z2
        rw [Array.length_toList] at z1
        omega
      obtain ⟨y, hy⟩ : ∃ y, L[i]? = some y := ⟨_, List.getElem?_eq_getElem il⟩
      have ym : y ∈ L := List.mem_of_getElem? hy
      have live : t.slot (way t.mask (g k) (c + q)) = .live i := slot_live R.tab.ris hi
      have rest : wpAny (model P w) A (searchRest a (.ref x) (g k) true f es t (way t.mask (g k) (c + q)) i (stp t (g k) (c + (q + 1)))) Q E s := by
        unfold searchRest
        rw [R.ent hy]
        dsimp only
        refine wpAny_bind (wpAny_holding (eqb_st hu (R.st y ym) hx ?_))
        refine wpAny_bind (wpAny_setState_of ho hd R.fit ?_)
        dsimp only
        by_cases hk : y.2 = k
        · refine wp_if_pos (by simp [hk]) (wpAny_pure (yes ?_))
          exact List.mem_map.mpr ⟨y, ym, hk⟩
        · refine wp_if_neg (by simp [hk]) ?_
          try refine wpAny_bind (wpAny_pure ?_)
          rw [sameMem]
          dsimp only
          simp only [if_true, live, R.ent hy]
          refine wpAny_bind (wpAny_isSame_ref_self (wpAny_bind (wpAny_pure ?_)))
          simp only [if_true]
          refine wp_if_neg (by simp [hk]) ?_
          refine ih (c + (q + 1)) _ rfl (by omega) (by omega) fun i0 y0 h0 k0 => ?_
          obtain ⟨d, d1, d2, d3⟩ := ahead i0 y0 h0 k0
          refine ⟨d, ?_, d2, d3⟩
          rcases Nat.lt_trichotomy d (c + q) with z | z | z
          · refine absurd ((hsh i0 y0 h0).trans (congrArg g k0)) (hno (d - c) i0 (by omega) ?_)
            rw [onj, show c + (d - c) = d by omega]
            exact d3
          · subst z
            have z1 := slot_live R.tab.ris d3
            rw [live] at z1
            injection z1 with z1
            subst z1
            rw [hy] at h0
            cases h0
            exact absurd k0 hk
          · omega
      by_cases hl : t.led = true
      · refine wp_if_neg (by simp [hl]) ?_
        try refine wpAny_bind (wpAny_pure ?_)
        exact rest
      · refine wp_if_pos (by simp [hl]) ?_
        refine wpAny_bind (seen_st hx (fun v hv => ?_) ?_)
        · obtain ⟨e, he, ee⟩ := List.mem_map.mp hv
          have he1 : e ∈ es ∧ e.1 = g k := by simpa using he
          have he2 : e ∈ es.toList := by simpa using he1.1
          rw [R.rw_] at he2
          obtain ⟨y2, m2, e2⟩ := List.mem_map.mp he2
          exact ⟨y2.2, y2.1, by rw [← ee, ← e2], R.st y2 m2⟩
        · refine wp_if_neg (by decide) ?_
          try refine wpAny_bind (wpAny_pure ?_)
          exact rest
    · have gone : t.probe (fun i => (es[i]?.map (·.1)).getD 0) (g k) (sd.getD (t.probeStart (g k))) = some (.empty (way t.mask (g k) N) none) := by
        have e2 : way t.mask (g k) N = (nth t.mask (stp t (g k) c) (N - c)).j := by
          rw [onj, show c + (N - c) = N by omega]
        rw [hsd, e2]
        exact hpr
      rw [gone]
      dsimp only
      refine wpAny_pure (no fun hm => ?_)
      obtain ⟨y0, m0, k0⟩ := List.mem_map.mp hm
      obtain ⟨i0, h0⟩ := List.mem_iff_getElem?.mp m0
      obtain ⟨d, d1, d2, d3⟩ := ahead i0 y0 h0 k0
      refine hno (d - c) i0 (by omega) ?_ ((hsh i0 y0 h0).trans (congrArg g k0))
      rw [onj, show c + (d - c) = d by omega]
      exact d3
theorem st_search (R : SSt w g s.heap a L es ep t) {x : Addr} {k : St5} (hx : IsSt s.heap (.ref x) k) (hu : A.units + 8 < cLine) {Q : SetFound → Shared → Prop} (yes : k ∈ L.map (·.2) → Q (.there none) s)
    (no : ∀ N, k ∉ L.map (·.2) → way t.mask (g k) N ∉ t.place.toList → (∀ c, c < N → way t.mask (g k) c ∈ t.place.toList) → Q (.free (way t.mask (g k) N) false) s) :
    wpAny (model P w) A (setSearch a (.ref x) (g k) true) Q E s := by
  have rm := R.rm
  obtain ⟨N, n1, n2, n3⟩ := R.tab.first (by rw [List.length_map]; omega) (g k)
  have big : 10 * SetTable.turns t.mask ≤ 1420 := by
    unfold SetTable.turns
    rcases R.tab.mok with e | e | e <;> omega
  unfold setSearch
  refine st_from R hx hu n1 n2 n3 yes (fun hn => no N hn n2 n3) 100000 0 none rfl (Nat.zero_le _) (by omega) fun i q hq hk => ?_
  have il := (List.getElem?_eq_some_iff.mp hq).1
  have z := R.tab.sz
  rw [List.length_map] at z
  have hi : (L.map fun q => g q.2)[i]? = some (g k) := by
    rw [List.getElem?_map, hq, ← hk]
    rfl
  have hj : t.place.toList[i]? = some (t.place.toList[i]'(by rw [Array.length_toList]; omega)) := List.getElem?_eq_getElem _
  obtain ⟨d, d1, d2⟩ := R.tab.before n2 hi hj
  exact ⟨d, Nat.zero_le _, d1, by rw [hj, d2]⟩
end
end AA

set_option Elab.async false
set_option linter.all false
set_option maxRecDepth 100000
set_option maxHeartbeats 4000000
/-! Sets of steps: one more, the table laid anew. -/
namespace AA
open PySem PySem.Spec PyProof.Rows L2
section
variable {P : Program} {w : World} {A : Around} {E : Value → Shared → Prop} {s : Shared} {g : St5 → Int} {a : Addr} {L : List (Addr × St5)} {es : Array (Int × Value)} {ep : Nat} {t : SetTable}
theorem st_same {h h' : Heap} {k : St5} {b : Addr} {o : Obj} (hb : IsSt h (.ref b) k) (ho : h.get? a = some o) (hx : o.ExactSet) (hs : Heap.SameBut a h h') : IsSt h' (.ref b) k := by
  refine hb.keeps fun c u hu hc => (hs.2 c fun e => ?_).trans hu
  subst e
  rw [ho] at hu
  cases hu
  rw [hx.1] at hc
  exact absurd (Value.type.inj hc) (by decide)
theorem rows_ins (p : Nat) (x : Addr) (k : St5) : sRows g (L.take p ++ (x, k) :: L.drop p) = (sRows g L).take p ++ (g k, Value.ref x) :: (sRows g L).drop p := by
  unfold sRows
  rw [List.map_append, List.map_cons, List.map_take, List.map_drop]
theorem fm_idx {α : Type} (l : List α) : ∀ n, n ≤ l.length → (List.range n).filterMap (fun i => l[i]?) = l.take n
  | 0, _ => rfl
  | n + 1, hn => by
    have lt : n < l.length := hn
    have e : l[n]? = some l[n] := List.getElem?_eq_getElem lt
    rw [List.range_succ, List.filterMap_append, fm_idx l n (Nat.le_of_lt lt), List.take_add_one, e]
    rw [List.filterMap_cons_some e]
    rfl
/-- the rows in another order -/
theorem rows_order (order : Array Nat) (hr : es.toList = sRows g L) (hp : order.toList.Perm (List.range L.length)) :
    ∃ M, (order.filterMap (es[·]?)).toList = sRows g M ∧ M.Perm L ∧ (M.map fun q => g q.2) = order.toList.map fun i => (es.map (·.1)).getD i 0 := by
  have at_ : ∀ (i : Nat) (q : Addr × St5), L[i]? = some q → es[i]? = some (g q.2, Value.ref q.1) := fun i q hq => by
    rw [← Array.getElem?_toList, hr]
    unfold sRows
    rw [List.getElem?_map, hq]
    rfl
  have all : ∀ l : List Nat, (∀ i ∈ l, i < L.length) → l.filterMap (fun i => es[i]?) = sRows g (l.filterMap fun i => L[i]?) ∧ ((l.filterMap fun i => L[i]?).map fun q => g q.2) = l.map fun i => (es.map (·.1)).getD i 0 := by
    intro l
    induction l with
    | nil => exact fun _ => ⟨rfl, rfl⟩
    | cons i l ih =>
      intro hl
      obtain ⟨z1, z2⟩ := ih fun j hj => hl j (List.mem_cons_of_mem _ hj)
      obtain ⟨q, hq⟩ : ∃ q, L[i]? = some q := ⟨_, List.getElem?_eq_getElem (hl i List.mem_cons_self)⟩
      have he := at_ i q hq
      have hg : (es.map (·.1)).getD i 0 = g q.2 := by
        have e5 : (es.map (·.1))[i]? = some (g q.2) := by
          rw [Array.getElem?_map, he]
          rfl
        simp [Array.getD_eq_getD_getElem?, e5]
      rw [List.filterMap_cons_some (f := fun i => es[i]?) he, List.filterMap_cons_some (f := fun i => L[i]?) hq, z1]
      exact ⟨rfl, by rw [List.map_cons, List.map_cons, z2, hg]⟩
  obtain ⟨z1, z2⟩ := all order.toList fun i hi => List.mem_range.mp (hp.mem_iff.mp hi)
  refine ⟨order.toList.filterMap fun i => L[i]?, by first | (rw [Array.toList_filterMap]; exact z1) | simpa using z1, ?_, z2⟩
  have h1 := hp.filterMap fun i => L[i]?
  rw [fm_idx L L.length (Nat.le_refl _), List.take_length] at h1
  exact h1
theorem st_relay {o : Obj} (ho : s.heap.get? a = some o) (hx : o.ExactSet) (hd : o.data = .set es ep t) (hr : es.toList = sRows g L) (hz : t.place.size = es.size) (hm : t.dummies = #[]) (hl : es.size ≤ t.mask)
    (nd : (L.map (·.2)).Nodup) (st : ∀ q ∈ L, IsSt s.heap (.ref q.1) q.2) (pl : t.plain = true) (led : w.params.followText "set-order" = true ∨ t.led = true) (few : L.length < 64) {wd M : Nat}
    (hw : SetTable.sizeAbove wd - 1 = M) (hM : MaskOk M) (hw2 : SetTable.sizeAbove wd ≤ 128) (hn : L.length * 5 < M * 3) {Q : Unit → Shared → Prop}
    (k : ∀ h' L' es' ep' t', Heap.SameBut a s.heap h' → SSt w g h' a L' es' ep' t' → L'.Perm L → Q () { s with heap := h' }) : wpAny (model P w) A (setRelay a wd) Q E s := by
  have hsl := rows_len hr
  have fit : t.fits es.size = true := by
    unfold SetTable.fits SetTable.fill
    rw [hm, Bool.and_eq_true, beq_iff_eq, decide_eq_true_eq]
    show t.place.size = es.size ∧ t.place.size + 0 ≤ t.mask
    omega
  obtain ⟨t', order, e, hp, T, em, el, epl, _⟩ := relaid_ok t (hs := es.map (·.1)) (wanted := wd) hw hM (by rw [Array.size_map, hsl]; omega)
  rw [Array.size_map, hsl] at hp
  obtain ⟨L2, r1, r2, r3⟩ := rows_order order hr hp
  rw [← r3] at T
  have hz2 : (order.filterMap (es[·]?)).size = es.size := by rw [rows_len r1, r2.length_eq, hsl]
  rw [setRelay_eq]
  refine wpAny_bind (wpAny_setState_of ho hd fit ?_)
  dsimp only
  refine wp_if_neg (by rw [sizeLine_eq]; omega) ?_
  try refine wpAny_bind (wpAny_pure ?_)
  rw [e]
  dsimp only
  refine wpAny_bind (wp_if_neg (by rw [hz2]; simp) ?_)
  try refine wpAny_bind (wpAny_pure ?_)
  refine wpAny_pure ?_
  dsimp only
  refine wpAny_storeSet_of ho hd ?_ (by rw [hz2, hsl, sizeLine_eq]; omega)
  have sb : Heap.SameBut a s.heap (s.heap.update a (Obj.putSet (order.filterMap (es[·]?)) t')) := Heap.SameBut.update ..
  refine k _ L2 _ (ep + 1) t' sb ⟨⟨_, store_at ho hd, ⟨hx.1, hx.2.1, hx.2.2⟩, rfl⟩, r1, T, (r2.map (·.2)).nodup_iff.mpr nd, fun q hq => st_same (st q (r2.mem_iff.mp hq)) ho hx sb, by rw [epl]; exact pl, by rw [el]; exact led, ?_, by rw [r2.length_eq]; exact few⟩ r2
  rw [r2.length_eq, em]
  exact hn
theorem st_add (R : SSt w g s.heap a L es ep t) {x : Addr} {k : St5} (hx : IsSt s.heap (.ref x) k) (hu : A.units + 8 < cLine) (hf : L.length + 1 < 64) {Q : Bool → Shared → Prop}
    (kq : ∀ b h' L' es' ep' t', Heap.SameBut a s.heap h' → SSt w g h' a L' es' ep' t' → (k ∈ L.map (·.2) → L' = L) → (k ∉ L.map (·.2) → L'.Perm ((x, k) :: L)) → Q b { s with heap := h' }) :
    wpAny (model P w) A (setAddHashed a (.ref x) (g k)) Q E s := by
  obtain ⟨o, ho, hex, hd⟩ := R.at_
  have hsl := R.sz
  have rm := R.rm
  unfold setAddHashed
  refine wpAny_holding ?_
  rw [show (100000 : Nat) = 99999 + 1 from rfl, setAddHashedIn_succ]
  refine wpAny_bind (wpAny_setState_of ho hd R.fit ?_)
  dsimp only
  refine wp_if_neg (by simp [byScan, Value.scannable]) ?_
  try refine wpAny_bind (wpAny_pure ?_)
  refine wpAny_bind (st_search R hx hu (fun hm => ?_) fun N hm n2 n3 => ?_)
  · dsimp only
    exact wpAny_pure (kq false s.heap L es ep t (Heap.SameBut.refl a s.heap) R (fun _ => rfl) fun z => absurd hm z)
  dsimp only
  refine wpAny_bind (wpAny_setState_of ho hd R.fit ?_)
  dsimp only
  obtain ⟨q1, q2, q3, q4, q5, q6, q7, q8, q9⟩ := R.tab.put n2 n3
  have plain : (t.put (way t.mask (g k) N)).1.plain = true := q6.trans R.pl
  generalize hpt : t.put (way t.mask (g k) N) = pt at q1 q3 q4 q5 q6 q7 q8 q9 plain ⊢
  obtain ⟨t1, p⟩ := pt
  dsimp only at q1 q3 q4 q5 q6 q7 q8 q9 plain ⊢
  subst q1
  first
    | (refine wpAny_bind ?_; refine wp_if_pos plain ?_; refine byv_st hx ?_)
    | refine wp_if_pos plain (wpAny_bind (byv_st hx ?_))
  simp only [if_true]
  have ins : (SetTable.insertAt es (SetTable.below t.place (way t.mask (g k) N)) (g k, Value.ref x)).toList = sRows g (L.take (SetTable.below t.place (way t.mask (g k) N)) ++ (x, k) :: L.drop (SetTable.below t.place (way t.mask (g k) N))) := by
    rw [SetTable.toList_insertAt, rows_ins, R.rw_]
  generalize SetTable.below t.place (way t.mask (g k) N) = p at q2 q3 ins ⊢
  have pm : (L.take p ++ (x, k) :: L.drop p).Perm ((x, k) :: L) := by
    have z : (L.take p ++ (x, k) :: L.drop p).Perm ((x, k) :: (L.take p ++ L.drop p)) := List.perm_middle
    rw [List.take_append_drop] at z
    exact z
  have hlen : (L.take p ++ (x, k) :: L.drop p).length = L.length + 1 := pm.length_eq
  have hh : (L.take p ++ (x, k) :: L.drop p).map (fun q => g q.2) = (L.map fun q => g q.2).take p ++ g k :: (L.map fun q => g q.2).drop p := by
    rw [List.map_append, List.map_cons, List.map_take, List.map_drop]
  rw [← hh] at q3
  have nd1 : ((L.take p ++ (x, k) :: L.drop p).map (·.2)).Nodup := (pm.map (·.2)).nodup_iff.mpr (List.nodup_cons.mpr ⟨hm, R.nd⟩)
  have hes : (SetTable.insertAt es p (g k, Value.ref x)).size = L.length + 1 := (rows_len ins).trans hlen
  generalize SetTable.insertAt es p (g k, Value.ref x) = es1 at ins hes ⊢
  generalize L.take p ++ (x, k) :: L.drop p = L1 at pm hlen q3 nd1 ins
  refine wpAny_bind (wpAny_storeSet_of ho hd ?_ (by rw [hes, sizeLine_eq]; omega))
  have sb : Heap.SameBut a s.heap (s.heap.update a (Obj.putSet es1 t1)) := Heap.SameBut.update ..
  have ho1 := store_at (es' := es1) (t' := t1) ho hd
  generalize s.heap.update a (Obj.putSet es1 t1) = h1 at sb ho1 ⊢
  have st1 : ∀ q ∈ L1, IsSt h1 (.ref q.1) q.2 := fun q hq => by
    rcases List.mem_cons.mp (pm.mem_iff.mp hq) with e | hq
    · rw [e]
      exact st_same hx ho hex sb
    · exact st_same (R.st q hq) ho hex sb
  have led1 : w.params.followText "set-order" = true ∨ t1.led = true := by
    rw [q5]
    exact R.led
  have ex1 : ({ o with data := .set es1 (ep + 1) t1 } : Obj).ExactSet := ⟨hex.1, hex.2.1, hex.2.2⟩
  by_cases full : t1.tooFull = true
  case neg =>
    first
      | refine wp_if_neg (by simp [full]) ?_
      | (refine wpAny_bind ?_; refine wp_if_neg (by simp [full]) ?_; refine wpAny_pure ?_)
    refine wpAny_pure (kq true h1 L1 es1 (ep + 1) t1 sb ⟨⟨_, ho1, ex1, rfl⟩, ins, q3, nd1, st1, plain, led1, ?_, by rw [hlen]; exact hf⟩ (fun z => absurd z hm) fun _ => pm)
    have z := full
    unfold SetTable.tooFull at z
    rw [decide_eq_true_eq, q9, List.length_map] at z
    rw [hlen]
    omega
  first
    | (refine wpAny_bind ?_; refine wp_if_pos (by simp [full]) ?_)
    | (refine wp_if_pos (by simp [full]) ?_; refine wpAny_bind ?_)
  have over : (L.length + 1) * 5 ≥ t1.mask * 3 := by
    have z := full
    unfold SetTable.tooFull at z
    rw [decide_eq_true_eq, q9, List.length_map] at z
    exact z
  rw [hsl]
  have hz1 : t1.place.size = es1.size := by
    have z := q3.sz
    rw [List.length_map, hlen] at z
    rw [z, hes]
  have two : (t.mask = 7 ∧ L.length = 4) ∨ (t.mask = 31 ∧ L.length = 18) := by
    rw [q4] at over
    rcases R.tab.mok with e | e | e
    · rw [e] at over rm
      exact .inl ⟨e, by omega⟩
    · rw [e] at over rm
      exact .inr ⟨e, by omega⟩
    · rw [e] at over
      omega
  have go : ∀ M, SetTable.sizeAbove (SetTable.grown (L.length + 1)) - 1 = M → MaskOk M → SetTable.sizeAbove (SetTable.grown (L.length + 1)) ≤ 128 → (L.length + 1) * 5 < M * 3 →
      wpAny (model P w) A (setRelay a (SetTable.grown (L.length + 1))) (fun _ s' => wpAny (model P w) A (pure true) Q E s') E { s with heap := h1 } := fun M m1 m2 m3 m4 => by
    refine st_relay (s := { s with heap := h1 }) ho1 ex1 rfl ins hz1 q3.dm (by rw [hes, q4]; rcases two with ⟨e, e2⟩ | ⟨e, e2⟩ <;> omega) nd1 st1 plain led1 (by rw [hlen]; exact hf) m1 m2 m3 (by rw [hlen]; exact m4) ?_
    intro h2 L2 es2 ep2 t2 sb2 R2 pm2
    exact wpAny_pure (kq true h2 L2 es2 ep2 t2 (sb.trans sb2) R2 (fun z => absurd z hm) fun _ => pm2.trans pm)
  rcases two with ⟨_, e2⟩ | ⟨_, e2⟩
  · exact go 31 (by rw [e2, size_20]) (.inr (.inl rfl)) (by rw [e2, size_20]; decide) (by omega)
  · exact go 127 (by rw [e2, size_76]) (.inr (.inr rfl)) (by rw [e2, size_76]; decide) (by omega)
/-- what the set has of the first i things -/
structure Has (ks : List (Addr × St5)) (i : Nat) (L : List (Addr × St5)) : Prop where
  sub : ∀ q ∈ L, q ∈ ks.take i
  all : ∀ q ∈ ks.take i, q.2 ∈ L.map (·.2)
  le : L.length ≤ i
theorem Has.nil {ks : List (Addr × St5)} : Has ks 0 [] := ⟨fun q m => absurd m (by simp), fun q m => absurd m (by simp), Nat.le_refl _⟩
theorem Has.step {ks L L' : List (Addr × St5)} {i : Nat} {x : Addr × St5} (h : Has ks i L) (e : ks[i]? = some x) (c1 : x.2 ∈ L.map (·.2) → L' = L) (c2 : x.2 ∉ L.map (·.2) → L'.Perm (x :: L)) : Has ks (i + 1) L' := by
  have tk : ks.take (i + 1) = ks.take i ++ [x] := by
    rw [List.take_add_one, e]
    rfl
  by_cases c : x.2 ∈ L.map (·.2)
  · rw [c1 c]
    refine ⟨fun q m => ?_, fun q m => ?_, Nat.le_succ_of_le h.le⟩ <;> rw [tk] at *
    · exact List.mem_append_left _ (h.sub q m)
    · rcases List.mem_append.mp m with m | m
      · exact h.all q m
      · rw [List.mem_singleton.mp m]
        exact c
  · have pm := c2 c
    refine ⟨fun q m => ?_, fun q m => ?_, ?_⟩
    · rw [tk]
      rcases List.mem_cons.mp (pm.mem_iff.mp m) with e | m
      · rw [e]
        exact List.mem_append_right _ (List.mem_singleton.mpr rfl)
      · exact List.mem_append_left _ (h.sub q m)
    · rw [tk] at m
      refine (pm.map (·.2)).mem_iff.mpr ?_
      rcases List.mem_append.mp m with m | m
      · exact List.mem_cons_of_mem _ (h.all q m)
      · rw [List.mem_singleton.mp m]
        exact List.mem_cons_self
    · rw [pm.length_eq]
      exact Nat.succ_le_succ h.le
end
end AA

set_option Elab.async false
set_option linter.all false
set_option maxRecDepth 100000
set_option maxHeartbeats 4000000
/-! Sets of steps: set of a list, sorted of such a set. -/
namespace AA
open PySem PySem.Spec PyProof.Rows L2
def hSt (w : World) : St5 → Int := fun k => (stK k).hash w
section
variable {P : Program} {w : World} {A : Around} {E : Value → Shared → Prop} {s : Shared} {a : Addr} {L : List (Addr × St5)} {es : Array (Int × Value)} {ep : Nat} {t : SetTable}
theorem st_keep {h h' : Heap} {k : St5} {v : Value} (x : IsSt h v k) (e : ∀ b o, h.get? b = some o → h'.get? b = some o) : IsSt h' v k := x.keeps fun b o q _ => e b o q
theorem SSt.on {g : St5 → Int} {h h' : Heap} (R : SSt w g h a L es ep t) (ha : ∀ o, h.get? a = some o → h'.get? a = some o) (st : ∀ q ∈ L, IsSt h' (.ref q.1) q.2) : SSt w g h' a L es ep t := by
  obtain ⟨o, ho, r⟩ := R.at_
  exact ⟨⟨o, ha o ho, r⟩, R.rw_, R.tab, R.nd, st, R.pl, R.led, R.rm, R.few⟩
theorem sst_nil {g : St5 → Int} {h : Heap} (ho : h.get? a = some { cls := .type "set", dict := none, data := .set #[] 0 (.fresh 0 0 (!w.params.followText "set-order")) }) : SSt w g h a [] #[] 0 (.fresh 0 0 (!w.params.followText "set-order")) := by
  refine ⟨⟨_, ho, ⟨rfl, rfl, rfl⟩, rfl⟩, rfl, ⟨List.Pairwise.nil, rfl, rfl, .inl rfl, (fun x hx => by cases hx), (fun i h j hi => by simp at hi)⟩, List.nodup_nil, (fun q m => by cases m), rfl, ?_, ?_, ?_⟩
  · show _ ∨ (!w.params.followText "set-order") = true
    cases w.params.followText "set-order"
    · exact .inr rfl
    · exact .inl rfl
  · show 0 * 5 < 7 * 3
    decide
  · show 0 < 64
    decide
theorem st_loop {I : Addr} {fp wr : List Addr} {G : Array GenState → Array GenState → Prop} {n : Nat} {Pv : Nat → Value → Prop} {St : Nat → Shared → Prop} {R : Result → Shared → Prop} (W : WalksS P w A.in1 I fp wr G n Pv St) (S : Addr) (off : S ∉ fp) (ks : List (Addr × St5))
    (hn : n = ks.length) (few : ks.length < 64) (val : ∀ i v, Pv i v → ∃ q, ks[i]? = some q ∧ v = .ref q.1) (h0 : Heap) (hk : ∀ q ∈ ks, IsSt h0 (.ref q.1) q.2) (noS : h0.get? S = none) (noW : ∀ b ∈ wr, h0.get? b = none) (hu : A.in1.units + 8 < cLine) :
    ∀ (m i : Nat) (s : Shared), n - i = m → i ≤ n → St i s → (∀ b o, h0.get? b = some o → s.heap.get? b = some o) → (∃ L es ep t, SSt w (hSt w) s.heap S L es ep t ∧ Has ks i L) →
      (∀ s' L es ep t, Moved (S :: wr) G s s' → SSt w (hSt w) s'.heap S L es ep t → Has ks n L → (∀ b o, h0.get? b = some o → s'.heap.get? b = some o) → R (.ok (.ret .none)) s') →
      codeAny (model P w) A (.builtin "set.update.loop" ⟨[.ref S, .ref I], []⟩) R s := by
  have offW : S ∉ wr := fun h => off (W.sub _ h)
  have up : ∀ b ∈ wr, b ∈ S :: wr := fun b hb => List.mem_cons_of_mem _ hb
  have stay : ∀ {s s' : Shared}, Moved wr G s s' → (∀ b o, h0.get? b = some o → s.heap.get? b = some o) → ∀ b o, h0.get? b = some o → s'.heap.get? b = some o := fun mv kp b o e => mv.heap b o (fun hb => by
    rw [noW b hb] at e
    cases e) (kp b o e)
  intro m
  induction m with
  | zero =>
    intro i s hm hi hst kp ⟨L, es, ep, t, hS, hg⟩ hR
    obtain rfl : i = n := by omega
    refine codeAny_builtin F.entry_set_update_loop ?_
    rw [Around.under_plainId F.plain_set_update_loop _]
    show wpAny _ A.in1 (pyNext (.ref I) >>= _) _ _ s
    refine wpAny_bind (W.done s _ _ hst fun s' mv => ?_)
    show wpAny _ A.in1 (ret Value.none) _ _ s'
    have kp' := stay mv kp
    exact wpAny_pure (hR s' L es ep t (mv.mono up) (hS.on (fun o e => mv.heap S o offW e) fun q m => st_keep (hk q (List.mem_of_mem_take (hg.sub q m))) kp') hg kp')
  | succ m ih =>
    intro i s hm hi hst kp ⟨L, es, ep, t, hS, hg⟩ hR
    have lt : i < n := by omega
    refine codeAny_builtin F.entry_set_update_loop ?_
    rw [Around.under_plainId F.plain_set_update_loop _]
    show wpAny _ A.in1 (pyNext (.ref I) >>= _) _ _ s
    refine wpAny_bind (W.item i s _ _ lt hst fun v s' hP hst' mv => ?_)
    obtain ⟨q, hq, rfl⟩ := val i v hP
    have kp' := stay mv kp
    have hS' : SSt w (hSt w) s'.heap S L es ep t := hS.on (fun o e => mv.heap S o offW e) fun r m => st_keep (hk r (List.mem_of_mem_take (hg.sub r m))) kp'
    have hx : IsSt s'.heap (.ref q.1) q.2 := st_keep (hk q (List.mem_of_getElem? hq)) kp'
    show wpAny _ A.in1 (holding [Value.ref q.1] (setAdd S (.ref q.1)) >>= _) _ _ s'
    refine wpAny_bind (wpAny_holding ?_)
    unfold setAdd
    refine wpAny_holding (wpAny_bind ((nestedKind P w).pyHash hu hx.key ?_))
    refine st_add (s := { s' with toks := s'.toks + (stK q.2).draws }) hS' hx hu (by have := hg.le; omega) fun b h' L' es' ep' t' sb R2 c1 c2 => ?_
    have hg' : Has ks (i + 1) L' := hg.step hq c1 c2
    have kp2 : ∀ b o, h0.get? b = some o → h'.get? b = some o := fun b o e => (sb.2 b fun z => by
      rw [z, noS] at e
      cases e).trans (kp' b o e)
    refine wpAny_pure ⟨plainId_quiet F.plain_set_update_loop _, ih (i + 1) _ (by omega) lt (W.frame _ s' _ _ hst' (Nat.le_add_right _ _) fun b hb o e => ?_) kp2 ⟨L', es', ep', t', R2, hg'⟩ fun s2 L2 es2 ep2 t2 mv2 R3 g3 kp3 => ?_⟩
    · rw [sb.2 b fun z : b = S => off (by rw [← z]; exact hb)]
      exact e
    · refine hR s2 L2 es2 ep2 t2 (Moved.trans W.gtrans ((mv.mono up).then_heap (Nat.le_add_right _ _) fun b o hb e => ?_) mv2) R3 g3 kp3
      rw [sb.2 b fun z : b = S => hb (by rw [z]; exact List.mem_cons_self)]
      exact e
set_option maxHeartbeats 8000000 in
/-- set(xs) -/
theorem call_setSt {l : Addr} {items : Array Value} (ks : List (Addr × St5)) {Q : Value → Shared → Prop} (hh : A.handled = none) (hl : s.heap.IsList l items) (hit : items.toList = ks.map fun q => Value.ref q.1) (hk : ∀ q ∈ ks, IsSt s.heap (.ref q.1) q.2) (few : ks.length < 64) (hu : A.units + 12 < cLine)
    (k : ∀ (h' : Heap) (tk : Nat) L es ep t, SSt w (hSt w) h' s.heap.objs.size L es ep t → Has ks ks.length L → (∀ b o, s.heap.get? b = some o → h'.get? b = some o) → Q (.ref s.heap.objs.size) { s with heap := h', toks := tk }) :
    wpAny (model P w) A (call (.type "set") [.ref l]) Q E s := by
  have hn : items.size = ks.length := by
    have z := congrArg List.length hit
    rw [List.length_map, Array.length_toList] at z
    exact z
  obtain ⟨c, tl, hmro⟩ := F.called_set.mro
  have f1 := F.called_set.made
  have f2 := F.called_set.sub
  have f3 := F.called_set.notType
  have f4 := F.called_set.canCreate
  have f5 := F.typeCall_set_1 (.ref l)
  refine wpAny_call (codeAny_of_tree ?_)
  show wpAny _ _ (callAny (.type "set") _) _ _ _
  refine wpAny_pure ⟨Code.quiet_builtin _ (by decide +kernel), codeAny_builtin F.entry_type_call ?_⟩
  rw [Around.under_plain (weight_type_call_type "set" [.ref l] []) rfl]
  repeat (any_goals (first | assumption | wp_step))
  -- what is made
  refine codeAny_mono (code_set_led1 (.ref l) (E := E) (Q₁ := fun u z => u = .ref s.heap.objs.size ∧ z = { s with heap := s.heap.push { cls := .type "set", dict := none, data := .set #[] 0 (.fresh 0 0 (!w.params.followText "set-order")) } }) ⟨rfl, rfl⟩) fun r z hr => ?_
  cases r with
  | error e => exact hr
  | ok fl =>
    cases fl with
    | next => exact hr.elim
    | brk => exact hr.elim
    | cont => exact hr.elim
    | ret u =>
      obtain ⟨rfl, rfl⟩ := hr
      generalize hO : ({ cls := .type "set", dict := none, data := .set #[] 0 (.fresh 0 0 (!w.params.followText "set-order")) } : Obj) = O
      have new : (s.heap.push O).get? s.heap.objs.size = some O := Heap.get?_push_size _ (by rw [← hO]; rfl)
      have hT : Shared.TypeIs { s with heap := s.heap.push O } (.ref s.heap.objs.size) "set" := ⟨_, new, by rw [← hO]⟩
      have f6 := F.called_set.init.lookup
      have f7 := F.called_set.init.bind (.ref s.heap.objs.size)
      repeat (any_goals (first | assumption | wp_step))
      refine codeAny_mono (codeAny_call_builtin (R := wants (fun r z => r = .none ∧ ∃ h' tk L es ep t, z = { s with heap := h', toks := tk } ∧ SSt w (hSt w) h' s.heap.objs.size L es ep t ∧ Has ks ks.length L ∧ (∀ b o, s.heap.get? b = some o → h'.get? b = some o)) E)
        F.called_set.init.plain F.entry_set_init (check_set_init_1 hT ?_)) fun r2 z2 hr2 => ?_
      case refine_2 =>
        cases r2 with
        | error e => exact hr2
        | ok fl2 =>
          cases fl2 with
          | next => exact hr2.elim
          | brk => exact hr2.elim
          | cont => exact hr2.elim
          | ret u2 =>
            obtain ⟨rfl, h', tk, L, es, ep, t, rfl, z1, z2, z3⟩ := hr2
            repeat (any_goals (first | assumption | wp_step))
            exact k _ _ _ _ _ _ z1 z2 z3
      obtain ⟨ol, hol, hcl, nl, hdl⟩ := id hl
      have lt : l < s.heap.objs.size := Heap.lt_size hol
      obtain ⟨oc, od, oda, osl⟩ := ol
      simp only at hcl hdl
      subst hcl hdl
      have hol' : (s.heap.push O).get? l = some { cls := .type "list", dict := od, data := .seq items nl, slots := osl } := Heap.get?_push_of_some _ hol
      have hl1 : (s.heap.push O).IsList l items := ⟨_, hol', rfl, nl, rfl⟩
      have g1 := F.sub_list_set
      have g2 := F.sub_list_frozenset
      have g3 : (Value.type "list" == Value.type "dict") = false := by decide
      have hh3 : A.in1.in1.in1.handled = none := by simp [hh]
      have hz : (s.heap.push O).objs.size = s.heap.objs.size + 1 := Heap.size_push ..
      have ne : l ≠ (s.heap.push O).objs.size := by
        rw [hz]
        exact Nat.ne_of_lt (Nat.lt_succ_of_lt lt)
      have off : s.heap.objs.size ∉ [(s.heap.push O).objs.size, l] := by
        rw [hz]
        simp only [List.mem_cons, List.not_mem_nil, or_false, not_or]
        exact ⟨Nat.ne_of_lt (Nat.lt_succ_self _), Nat.ne_of_gt lt⟩
      have val : ∀ (i : Nat) (v : Value), items[i]? = some v → ∃ q, ks[i]? = some q ∧ v = .ref q.1 := fun i v hv => by
        have z : items.toList[i]? = some v := by
          rw [Array.getElem?_toList]
          exact hv
        rw [hit, List.getElem?_map] at z
        cases e : ks[i]? with
        | none =>
          rw [e] at z
          cases z
        | some q =>
          rw [e] at z
          exact ⟨q, rfl, (Option.some.inj z).symm⟩
      have no : ∀ b, s.heap.objs.size ≤ b → s.heap.get? b = none := fun b hb => by
        cases e : s.heap.get? b with
        | none => rfl
        | some o => exact absurd (Nat.lt_of_lt_of_le (Heap.lt_size e) hb) (Nat.lt_irrefl _)
      subst hO
      unfold Builtin.«set.__init__» noKeywords Builtin.Frozenset.updateFrom
      generalize hPI : pyIter = PI
      wp_walk
      subst hPI
      refine wpAny_pyIter_list hl1 ?_
      refine wpAny_bind (wpAny_runValue ?_)
      refine st_loop ((Walks.list hh3 _ l ne items).toS) s.heap.objs.size off ks hn few val s.heap hk (no _ (Nat.le_refl _)) (fun b hb => no b (by rw [List.mem_singleton.mp hb, hz]; exact Nat.le_succ _)) (by show A.units + 1 + 1 + 1 + 8 < cLine; omega) (items.size - 0) 0 _ (by omega) (Nat.zero_le _)
        ⟨⟨_, Heap.get?_push_size _ rfl, rfl, rfl⟩, hl1.push _⟩ (fun b o e => Heap.get?_push_of_some _ (Heap.get?_push_of_some _ e)) ?_ ?_
      · exact ⟨[], #[], 0, _, sst_nil (Heap.get?_push_of_some _ new), Has.nil⟩
      · intro z L es ep t mv R hg kp
        obtain ⟨h', g4, d', tk', os'⟩ := z
        obtain rfl : g4 = s.gens := mv.gens
        obtain rfl : d' = s.drawn := mv.drawn
        obtain rfl : os' = s.os := mv.os
        show wpAny _ _ _ _ _ _
        refine wpAny_pure ?_
        show wpAny _ _ (ret Value.none) _ _ _
        rw [hn] at hg
        exact wpAny_pure ⟨rfl, h', tk', L, es, ep, t, rfl, R, hg, kp⟩
end
end AA

set_option Elab.async false
set_option linter.all false
set_option maxRecDepth 100000
set_option maxHeartbeats 4000000
/-! sorted(set(..)) of steps, as rules. -/
namespace AA
open PySem PySem.Spec PyProof.Rows L2 Classical
section
variable {P : Program} {w : World} {A : Around} {E : Value → Shared → Prop} {s : Shared} {a : Addr} {L : List (Addr × St5)} {es : Array (Int × Value)} {ep : Nat} {t : SetTable} {g : St5 → Int}
theorem sorted_setSt {Q : Value → Shared → Prop} (R : SSt w g s.heap a L es ep t) (hh : A.handled = none) (hu : A.units + 8 < cLine) (kf : Value → St5) (hk : ∀ q ∈ L, kf (.ref q.1) = q.2)
    (k : ∀ (s' : Shared) (p : Addr) (out : List Value) (c : Nat), (∀ b o, s.heap.get? b = some o → s'.heap.get? b = some o) → s'.gens = s.gens → s'.os = s.os → s.heap.objs.size ≤ p → s'.heap.get? p = some (seqObj "list" out.toArray c) →
      out.Perm (L.map fun q => Value.ref q.1) → SrtO.Srtd (fun v u => stLt (kf v) (kf u)) out → Q (.ref p) s') : wpAny (model P w) A (call (.builtin "sorted") [.ref a]) Q E s := by
  obtain ⟨o, ho, hex, hd⟩ := R.at_
  have hz := R.sz
  have few := R.few
  have hun : A.in1.units = A.units + 1 := rfl
  refine Calls.call_function_entry kind_sorted plain_sorted entry_sorted (args_sorted1 _) ?_
  unfold Builtin.«sorted»
  refine wpAny_bind (m := checkCount "sorted" 1 1 _) (wpAny_pure ?_)
  refine wpAny_bind (collect_set (A := A.in1) hh ⟨o, ho, hex.1, hd⟩ R.fit (by unfold scanBound; omega) R.tab.ris R.led fun s1 vs k1 hs g1 o1 pm => ?_)
  have he : es.toList.map (·.2) = L.map fun q => Value.ref q.1 := by
    rw [R.rw_]
    unfold sRows
    rw [List.map_map]
    rfl
  rw [he] at pm
  have vl : vs.length < 64 := by
    rw [pm.length_eq, List.length_map]
    exact few
  have vz : vs.length ≤ sizeLine := by
    rw [sizeLine_eq]
    omega
  have isv : ∀ v ∈ vs, ∃ q ∈ L, v = .ref q.1 := fun v m => by
    obtain ⟨q, hq, e⟩ := List.mem_map.mp (pm.mem_iff.mp m)
    exact ⟨q, hq, e.symm⟩
  refine wpAny_bind (wpAny_newList ?_ vz)
  have hL : (s1.heap.push (seqObj "list" vs.toArray 0)).get? s1.heap.objs.size = some (seqObj "list" vs.toArray 0) := Heap.get?_push_size _ rfl
  have up : ∀ b o, s.heap.get? b = some o → (s1.heap.push (seqObj "list" vs.toArray 0)).get? b = some o := fun b o e => Heap.get?_push_of_some _ (k1 b o e)
  refine wpAny_bind (wpAny_holding (wpAny_call_entry (s := { s1 with heap := s1.heap.push (seqObj "list" vs.toArray 0) }) slot_list_sort ⟨_, hL, rfl⟩ entry_list_sort (SrtO.list_sort_ord (swo_st kf) hL vz (fun h2 => ?_) fun out hs2 hb => ⟨_, rfl, ?_⟩) (args_list_sort _)))
  · refine st_sortable (by show A.units + 1 + 1 + 1 < cLine; omega) (by omega) (fun v m => ?_) fun o e => ?_
    · obtain ⟨q, hq, rfl⟩ := isv v m
      rw [hk q hq]
      exact (R.st q hq).keeps fun b o e _ => up b o e
    · cases (show some o = some (seqObj "list" vs.toArray 0) from e.symm.trans hL)
      intro c
      exact absurd (Value.type.inj c) (by decide)
  · obtain ⟨c, hc⟩ := sortedHeap_at (vs := vs) (out := out.toArray) hL
    refine wpAny_pure ⟨_, rfl, k _ s1.heap.objs.size out c (fun b o e => ?_) g1 o1 hs hc (hb.perm.trans pm) hs2⟩
    have lt := Heap.lt_size (k1 b o e)
    show (sortedHeap (s1.heap.push (seqObj "list" vs.toArray 0)) s1.heap.objs.size vs out.toArray).get? b = some o
    rw [sortedHeap_old (Nat.ne_of_lt lt) (by rw [size_push']; exact Nat.lt_succ_of_lt lt)]
    exact up b o e
end
/-- a set at a, beside its steps -/
def SS0 (w : World) (h : Heap) (a : Addr) (L : List (Addr × St5)) : Prop := ∃ (es : Array (Int × Value)) (ep : Nat) (t : SetTable), (∃ o, h.get? a = some o ∧ o.ExactSet ∧ o.data = .set es ep t) ∧ es.toList = sRows (hSt w) L ∧ TabOk t (L.map fun q => hSt w q.2) ∧ (L.map (·.2)).Nodup ∧ t.plain = true ∧
  (w.params.followText "set-order" = true ∨ t.led = true) ∧ L.length * 5 < t.mask * 3 ∧ L.length < 64
def SetSO (w : World) (a : Addr) (L : List (Addr × St5)) : HO := .ext fun h => SS0 w h a L
theorem setSO_ok {P : Program} {w : World} {H : Hp} {h : Heap} {a : Addr} {L : List (Addr × St5)} (R : SS0 w h a L) : ObjOk P w H h a (SetSO w a L) := by
  have ⟨es, ep, t, ⟨o, ho, r⟩, q⟩ := R
  refine ⟨R, ⟨o, ho⟩, fun h1 h2 p k => ?_⟩
  have ⟨es', ep', t', ⟨o', ho', r'⟩, q'⟩ : SS0 w h1 a L := p
  exact ⟨es', ep', t', ⟨o', k o' ho', r'⟩, q'⟩
/-- every thing of L is a step that stands -/
def LSt (K : PySem.W.Frag) (H : Hp) (L : List (Addr × St5)) : Prop := ∀ q ∈ L, Dp K H (.ref q.1) (stD q.2)
section
variable {X : Cx} {K : PySem.W.Frag}
theorem sts_pairs {H : Hp} : ∀ {xs : List V} {ss : List St5}, DpAll K H xs (ss.map stD) → ∃ ks : List (Addr × St5), xs = ks.map (fun q => V.ref q.1) ∧ ss = ks.map (·.2) ∧ LSt K H ks
  | [], [], _ => ⟨[], rfl, rfl, fun q m => absurd m (by simp)⟩
  | [], _ :: _, h => by cases h
  | _ :: _, [], h => by cases h
  | x :: xs, s :: ss, h => by
    cases h with
    | cons h1 h2 =>
      obtain ⟨ks, e1, e2, e3⟩ := sts_pairs h2
      obtain ⟨t, u, rfl, _⟩ := stD_inv h1
      refine ⟨(t, s) :: ks, by rw [e1]; rfl, by rw [e2]; rfl, fun q m => ?_⟩
      rcases List.mem_cons.mp m with e | m
      · rw [e]
        exact h1
      · exact e3 q m
theorem refs_raw : ∀ {ks : List (Addr × St5)} {us : List Value}, Vals (ks.map fun q => V.ref q.1) us → us = ks.map fun q => Value.ref q.1
  | [], _, .nil => rfl
  | q :: ks, _, .cons r t => by
    cases r
    rw [refs_raw t]
    rfl
def rSetOfSt (K : PySem.W.Frag) (w : World) : List V → Hp → VK → Prop := fun vs H Q => ∃ (l : Addr) (xs : List V) (ss : List St5), vs = [V.ref l] ∧ SqL K H l xs ∧ DpAll K H xs (ss.map stD) ∧ ss.length < 64 ∧
  ∀ a L, H a = none → LSt K H L → (L.map (·.2)).Nodup → (∀ s, s ∈ L.map (·.2) ↔ s ∈ ss) → Q (.ref a) (upd H a (SetSO w a L))
theorem cr_setOfSt {j : Nat} (hc : X.calm = true) (hr : Room j X.A) : CallR X (.type "set") (rSetOfSt X.K X.w) := by
  intro pins s σ H vs us Q I r h
  obtain ⟨l, xs, ss, rfl, hl, hD, few, k⟩ := h
  obtain ⟨u, rfl, ru⟩ := vals1 r
  cases (show u = Value.ref l from ru)
  obtain ⟨ks, rfl, rfl, hks⟩ := sts_pairs hD
  obtain ⟨its, rv, pl, hz⟩ := I.list hl
  have hun := hr.un
  have hn : H s.heap.objs.size = none := I.hok.fresh (Nat.le_refl _)
  refine call_setSt (P := X.prog) (w := X.w) ks (I.ok.hd hc) pl.isList (by simpa using refs_raw rv) (fun q m => is_st I (hks q m) rfl) (by rw [List.length_map] at few; exact few) (by omega) fun h' tk L es ep t R hg kp => ?_
  refine ⟨.ref s.heap.objs.size, upd H s.heap.objs.size (SetSO X.w s.heap.objs.size L), I.laid (t' := tk) kp (Nat.le_refl _) (setSO_ok ⟨es, ep, t, R.at_, R.rw_, R.tab, R.nd, R.pl, R.led, R.rm, R.few⟩), rfl, k _ L hn (fun q m => hks q (List.mem_of_mem_take (hg.sub q m))) R.nd fun x => ⟨fun m => ?_, fun m => ?_⟩⟩
  · obtain ⟨q, m2, rfl⟩ := List.mem_map.mp m
    exact List.mem_map.mpr ⟨q, List.mem_of_mem_take (hg.sub q m2), rfl⟩
  · obtain ⟨q, m2, rfl⟩ := List.mem_map.mp m
    exact hg.all q (by rw [List.take_length]; exact m2)
def rSortSet (K : PySem.W.Frag) (w : World) : List V → Hp → VK → Prop := fun vs H Q => ∃ (a : Addr) (L : List (Addr × St5)), vs = [V.ref a] ∧ H a = some (SetSO w a L) ∧ LSt K H L ∧
  ∀ (ys : List V) (ts : List St5) (p : Addr), DpAll K H ys (ts.map stD) → ts.Perm (L.map (·.2)) → SrS ts → H p = none → Q (.ref p) (upd H p (.lst ys))
theorem cr_sortSet {j : Nat} (hc : X.calm = true) (hr : Room j X.A) : CallR X (.builtin "sorted") (rSortSet X.K X.w) := by
  intro pins s σ H vs us Q I r h
  obtain ⟨a, L, rfl, ha, hL, k⟩ := h
  obtain ⟨u, rfl, ru⟩ := vals1 r
  cases (show u = Value.ref a from ru)
  have hun := hr.un
  obtain ⟨es, ep, t, z1, z2, z3, z4, z5, z6, z7, z8⟩ : SS0 X.w s.heap a L := (I.hok a _ ha).1
  have st : ∀ q ∈ L, IsSt s.heap (.ref q.1) q.2 := fun q m => is_st I (hL q m) rfl
  have R : SSt X.w (hSt X.w) s.heap a L es ep t := ⟨z1, z2, z3, z4, st, z5, z6, z7, z8⟩
  let kf : Value → St5 := fun v => if h : ∃ t, IsSt s.heap v t then Classical.choose h else ⟨0, 0, 0, 0, 0, 0⟩
  have hkf : ∀ q ∈ L, kf (.ref q.1) = q.2 := fun q m => by
    have ex : ∃ t, IsSt s.heap (.ref q.1) t := ⟨_, st q m⟩
    have e : kf (.ref q.1) = Classical.choose ex := dif_pos ex
    rw [e]
    exact (Classical.choose_spec ex).uniq (st q m)
  refine sorted_setSt (P := X.prog) R (I.ok.hd hc) (by omega) kf hkf fun s' p out c kp hg ho hs hp pm so => ?_
  have isv : ∀ v ∈ out, ∃ q ∈ L, v = .ref q.1 := fun v m => by
    obtain ⟨q, hq, e⟩ := List.mem_map.mp (pm.mem_iff.mp m)
    exact ⟨q, hq, e.symm⟩
  have pk : (out.map kf).Perm (L.map (·.2)) := by
    have z := pm.map kf
    rw [List.map_map] at z
    rw [show L.map (·.2) = L.map (kf ∘ fun q => Value.ref q.1) from List.map_congr_left fun q m => (hkf q m).symm]
    exact z
  have refs : ∀ v ∈ out, ∃ b, v = Value.ref b := fun v m => by
    obtain ⟨q, _, e⟩ := isv v m
    exact ⟨q.1, e⟩
  have hD : DpAll X.K H (out.map backV) ((out.map kf).map stD) := dpa_of fun v m => by
    obtain ⟨q, hq, rfl⟩ := isv v m
    rw [hkf q hq]
    exact hL q hq
  have hn : H p = none := I.hok.fresh hs
  have hz : (out.map backV).length ≤ sizeLine := by
    rw [List.length_map, pm.length_eq, List.length_map, sizeLine_eq]
    omega
  have J : Inv X pins σ (upd H p (.lst (out.map backV))) { s with heap := s'.heap, gens := s'.gens, drawn := s'.drawn, toks := s'.toks } :=
    I.call (ch := []) (Un.laid kp hs hn) (I.hok.laid kp hs ⟨hz, out, c, vals_back refs, hp⟩) (by rw [hg]; exact I.bare) (fun _ z => nomatch z)
  have e : s' = { s with heap := s'.heap, gens := s'.gens, drawn := s'.drawn, toks := s'.toks } := by
    cases s'
    cases s
    cases ho
    rfl
  rw [e]
  exact ⟨.ref p, _, J, rfl, k _ _ p hD pk (List.pairwise_map.mpr so) hn⟩
end
end AA

set_option Elab.async false
set_option linter.all false
set_option maxRecDepth 100000
set_option maxHeartbeats 4000000
/-! _law_way. -/
namespace AA
open PySem PySem.Spec PyProof.Rows L2 Evl
/-- numbers of at most 400 -/
structure StMd (s : St5) : Prop where
  p0 : -400 ≤ s.p
  p1 : s.p ≤ 400
  q0 : -400 ≤ s.q
  q1 : s.q ≤ 400
  k1 : s.ticks ≤ 400
  c0 : -400 ≤ s.change
  c1 : s.change ≤ 400
theorem StSm.md {s : St5} (h : StSm s) : StMd s := by
  have h1 := h.p0
  have h2 := h.p1
  have h3 := h.q0
  have h4 := h.q1
  have h5 := h.k1
  have h6 := h.c0
  have h7 := h.c1
  exact ⟨by omega, by omega, by omega, by omega, by omega, by omega, by omega⟩
section
variable {P : Program} {w : World} {K : PySem.W.Frag} {mg : Str → Option Value} {base : Heap}
theorem eqv_nil_st : ∀ ss : List St5, PyData.eqv (.list (ss.map stD)) (.list []) = ss.isEmpty
  | [] => rfl
  | _ :: _ => rfl
def spLWay (K : PySem.W.Frag) : Sp := fun vs H Q _ => ∃ (a b : Addr) (n : Nat) (l li lo : Addr) (us : List V) (ss : List St5) (is os : List Int), vs = [.ref a, .ref l, .ref li, .ref lo] ∧ SAt H a b n ∧ n < 900000000 ∧ hid a b H l = some (.lst us) ∧ DpAll K (tps H) us (ss.map stD) ∧ ss.length ≤ 100 ∧ (∀ s ∈ ss, 1 ≤ s.ticks ∧ StSm s) ∧
  hid a b H li = some (.lst (is.map V.int)) ∧ hid a b H lo = some (.lst (os.map V.int)) ∧ 0 < is.length ∧ is.length ≤ 2 ∧ 0 < os.length ∧ os.length ≤ 2 ∧
  ∀ (H' : Hp) (p : Addr) (s : St5), ExS a b H H' → SAt H' a b (n + 10) → H p = none → Dp K (tps H') (.ref p) (stD s) → WyOk is.length os.length s → StMd s → Q (.ref p) H'
abbrev nmLW : List Str := ["_law_stream_here", "_law_steps", "_law_ins", "_law_outs", "_law_out", "_law_door", "_law_own", "_law_size", "_law_amounts_here", "_law_step_here"]
theorem scLW : FnScope nmLW ["_law_stream_here", "_law_steps", "_law_ins", "_law_outs"] (defScope sWay) := ⟨rfl, rfl, rfl, by decide +kernel, rfl, by decide +kernel, by decide +kernel⟩
theorem ok_lway {f : Addr} {fd : FuncData} (F : L2.Fun K "_law_way" "_law_way" sWay f fd) (T : Bn mg) (cD : C8.Cal P w K mg base 1 "_law_draw" spDraw []) (cP : C8.Cal P w K mg base 2 "_law_pick" (spPick K) []) : FnOk P w K mg base CX0 3 f fd ["_law_stream_here", "_law_steps", "_law_ins", "_law_outs"] (spLWay K) := by
  refine F.ok scLW (fun vs H Q E h => ?_) (fun cdv A outer s H vs Q E hr h => ?_)
  · obtain ⟨a, b, n, l, li, lo, us, ss, is, os, rfl, _⟩ := h
    rfl
  · obtain ⟨a, b, n, l, li, lo, us, ss, is, os, rfl, hS, hn, hl, hD, hsz, hsm, hli, hlo, i0, i2, o0, o2, k⟩ := h
    refine ⟨_, Evl.pss_cut (ps_asg (pe_tup (pa_cons (C8.pe_c cD hr (by decide) (by rfl) (pa_cons (pv 0) (pa_cons (pe_callB call_len_seq (by rfl) T.len PySem.boot_len (pa_cons (pv 3) pa_nil)) pa_nil))) (pa_cons (C8.pe_c cD hr (by decide) (by rfl) (pa_cons (pv 0) (pa_cons (pe_callB call_len_seq (by rfl) T.len PySem.boot_len (pa_cons (pv 2) pa_nil)) pa_nil))) pa_nil)))
          (pg_tup (n := 2) rfl (pgs_cons (pg_name (i := 4) scLW.nd rfl (Or.inr rfl)) (pgs_cons (pg_name (i := 5) scLW.nd rfl (Or.inr rfl)) pgs_nil))))
      (Evl.pss_cut (ps_setLc (i := 6) (own := [("_law_step_here", 9)]) (g := gName 9) (by rfl) scLW.nd rfl rfl (sw_true rfl rfl rfl (by decide +kernel)) (pi_list (pv 1)) (blkOk_by (N := nmLW) (sc := defScope sWay) (by decide +kernel))
          (fun _ _ _ _ _ => pg_name (i := 9) scLW.nd rfl (Or.inl rfl)) (fun _ _ _ _ _ => pts_one (PW.pt (pw_and (pt_cmpR op_eq (pe_ix (r := rIxT K) ix_tup (pv 9) pe_int (fun _ _ => rfl)) (pe_ix (r := rIxL K) ix_list (pv 3) (pv 4) (fun _ _ => rfl)) (nomark _)) (pw_and1 (pt_cmpR op_eq (pe_ix (r := rIxT K) ix_tup (pv 9) pe_int (fun _ _ => rfl)) (pe_ix (r := rIxL K) ix_list (pv 2) (pv 5) (fun _ _ => rfl)) (nomark _))))))
          (fun _ _ _ _ _ => pv 9))
      (Evl.pss_cut (ps_if (PW.pt (pw_and (pt_cmpR (op_neD hr.units) (pv 6) (pe_lst pa_nil) (nomark _)) (pw_and1 (pt_cmpR op_eq (C8.pe_c cD hr (by decide) (by rfl) (pa_cons (pv 0) (pa_cons pe_int pa_nil))) pe_int (nomark _)))))
          (pss_one (ps_ret (pe_op op_catT (pe_tup (pa_cons (pv 4) (pa_cons (pv 5) pa_nil))) (pe_slice (r := rSlT K) sl_tup (C8.pe_c cP hr (by decide) (by rfl) (pa_cons (pv 0) (pa_cons (pv 6) pa_nil))) (po_some pe_int) po_none)))) pss_nil)
      (pss_cons (ps_set (i := 7) scLW.nd rfl (Or.inl rfl) (C8.pe_c cP hr (by decide) (by rfl) (pa_cons (pv 0) (pa_cons (pe_lst (pa_cons pe_int (pa_cons pe_int pa_nil))) pa_nil))))
      (pss_cons (ps_set (i := 8) scLW.nd rfl (Or.inl rfl) (pe_tup (pa_cons (pe_op op_sub (C8.pe_c cD hr (by decide) (by rfl) (pa_cons (pv 0) (pa_cons (pe_op op_add (pe_op op_mul pe_int (pv 7)) pe_int) pa_nil))) (pv 7)) (pa_cons (pe_op op_sub (C8.pe_c cD hr (by decide) (by rfl) (pa_cons (pv 0) (pa_cons (pe_op op_add (pe_op op_mul pe_int (pv 7)) pe_int) pa_nil))) (pv 7)) pa_nil))))
      (pss_one (ps_ret (pe_tup (pa_cons (pv 4) (pa_cons (pv 5) (pa_cons (pv 8) (pa_cons (pe_op op_add pe_int (C8.pe_c cD hr (by decide) (by rfl) (pa_cons (pv 0) (pa_cons (pv 7) pa_nil)))) (pa_cons (pe_op op_sub (C8.pe_c cD hr (by decide) (by rfl) (pa_cons (pv 0) (pa_cons (pe_op op_add (pe_op op_mul pe_int (pv 7)) pe_int) pa_nil))) (pv 7)) pa_nil)))))))))))), ?_⟩
    have hmi : (is.map V.int).length = is.length := List.length_map ..
    have hmo : (os.map V.int).length = os.length := List.length_map ..
    have hDh : DpAll K (hid a b H) us (ss.map stD) := dpa_ex (tps_in hS) _ _ hD
    -- the two doors
    refine ⟨fun σ G => ∃ (o d : Int), σ = [some (.ref a), some (.ref l), some (.ref li), some (.ref lo), some (.int o), some (.int d), none, none, none, none] ∧ ExS a b H G ∧ SAt G a b (n + 2) ∧ 0 ≤ o ∧ o < os.length ∧ 0 ≤ d ∧ d < is.length, ?_, ?_⟩
    · refine ⟨_, rfl, _, rfl, lo, _, rfl, .inl (SqL.of (hid_ex _ _ hlo)), a, b, n, _, rfl, hS, by omega, by rw [hmo]; omega, by rw [hmo]; omega, fun H1 o e1 s1 q0 q1 => ?_⟩
      rw [hmo] at q1
      refine ⟨_, rfl, _, rfl, li, _, rfl, .inl (SqL.of (hid_ex _ _ (e1 _ _ hli))), a, b, n + 1, _, rfl, s1, by omega, by rw [hmi]; omega, by rw [hmi]; omega, fun H2 d e2 s2 r0 r1 => ?_⟩
      rw [hmi] at r1
      refine ⟨by show 2 ≤ sizeLine; decide, fun T hT => ⟨T, _, rfl, SqT.of upd_same, rfl, _, _, rfl, _, _, rfl, rfl, ?_⟩⟩
      have yT := Ex.new (o := .tup [V.int o, V.int d]) hT
      exact ⟨o, d, rfl, Ex.trans (Ex.trans e1 e2) (hid_mono yT), s2.ex yT, q0, q1, r0, r1⟩
    rintro σ G1 ⟨o, d, rfl, e1, S1, q0, q1, r0, r1⟩
    have hl1 := e1 _ _ hl
    have hli1 := e1 _ _ hli
    have hlo1 := e1 _ _ hlo
    have hD1 : DpAll K (hid a b G1) us (ss.map stD) := dpa_ex e1 _ _ hDh
    obtain ⟨on, rfl⟩ : ∃ j : Nat, o = (j : Int) := ⟨o.toNat, by omega⟩
    obtain ⟨dn, rfl⟩ : ∃ j : Nat, d = (j : Int) := ⟨d.toNat, by omega⟩
    obtain ⟨oc, hoc⟩ : ∃ c, os[on]? = some c := ⟨_, List.getElem?_eq_getElem (by omega)⟩
    obtain ⟨dc, hdc⟩ : ∃ c, is[dn]? = some c := ⟨_, List.getElem?_eq_getElem (by omega)⟩
    have aO : atI (os.map V.int) (on : Int) = some (V.int oc) := atI_nat (by rw [List.getElem?_map, hoc]; rfl)
    have aI : atI (is.map V.int) (dn : Int) = some (V.int dc) := atI_nat (by rw [List.getElem?_map, hdc]; rfl)
    -- the steps there
    refine ⟨fun σ G => ∃ (L : Addr) (ys : List V) (ts : List St5), σ = [some (.ref a), some (.ref l), some (.ref li), some (.ref lo), some (.int on), some (.int dn), some (.ref L), none, none, none] ∧ Ex G1 G ∧ G1 L = none ∧ G L = some (.lst ys) ∧ DpAll K (tps H) ys (ts.map stD) ∧ (∀ s ∈ ts, s ∈ ss) ∧ ts.length ≤ 100, ?_, ?_⟩
    · refine ⟨_, rfl, l, rfl, ⟨_, SqL.of (hid_ex _ _ hl1)⟩, fun D hD0 => ?_⟩
      have hul := sts_len hD1
      refine lc_list (xs := us) (fun i G => Ex G1 G ∧ ∃ (ys : List V) (ts : List St5), G D = some (.lst ys) ∧ DpAll K (tps H) ys (ts.map stD) ∧ (∀ s ∈ ts, s ∈ ss) ∧ ts.length ≤ i) ⟨Ex.new hD0, [], [], upd_same, .nil, (fun s m => absurd m (by simp)), Nat.le_refl _⟩ (fun i G _ q => SqL.of (q.1 _ _ (hid_ex _ _ hl1))) ?_ ?_
      · rintro i x G hx ⟨y1, ys, ts, y2, y3, y4, y5⟩
        have il := (List.getElem?_eq_some_iff.mp hx).1
        obtain ⟨s, t, hs, rfl, ht⟩ := sts_get hD hx
        obtain ⟨_, u, e, p1, _⟩ := stD_inv (dp_ex ((tps_hid (Ex.trans e1 (hid_mono y1)) hS).trans tps_le) _ _ ht)
        cases e
        have skip : Ex G1 G ∧ ∃ (ys : List V) (ts : List St5), G D = some (.lst ys) ∧ DpAll K (tps H) ys (ts.map stD) ∧ (∀ s ∈ ts, s ∈ ss) ∧ ts.length ≤ i + 1 := ⟨y1, ys, ts, y2, y3, y4, by omega⟩
        refine ⟨rfl, _, rfl, t, _, 0, .int s.one, rfl, rfl, p1, rfl, _, rfl, _, rfl, lo, _, (on : Int), .int oc, rfl, rfl, SqL.of (y1 _ _ (hid_ex _ _ hlo1)), aO, rfl, _, rfl, ?_⟩
        refine dec_ite (fun _ => ?_) (fun _ => skip)
        refine ⟨_, rfl, t, _, 1, .int s.other, rfl, rfl, p1, rfl, _, rfl, _, rfl, li, _, (dn : Int), .int dc, rfl, rfl, SqL.of (y1 _ _ (hid_ex _ _ hli1)), aI, rfl, _, rfl, ?_⟩
        refine dec_ite (fun _ => ?_) (fun _ => skip)
        refine ⟨_, rfl, ys, y2, ?_, y1.mut hD0, ys ++ [.ref t], ts ++ [s], upd_same, ?_, fun s' m => ?_, by rw [List.length_append]; exact Nat.succ_le_succ y5⟩
        · rw [sts_len y3]
          exact sz_m (by omega)
        · rw [List.map_append]
          exact dpa_app y3 (.cons ht .nil)
        · rcases List.mem_append.mp m with m | m
          · exact y4 s' m
          · rw [List.mem_singleton.mp m]
            exact mem_of_get hs
      · rintro G ⟨y1, ys, ts, y2, y3, y4, y5⟩
        exact ⟨D, ys, ts, rfl, y1, hD0, y2, y3, y4, by omega⟩
    rintro σ G2 ⟨L, ys, ts, rfl, e2, L0, hL, hYD, hsub, htl⟩
    have S2 := S1.ex e2
    have La := S1.nea L0
    have Lb := S1.neb L0
    have eH2 : ExS a b H G2 := Ex.trans e1 (hid_mono e2)
    -- one of them
    refine ⟨fun σ G => ∃ m, σ = [some (.ref a), some (.ref l), some (.ref li), some (.ref lo), some (.int on), some (.int dn), some (.ref L), none, none, none] ∧ ExS a b H G ∧ SAt G a b m ∧ m ≤ n + 3, ?_, ?_⟩
    · refine ⟨_, rfl, Nat.zero_le _, fun l0 hl0 => ?_⟩
      have y1 := Ex.new (o := .lst []) hl0
      have j1 : upd G2 l0 (.lst []) l0 = some (.lst []) := upd_same
      generalize upd G2 l0 (.lst []) = G3 at y1 j1 ⊢
      have eH3 : ExS a b H G3 := Ex.trans eH2 (hid_mono y1)
      have S3 := S2.ex y1
      have hL3 := y1 _ _ hL
      have hY3 : DpAll K G3 ys (ts.map stD) := dpa_ex ((tps_hid eH3 hS).trans tps_le) _ _ hYD
      refine ⟨.list (ts.map stD), .list [], .lst (SqL.of hL3) hY3, .lst (SqL.of j1) .nil, stDs_shaped ts, rfl, _, rfl, ?_⟩
      rw [eqv_nil_st]
      cases htz : ts.isEmpty with
      | true => exact ⟨_, rfl, eH3, S3, by omega⟩
      | false =>
        refine iteT ?_
        refine ⟨_, rfl, a, b, n + 2, 2, rfl, S3, by omega, by decide, by decide, fun G4 x e4 s4 x0 x1 => ⟨rfl, _, rfl, ?_⟩⟩
        refine dec_ite (fun _ => ?_) (fun _ => ⟨_, rfl, Ex.trans eH3 e4, s4, by omega⟩)
        have tl : 0 < ts.length := by
          cases ts with
          | nil => cases htz
          | cons => exact Nat.succ_pos _
        have hyl := sts_len hYD
        refine ⟨_, rfl, _, rfl, by show 2 ≤ sizeLine; decide, fun T1 hT1 => ?_⟩
        have y5 := Ex.new (o := .tup [V.int on, V.int dn]) hT1
        have T1a := s4.nea hT1
        have T1b := s4.neb hT1
        have j5 : upd G4 T1 (.tup [V.int on, V.int dn]) T1 = some (.tup [V.int on, V.int dn]) := upd_same
        generalize upd G4 T1 (.tup [V.int on, V.int dn]) = G5 at y5 j5 ⊢
        have eH5 : ExS a b H G5 := Ex.trans (Ex.trans eH3 e4) (hid_mono y5)
        have S5 := s4.ex y5
        have hL5 : hid a b G5 L = some (.lst ys) := by
          have z : hid a b G3 L = some (.lst ys) := by
            rw [hid_ne La Lb]
            exact hL3
          exact hid_mono y5 _ _ (e4 _ _ z)
        refine ⟨_, rfl, _, rfl, a, b, n + 2 + 1, L, ys, rfl, S5, by omega, SqL.of hL5, by omega, by omega, fun G6 j x e6 s6 hx => ?_⟩
        obtain ⟨st, t, hst, rfl, ht⟩ := sts_get hYD hx
        have eH6 : ExS a b H G6 := Ex.trans eH5 e6
        obtain ⟨_, u, e, p1, p2⟩ := stD_inv (dp_ex (tps_hid eH6 hS) _ _ ht)
        cases e
        have hss := hsm st (hsub st (mem_of_get hst))
        refine ⟨_, rfl, t, _, rfl, ex_t tps_le p1, (fun z => absurd (show (2 : Nat) = 0 from z.1) (by decide)), fun T2 hT2 => ?_⟩
        have hc : cutV [V.int st.one, V.int st.other, V.ref u, V.int st.ticks, V.int st.change] (some 2) none = [V.ref u, V.int st.ticks, V.int st.change] := rfl
        rw [hc]
        have y7 := Ex.new (o := .tup [V.ref u, V.int st.ticks, V.int st.change]) hT2
        have j7 : upd G6 T2 (.tup [V.ref u, V.int st.ticks, V.int st.change]) T2 = some (.tup [V.ref u, V.int st.ticks, V.int st.change]) := upd_same
        have hT16 := e6.at j5 T1a T1b
        generalize upd G6 T2 (.tup [V.ref u, V.int st.ticks, V.int st.change]) = G7 at y7 j7 ⊢
        have eH7 : ExS a b H G7 := Ex.trans eH6 (hid_mono y7)
        refine ⟨T1, T2, _, _, rfl, rfl, SqT.of (y7 _ _ hT16), SqT.of j7, by simp, by show 5 ≤ sizeLine; decide, (fun z => nomatch z), fun _ T3 hT3 => ?_⟩
        have y8 := Ex.new (o := .tup [V.int on, V.int dn, V.ref u, V.int st.ticks, V.int st.change]) hT3
        have eH8 : ExS a b H (upd G7 T3 (.tup [V.int on, V.int dn, V.ref u, V.int st.ticks, V.int st.change])) := Ex.trans eH7 (hid_mono y8)
        refine k _ T3 ⟨on, dn, st.p, st.q, st.ticks, st.change⟩ eH8 ((s6.ex (y7.trans y8)).mono (by omega)) (ExS.back eH7 (s6.ex y7) hT3) ?_ ⟨by show (0 : Int) ≤ on; omega, by show (on : Int) < os.length; omega, by show (0 : Int) ≤ dn; omega, by show (dn : Int) < is.length; omega, hss.1⟩ ?_
        · exact stD_mk (SqT.of tps_tup) (ex_t (tps_mono (y7.trans y8)) p2)
        · have z := hss.2.md
          exact ⟨z.p0, z.p1, z.q0, z.q1, z.k1, z.c0, z.c1⟩
    rintro σ G3 ⟨m, rfl, e3, S3, hm⟩
    -- drawn
    refine ⟨_, rfl, by show 2 ≤ sizeLine; decide, fun l2 hl2 => ?_⟩
    have y1 := Ex.new (o := .lst [V.int 3, V.int 400]) hl2
    have j1 : hid a b (upd G3 l2 (.lst [V.int 3, V.int 400])) l2 = some (.lst [V.int 3, V.int 400]) := by
      rw [hid_ne (S3.nea hl2) (S3.neb hl2)]
      exact upd_same
    generalize upd G3 l2 (.lst [V.int 3, V.int 400]) = G4 at y1 j1 ⊢
    refine ⟨a, b, m, l2, _, rfl, S3.ex y1, by omega, SqL.of j1, by show 0 < 2; decide, by show 2 < 1000000; decide, fun G5 j x e5 s5 hx => ?_⟩
    obtain ⟨z, rfl, hz⟩ : ∃ z : Int, x = .int z ∧ (z = 3 ∨ z = 400) := by
      have hm2 := mem_of_get hx
      simp only [List.mem_cons, List.not_mem_nil, or_false] at hm2
      rcases hm2 with rfl | rfl
      · exact ⟨3, rfl, .inl rfl⟩
      · exact ⟨400, rfl, .inr rfl⟩
    have z3 : 3 ≤ z := by omega
    have z4 : z ≤ 400 := by omega
    have eH5 : ExS a b H G5 := Ex.trans (Ex.trans e3 (hid_mono y1)) e5
    refine ⟨_, rfl, _, rfl, _, _, rfl, rfl, .inl ⟨by decide, by decide⟩, _, _, rfl, rfl, a, b, m + 1, _, rfl, s5, by omega, by omega, by omega, fun G6 v1 e6 s6 v10 v11 => ⟨_, rfl, _, _, rfl, rfl, ?_⟩⟩
    refine ⟨_, rfl, _, rfl, _, _, rfl, rfl, .inl ⟨by decide, by decide⟩, _, _, rfl, rfl, a, b, m + 1 + 1, _, rfl, s6, by omega, by omega, by omega, fun G7 v2 e7 s7 v20 v21 => ⟨_, rfl, _, _, rfl, rfl, by show 2 ≤ sizeLine; decide, fun T1 hT1 => ?_⟩⟩
    have y8 := Ex.new (o := .tup [V.int (v1 - z), V.int (v2 - z)]) hT1
    have j8 : upd G7 T1 (.tup [V.int (v1 - z), V.int (v2 - z)]) T1 = some (.tup [V.int (v1 - z), V.int (v2 - z)]) := upd_same
    generalize upd G7 T1 (.tup [V.int (v1 - z), V.int (v2 - z)]) = G8 at y8 j8 ⊢
    have eH8 : ExS a b H G8 := Ex.trans (Ex.trans (Ex.trans eH5 e6) e7) (hid_mono y8)
    have S8 := s7.ex y8
    refine ⟨_, rfl, _, rfl, _, rfl, _, rfl, _, rfl, a, b, m + 1 + 1 + 1, _, rfl, S8, by omega, by omega, by omega, fun G9 v3 e9 s9 v30 v31 => ⟨_, _, rfl, rfl, ?_⟩⟩
    refine ⟨_, rfl, _, rfl, _, _, rfl, rfl, .inl ⟨by decide, by decide⟩, _, _, rfl, rfl, a, b, m + 1 + 1 + 1 + 1, _, rfl, s9, by omega, by omega, by omega, fun Ga v4 ea sa v40 v41 => ⟨_, rfl, _, _, rfl, rfl, by show 5 ≤ sizeLine; decide, fun T3 hT3 => ?_⟩⟩
    have eHa : ExS a b H Ga := Ex.trans (Ex.trans eH8 e9) ea
    have yb := Ex.new (o := .tup [V.int on, V.int dn, V.ref T1, V.int (1 + v3), V.int (v4 - z)]) hT3
    have t8 : tps G8 T1 = some (.tup [V.int (v1 - z), V.int (v2 - z)]) := tps_of j8
    have ta := tps_hid (Ex.trans e9 ea) S8 _ _ t8
    refine k _ T3 ⟨on, dn, v1 - z, v2 - z, 1 + v3, v4 - z⟩ (Ex.trans eHa (hid_mono yb)) ((sa.ex yb).mono (by omega)) (ExS.back eHa sa hT3) ?_ ⟨by show (0 : Int) ≤ on; omega, by show (on : Int) < os.length; omega, by show (0 : Int) ≤ dn; omega, by show (dn : Int) < is.length; omega, by show (1 : Int) ≤ 1 + v3; omega⟩ ⟨by show -400 ≤ v1 - z; omega, by show v1 - z ≤ 400; omega, by show -400 ≤ v2 - z; omega, by show v2 - z ≤ 400; omega, by show 1 + v3 ≤ 400; omega, by show -400 ≤ v4 - z; omega, by show v4 - z ≤ 400; omega⟩
    exact stD_mk (SqT.of tps_tup) (SqT.of (tps_mono yb _ _ ta))
end
end AA

set_option Elab.async false
set_option linter.all false
set_option maxRecDepth 100000
set_option maxHeartbeats 4000000
/-! Defs that show things: they are called where nothing is being shown. -/
namespace AA
open PySem PySem.Spec PyProof.Rows L2 Evl
structure GOk (P : Program) (w : World) (K : PySem.W.Frag) (mg : Str → Option Value) (base : Heap)
    (k : Nat) (f : Addr) (fd : FuncData) (ps : List Str) (sp : Sp) : Prop where
  len : ∀ vs H Q E, sp vs H Q E → vs.length = ps.length
  run : ∀ (A : Around) (outer : List Env) (s : Shared) (H : Hp) (args : Args) (us : List Value) (vs : List V) (Q : VK),
    A.guards = some [] → Room k A → Env0 P w K mg base A outer s H → BindsTo s fd args (ps.zip us) → Vals vs us →
    sp vs H Q E0 → codeAny (model P w) A (.call (.ref f) args) (CR CX0 outer P w H s Q E0) s
section
variable {P : Program} {w : World} {K : PySem.W.Frag} {mg : Str → Option Value} {base : Heap}
theorem gok_of {x qual : Str} {st : Stmt} {f : Addr} {fd : FuncData} {N ps : List Str} {k : Nat} {sp : Sp}
    (F : L2.Fun K x qual st f fd) (S : FnScope N ps (defScope st)) (len : ∀ vs H Q E, sp vs H Q E → vs.length = ps.length)
    (body : ∀ (cdv : Value) (A : Around) (outer : List Env) (s : Shared) (H : Hp) (vs : List V) (Q : VK),
      A.guards = some [] → Room k (A.deeper (envOfC qual (defScope st) s.heap.objs.size f cdv)) → sp vs H Q E0 →
      ∃ t, PSs (cxOf CX0 P w K mg base N qual (defScope st) f cdv A outer s H E0) (defBody st) t ∧
        t { nx := fun _ H' => Q .non H', rt := Q } (start N vs) H) : GOk P w K mg base (k + 1) f fd ps sp := by
  obtain ⟨oc, od, kV, doc, pm, an, cdv, ct, osl, rfl, lk, hcd⟩ := F.ex
  refine ⟨len, fun A outer s H args us vs Q hg hr e0 hb r hs => ?_⟩
  exact LamX.run_ofS lk hcd S hr e0 hb r (len _ _ _ _ hs) fun hr' => body cdv A outer s H vs Q hg hr' hs
/-- what may be called so by its name -/
structure GCal (P : Program) (w : World) (K : PySem.W.Frag) (mg : Str → Option Value) (base : Heap) (k : Nat) (x : Str) (sp : Sp) : Prop where
  ex : ∃ (f : Addr) (fd : FuncData) (ps : List Str), GOk P w K mg base k f fd ps sp ∧ mg x = some (.ref f) ∧
    PySem.W.keepIn K (.ref f) = true ∧ Binds K fd ps []
end
section
variable {X : Cx} {k j : Nat} {x : Str} {sp : Sp} {p pos : Pos} {e : Expr} {es : List Expr} {t : TA}
theorem pe_g (c : GCal X.prog X.w X.K X.mg X.base k x sp) (hgd : X.A.guards = some []) (hr : Room j X.A) (hk : k ≤ j) (hg : Gl X x)
    (ha : PA X (e :: es) t) (hdb : (x == ("__debug__" : Str)) = false := by decide)
    (he : starEach (e :: es) X.env = (false, eval e X.env) :: starEach es X.env := by rfl)
    (hpl : (backTo pos (starEach es X.env)).any (·.1) = false := by rfl) :
    PE X (.Call (.Name x p) (e :: es) [] pos) (tCall sp [] E0 t) := by
  obtain ⟨f, fd, ps, G, hm, kp, b⟩ := c.ex
  refine ⟨fun pins s σ H Q I h => wpAny_Call_Name_kw (ld_glob I hg hm ?_ hdb)⟩
  refine PySem.W.callWith_K (h₀ := X.base) I.ok.mod.kin kp (thn (ha.run pos pins s σ H _ I h) fun us s1 z => ?_) he hpl
  obtain ⟨vs, H1, I1, r, q⟩ := z
  refine ⟨I1.kIn, ?_⟩
  rw [List.append_nil] at q
  have hl : us.length = ps.length := r.length.symm.trans (G.len _ _ _ _ q)
  have bb : BindsTo s1 fd ⟨us, []⟩ (ps.zip us) := by
    have z := b s1 us I1.kIn (by rw [List.append_nil]; exact hl)
    rw [List.append_nil] at z
    exact z
  refine wpAny_call (codeAny_mono (G.run X.A X.stack s1 H1 _ us vs Q hgd (hr.mono hk) I1.env0 bb r q) fun r' s' hq => ?_)
  cases r' with
  | error e => exact False.elim hq
  | ok fl =>
    cases fl with
    | ret u => exact I1.after hq
    | next => exact False.elim hq
    | brk => exact False.elim hq
    | cont => exact False.elim hq
/-- repr of data without dicts -/
def rRep (K : PySem.W.Frag) : List V → Hp → VK → Prop := fun xs H Q => ∃ (a : Addr) (d : PyData), xs = [.ref a] ∧ Dp K H (.ref a) d ∧
  d.showable = true ∧ d.hasDict = false ∧ d.depth ≤ 60 ∧ d.shown.length ≤ sizeLine ∧ Q (.str d.shown) H
theorem call_rep (hgd : X.A.guards = some []) (hr : Room j X.A) : CallR X (.builtin "repr") (rRep X.K) := by
  intro pins s σ H xs us Q I r h
  obtain ⟨a, d, rfl, hd, h1, h2, h3, h4, q⟩ := h
  obtain ⟨u, rfl, rx⟩ := vals1 r
  obtain ⟨as, rd⟩ := Dp.reads I d _ u hd rx
  obtain rfl : u = Value.ref a := rx
  have := hr.un
  refine repr_of_reads' rd h1 (PyData.noDict_hsm h2) hgd (by omega) (fun _ _ e => e) (fun h' v tk kp => ?_) h4
  exact ⟨.str d.shown, H, I.kept kp, ⟨v, rfl⟩, q⟩
end
/-! ### the law's own call -/
section
variable {P : Program} {w : World} {K : PySem.W.Frag} {mg mb : Str → Option Value} {k : Nat} {fa a : Addr} {fd : FuncData} {x : Str} {sp : Sp}
theorem g_core {s₁ : Shared} {vs : List Value} {H : Hp} (KX : K.In s₁.heap) (hns : s₁.heap.Ns mainGlobals mg) (hb : s₁.heap.Ns builtinsNs mb)
    (hbb : ∀ y : Str, y ≠ "__name__" → mb y = bootBuiltins y) (hlim : s₁.heap.NoLimit) (hg : s₁.gens = #[])
    (ha : s₁.heap.get? a = some { cls := .type "list", data := .seq vs.toArray }) (hr : Room k callerA)
    (F : ∀ bs : Heap, K.In bs → bs.Ns mainGlobals mg → GOk P w K mg bs k fa fd [x] sp)
    (hbind : ∀ (s : Shared) (u : Value), BindsTo s fd ⟨[u], []⟩ [(x, u)])
    (hO : Only H) (hok : HOk P w H s₁.heap) (hA : ∀ b, H b ≠ none → b = a) (hK : H a ≠ none → K.lookup a = none)
    (hsp : sp [.ref a] H (fun v _ => v = .bl true) E0) :
    codeAny (model P w) callerA (.call (.ref fa) ⟨[.ref a], []⟩)
      (fun r s' => r = .ok (.ret (.bool true)) ∧ OldK s₁.heap s'.heap ∧ s'.os = s₁.os ∧ AllBare s'.gens) s₁ := by
  have free : ∀ {b : Addr} {o : Obj}, s₁.heap.get? b = some o → o ≠ { cls := .type "list", data := .seq vs.toArray } → H b = none := by
    intro b o e ne
    cases q : H b with
    | none => rfl
    | some u =>
      have e' := hA b (by rw [q]; exact fun z => nomatch z)
      rw [e', ha] at e
      exact absurd (Option.some.inj e).symm ne
  have kin : K.In (hidT s₁.heap H) := by
    intro b o e
    refine hidT_get (KX b o e) ?_
    cases q : H b with
    | none => rfl
    | some u =>
      have e' := hA b (by rw [q]; exact fun z => nomatch z)
      rw [e', hK (by rw [← e', q]; exact fun z => nomatch z)] at e
      cases e
  have nsK : ∀ {b : Addr} {m : Str → Option Value}, s₁.heap.Ns b m → (hidT s₁.heap H).Ns b m := by
    rintro b m ⟨o, es, ep, e, d, r⟩
    refine ⟨o, es, ep, hidT_get e (free e fun z => ?_), d, r⟩
    rw [z] at d
    cases d
  have hM : Mod K mg (hidT s₁.heap H) := by
    obtain ⟨mc, h1, h2⟩ := hlim
    exact ⟨kin, nsK hns, ⟨mb, nsK hb, hbb⟩, ⟨mc, nsK h1, h2⟩⟩
  have none_in : ∀ b : Addr, b ∉ ([] : List Addr) := fun b z => nomatch z
  have e0 : Env0 P w K mg (hidT s₁.heap H) callerA [] s₁ H :=
    ⟨rfl, hM, fun b o e => of_hidT e, Nat.le_of_eq (hidT_size _ _), trivial, fun b z => absurd z (none_in b), hok, .of_eq hg⟩
  have G := F _ kin (nsK hns)
  refine codeAny_mono (G.run callerA [] s₁ H ⟨[.ref a], []⟩ [.ref a] [.ref a] _ rfl hr e0 (hbind s₁ (.ref a)) (.cons rfl .nil) hsp) ?_
  intro r s' h
  cases r with
  | error e => exact False.elim h
  | ok fl =>
    cases fl with
    | next => exact False.elim h
    | brk => exact False.elim h
    | cont => exact False.elim h
    | ret u =>
      obtain ⟨v, H', os, bare, un, hok', r', q⟩ := h
      cases (show v = .bl true from q)
      cases (show u = Value.bool true from r')
      refine ⟨rfl, OldK.of_keep fun b o e => ?_, os, bare⟩
      cases q : H b with
      | none => exact un.keep b o e q (none_in b) (none_in b)
      | some u =>
        rcases hO b with z | ⟨ob, xs, z⟩
        · rw [q] at z
          cases z
        · have e1 := (hok b _ z).1
          have e2 := (hok' b _ (un.frzs b ob _ z)).1
          rw [e] at e1
          cases e1
          exact e2
theorem g_call {s₁ : Shared} {vs : List Value} {ns : List Int} (KX : K.In s₁.heap) (hns : s₁.heap.Ns mainGlobals mg) (hb : s₁.heap.Ns builtinsNs mb)
    (hbb : ∀ y : Str, y ≠ "__name__" → mb y = bootBuiltins y) (hlim : s₁.heap.NoLimit) (hg : s₁.gens = #[])
    (ha : s₁.heap.get? a = some { cls := .type "list", data := .seq vs.toArray }) (hi : IntsAre vs ns) (hl : ns.length ≤ sizeLine) (hr : Room k callerA)
    (F : ∀ bs : Heap, K.In bs → bs.Ns mainGlobals mg → GOk P w K mg bs k fa fd [x] sp)
    (hbind : ∀ (s : Shared) (u : Value), BindsTo s fd ⟨[u], []⟩ [(x, u)])
    (hsp : ∀ H : Hp, Only H → SqL K H a (ns.map V.int) → sp [.ref a] H (fun v _ => v = .bl true) E0) :
    codeAny (model P w) callerA (.call (.ref fa) ⟨[.ref a], []⟩)
      (fun r s' => r = .ok (.ret (.bool true)) ∧ OldK s₁.heap s'.heap ∧ s'.os = s₁.os ∧ AllBare s'.gens) s₁ := by
  have rv := vals_ints hi
  have lv := hi.length
  have lm : (ns.map V.int).length ≤ sizeLine := by
    rw [List.length_map]
    exact hl
  cases hk : K.lookup a with
  | some o =>
    have e := KX a o hk
    rw [ha] at e
    cases e
    have hO : Only fun _ => none := fun _ => .inl rfl
    refine g_core (H := fun _ => none) KX hns hb hbb hlim hg ha hr F hbind hO (fun b u z => nomatch (show (none : Option HO) = some u from z)) (fun b z => absurd rfl z) (fun z => absurd rfl z) (hsp _ hO (.inr ?_))
    exact ⟨_, vs.toArray, _, hk, rfl, rfl, rfl, by rw [List.size_toArray, lv]; exact hl, by simpa using rv⟩
  | none =>
    let H1 : Hp := fun b => if b = a then some (.frz { cls := .type "list", data := .seq vs.toArray } (.lst (ns.map V.int))) else none
    have at1 : H1 a = some (.frz { cls := .type "list", data := .seq vs.toArray } (.lst (ns.map V.int))) := if_pos rfl
    have at2 : ∀ b, b ≠ a → H1 b = none := fun b h => if_neg h
    have hO : Only H1 := fun b => by
      by_cases h : b = a
      · exact .inr ⟨_, _, by rw [h]; exact at1⟩
      · exact .inl (at2 b h)
    refine g_core (H := H1) KX hns hb hbb hlim hg ha hr F hbind hO (fun b u z => ?_) (fun b z => ?_) (fun _ => hk) (hsp _ hO (.inl (.inr ⟨_, at1⟩)))
    · by_cases h : b = a
      · rw [h, at1] at z
        cases z
        rw [h]
        exact ⟨ha, lm, vs, _, rv, ha⟩
      · rw [at2 b h] at z
        cases z
    · by_cases h : b = a
      · exact h
      · exact absurd (at2 b h) z
theorem g_walk {l : PySem.W.OpenLaw} {n : Nat} {q : Program} {loose : List Str} {XP : (Str → Option Value) → Heap → Prop} {YP : World → Heap → Prop} {d : DefRec}
    {KK : Params → PySem.W.Frag} {spk : PySem.W.Frag → Sp} (hn : l.most = some n) (hn2 : n ≤ sizeLine) (hdf : d.params.defaults = []) (hr : Room k callerA)
    (hY : ∀ (w : World) (h : Heap), YP w h → (KK w.params).In h)
    (F : ∀ (w : World) (mg : Str → Option Value) (fa : Addr) (h : Heap), (KK w.params).In h → h.Ns mainGlobals mg → mg d.name = some (.ref fa) →
      ∃ fd : FuncData, (∀ (s : Shared) (u : Value), BindsTo s fd ⟨[u], []⟩ [(x, u)]) ∧
        ∀ bs : Heap, (KK w.params).In bs → bs.Ns mainGlobals mg → GOk l.prog w (KK w.params) mg bs k fa fd [x] (spk (KK w.params)))
    (hsp : ∀ (K : PySem.W.Frag) (H : Hp) (a : Addr) (ns : List Int), ns.length ≤ n → Only H → SqL K H a (ns.map V.int) → spk K [.ref a] H (fun v _ => v = .bl true) E0) :
    PySem.W.WalkO q loose XP YP l.row.toRowW d [] (fun f vs => PySem.call f vs) := by
  refine Att.attach_call hn hdf fun w s₀ s₁ mg mb fa o pm cd doc a vs ns G Y ho hd hcd hmg hobj hints hlen hg => ?_
  have KX := hY w _ Y
  obtain ⟨fd, hb, hF⟩ := F w mg fa _ KX G.T.g hmg
  exact g_call KX G.T.g G.T.b G.T.builtins G.T.nolimit hg hobj hints (Nat.le_trans hlen hn2) hr hF hb fun H hO hS => hsp _ H a ns hlen hO hS
end
end AA

set_option Elab.async false
set_option linter.all false
set_option maxRecDepth 100000
set_option maxHeartbeats 4000000
/-! How long ways are when they are shown; ('ways', k); a def that shows things and makes lambdas. -/
namespace AA
open PySem PySem.Spec PyProof.Rows L2 Evl
mutual
/-- small integers in lists and tuples alone -/
def smD : PyData → Bool
  | .int i => decide (i.natAbs < 1024)
  | .list xs => smDA xs
  | .tuple xs => smDA xs
  | _ => false
def smDA : List PyData → Bool
  | [] => true
  | x :: xs => smD x && smDA xs
end
theorem log_lt {n : Nat} (h : n < 1024) : n.log2 < 10 := by
  by_cases z : n = 0
  · subst z
    decide
  · exact (Nat.log2_lt z).mpr h
mutual
theorem sm_facts : ∀ d : PyData, smD d = true → d.canLay0 = true ∧ d.showable = true ∧ d.hasDict = false ∧ d.intsShort 13 = true ∧ d.weight + 1 ≤ 12 * cnt d
  | .int i, h => by
    have h1 : i.natAbs < 1024 := of_decide_eq_true h
    have h2 := log_lt h1
    refine ⟨rfl, ?_, rfl, ?_, ?_⟩
    · exact decide_eq_true (by omega)
    · exact decide_eq_true (PyData.shown_int_le (Nat.lt_trans h1 (by decide)))
    · show (if i == 0 then 0 else i.natAbs.log2 + 1) + 1 ≤ 12 * 1
      split <;> omega
  | .list xs, h => by
    obtain ⟨h1, h2, h3, h4, h5⟩ := sm_factsA xs h
    refine ⟨h1, h2, h3, h4, ?_⟩
    show PyData.weightAll xs + 1 ≤ 12 * (cntA xs + 1)
    omega
  | .tuple xs, h => by
    obtain ⟨h1, h2, h3, h4, h5⟩ := sm_factsA xs h
    refine ⟨h1, h2, h3, h4, ?_⟩
    show PyData.weightAll xs + 1 ≤ 12 * (cntA xs + 1)
    omega
  | .none, h => by cases h
  | .bool _, h => by cases h
  | .str _, h => by cases h
  | .dict _, h => by cases h
theorem sm_factsA : ∀ ds : List PyData, smDA ds = true → PyData.canLayAll0 ds = true ∧ PyData.showableAll ds = true ∧ PyData.hasDictAll ds = false ∧ PyData.intsShortAll 13 ds = true ∧ PyData.weightAll ds ≤ 12 * cntA ds
  | [], _ => ⟨rfl, rfl, rfl, rfl, Nat.le_refl _⟩
  | d :: ds, h => by
    have h' : (smD d && smDA ds) = true := h
    rw [Bool.and_eq_true] at h'
    obtain ⟨a1, a2, a3, a4, a5⟩ := sm_facts d h'.1
    obtain ⟨b1, b2, b3, b4, b5⟩ := sm_factsA ds h'.2
    have hc := cnt_pos d
    refine ⟨?_, ?_, ?_, ?_, ?_⟩
    · show (PyData.canLay0 d && PyData.canLayAll0 ds) = true
      rw [a1, b1]
      rfl
    · show (PyData.showable d && PyData.showableAll ds) = true
      rw [a2, b2]
      rfl
    · show (PyData.hasDict d || PyData.hasDictAll ds) = false
      rw [a3, b3]
      rfl
    · show (PyData.intsShort 13 d && PyData.intsShortAll 13 ds) = true
      rw [a4, b4]
      rfl
    · show PyData.weight d + 1 + PyData.weightAll ds ≤ 12 * (cnt d + cntA ds)
      omega
end
mutual
theorem lz_keep : ∀ (d d' : PyData), Lz d d' → smD d = true → smD d' = true ∧ cnt d' = cnt d ∧ PyData.depth d' = PyData.depth d
  | _, _, .leaf d _, hs => ⟨hs, rfl, rfl⟩
  | _, _, .ll h, hs => by
    obtain ⟨h1, h2, h3⟩ := lza_keep _ _ h hs
    exact ⟨h1, congrArg (· + 1) h2, congrArg (· + 1) h3⟩
  | _, _, .lt h, hs => by
    obtain ⟨h1, h2, h3⟩ := lza_keep _ _ h hs
    exact ⟨h1, congrArg (· + 1) h2, congrArg (· + 1) h3⟩
  | _, _, .tl h, hs => by
    obtain ⟨h1, h2, h3⟩ := lza_keep _ _ h hs
    exact ⟨h1, congrArg (· + 1) h2, congrArg (· + 1) h3⟩
  | _, _, .tt h, hs => by
    obtain ⟨h1, h2, h3⟩ := lza_keep _ _ h hs
    exact ⟨h1, congrArg (· + 1) h2, congrArg (· + 1) h3⟩
theorem lza_keep : ∀ (ds es : List PyData), LzA ds es → smDA ds = true → smDA es = true ∧ cntA es = cntA ds ∧ PyData.depthAll es = PyData.depthAll ds
  | _, _, .nil, _ => ⟨rfl, rfl, rfl⟩
  | d :: ds, _, .cons h1 h2, hs => by
    have hs' : (smD d && smDA ds) = true := hs
    rw [Bool.and_eq_true] at hs'
    obtain ⟨a1, a2, a3⟩ := lz_keep d _ h1 hs'.1
    obtain ⟨b1, b2, b3⟩ := lza_keep ds _ h2 hs'.2
    refine ⟨?_, ?_, ?_⟩
    · show (smD _ && smDA _) = true
      rw [a1, b1]
      rfl
    · show cnt _ + cntA _ = cnt d + cntA ds
      rw [a2, b2]
    · show max (PyData.depth _) (PyData.depthAll _) = max (PyData.depth d) (PyData.depthAll ds)
      rw [a3, b3]
end
theorem wy_sm {i o : Int} {s : St5} (hi : i ≤ 2) (ho : o ≤ 2) (h : WyOk i o s) (m : StMd s) : smD (stD s) = true := by
  have h1 := h.o0
  have h2 := h.o1
  have h3 := h.t0
  have h4 := h.t1
  have h5 := h.k
  have h6 := m.p0
  have h7 := m.p1
  have h8 := m.q0
  have h9 := m.q1
  have h10 := m.k1
  have h11 := m.c0
  have h12 := m.c1
  show (decide (s.one.natAbs < 1024) && (decide (s.other.natAbs < 1024) && ((decide (s.p.natAbs < 1024) && (decide (s.q.natAbs < 1024) && true)) && (decide (s.ticks.natAbs < 1024) && (decide (s.change.natAbs < 1024) && true))))) = true
  rw [decide_eq_true (by omega : s.one.natAbs < 1024), decide_eq_true (by omega : s.other.natAbs < 1024), decide_eq_true (by omega : s.p.natAbs < 1024), decide_eq_true (by omega : s.q.natAbs < 1024), decide_eq_true (by omega : s.ticks.natAbs < 1024), decide_eq_true (by omega : s.change.natAbs < 1024)]
  rfl
theorem wys_sm {i o : Int} (hi : i ≤ 2) (ho : o ≤ 2) : ∀ {ws : List St5}, (∀ s ∈ ws, WyOk i o s ∧ StMd s) → smDA (ws.map stD) = true
  | [], _ => rfl
  | s :: ws, h => by
    have h1 := wys_sm hi ho (ws := ws) fun t ht => h t (List.mem_cons_of_mem _ ht)
    have h3 := h s List.mem_cons_self
    show (smD (stD s) && smDA (ws.map stD)) = true
    rw [wy_sm hi ho h3.1 h3.2, h1]
    rfl
/-- what repr needs of ways in any form -/
theorem ways_shown {i o : Int} {ws : List St5} {d : PyData} (hi : i ≤ 2) (ho : o ≤ 2) (h : ∀ s ∈ ws, WyOk i o s ∧ StMd s) (hl : ws.length ≤ 100) (e : Lz (.list (ws.map stD)) d) : d.showable = true ∧ d.hasDict = false ∧ d.depth ≤ 60 ∧ d.shown.length ≤ sizeLine := by
  have h1 := wys_sm hi ho h
  obtain ⟨k1, k2, k3⟩ := lz_keep (.list (ws.map stD)) d e h1
  obtain ⟨f1, f2, f3, f4, f5⟩ := sm_facts d k1
  have hc : cnt (.list (ws.map stD)) = 8 * ws.length + 1 := by
    show cntA (ws.map stD) + 1 = _
    rw [cnt_sts]
  have hd : PyData.depth (.list (ws.map stD)) ≤ 3 := by
    have := stDs_depth ws
    show PyData.depthAll (ws.map stD) + 1 ≤ 3
    omega
  have hlay : PyData.layable0 d = true := by
    show (PyData.canLay0 d && decide (PyData.depth d ≤ 64) && decide (PyData.weight d ≤ 2 ^ 20)) = true
    have e20 : (2 : Nat) ^ 20 = 1048576 := by decide
    rw [f1, decide_eq_true (by omega : PyData.depth d ≤ 64), decide_eq_true (by omega : PyData.weight d ≤ 2 ^ 20)]
    rfl
  exact ⟨f2, f3, by omega, PyData.shown_fits_of_layable0 (B := 13) (by decide) (by decide) hlay f4⟩
section
variable {K : PySem.W.Frag}
/-! (x, k) -/
def pairD (x : Str) (k : Int) : PyData := .tuple [.str x, .int k]
theorem pairD_sh {x : Str} (h : PyData.strOk x = true) (k : Int) : SeqAt.shaped (pairD x k) = true := by
  show ((PyData.strOk x && (true && true)) && decide (PyData.depth (pairD x k) ≤ 64)) = true
  rw [h]
  rfl
theorem pairD_eq (x : Str) (k : Int) : PyData.eqv (pairD x k) (pairD x k) = true := by
  show (PyData.eqv (.str x) (.str x) && (PyData.eqv (.int k) (.int k) && true)) = true
  rw [str_eqv, show PyData.eqv (.int k) (.int k) = true from beq_self_eq_true k]
  rfl
theorem pairD_dp {G : Hp} {p : Addr} {x : Str} {k : Int} (h : G p = some (.tup [.str x, .int k])) : Dp K G (.ref p) (pairD x k) := .tup (SqT.of h) (.cons (.str _) (.cons (.int _) .nil))
end
theorem ok_ways_ : PyData.strOk ("ways" : Str) = true := by decide +kernel
section
variable {P : Program} {w : World} {K : PySem.W.Frag} {mg : Str → Option Value} {base : Heap}
theorem gok_ofC {x : Str} {st : Stmt} {f c : Addr} {fd : FuncData} {N ps : List Str} {k : Nat} {sp : Sp} (F : FunC K x st f fd c) (S : FnScope N ps (defScope st)) (len : ∀ vs H Q E, sp vs H Q E → vs.length = ps.length)
    (body : ∀ (A : Around) (outer : List Env) (s : Shared) (H : Hp) (vs : List V) (Q : VK), A.guards = some [] → Room k (A.deeper (envOfC x (defScope st) s.heap.objs.size f (.ref c))) → sp vs H Q E0 →
      ∃ t, PSs (cxOf CX0 P w K mg base N x (defScope st) f (.ref c) A outer s H E0) (defBody st) t ∧ t { nx := fun _ H' => Q .non H', rt := Q } (L2.start N vs) H) : GOk P w K mg base (k + 1) f fd ps sp := by
  obtain ⟨oc, od, kV, doc, pm, an, ct, osl, rfl, lk, hcd⟩ := F.ex
  exact ⟨len, fun A outer s H args us vs Q hg hr e0 hb r hs => LamX.run_ofS lk hcd S hr e0 hb r (len _ _ _ _ hs) fun hr' => body A outer s H vs Q hg hr' hs⟩
end
/-! ### ways -/
theorem rdWay_st {i o : Int} {d : PyData} {s : St5} (h : stepOf d = some s) (k : WyOk i o s) : rdWay i o d = some s := by
  have h1 := k.o0
  have h2 := k.o1
  have h3 := k.t0
  have h4 := k.t1
  have hm : s.one < mxI i o ∧ s.other < mxI i o := by
    unfold mxI
    split <;> exact ⟨by omega, by omega⟩
  unfold rdWay
  rw [rd_so h, if_pos ⟨h1, hm.1, h3, hm.2, k.k⟩]
  show (if s.one < o ∧ s.other < i then some s else none) = some s
  rw [if_pos ⟨h2, h4⟩]
theorem rdWay_no {i o : Int} {d : PyData} (h : stepOf d = none) : rdWay i o d = none := by
  unfold rdWay
  rw [rd_no h]
theorem rdWay_off {i o : Int} {d : PyData} {s : St5} (h : stepOf d = some s) (k : s.one < 0 ∨ o ≤ s.one ∨ i ≤ s.other ∨ s.ticks < 1) : rdWay i o d = none := by
  unfold rdWay
  rw [rd_so h]
  by_cases c : 0 ≤ s.one ∧ s.one < mxI i o ∧ 0 ≤ s.other ∧ s.other < mxI i o ∧ 1 ≤ s.ticks
  · rw [if_pos c]
    show (if s.one < o ∧ s.other < i then some s else none) = none
    rw [if_neg fun z => by omega]
  · rw [if_neg c]
section
variable {K : PySem.W.Frag}
theorem wyall_st {i o : Int} {H : Hp} : ∀ {vs : List V} {ss : List St5}, DpAll K H vs (ss.map stD) → (∀ s ∈ ss, WyOk i o s) → WyAll K i o H vs ss
  | [], [], _, _ => .nil
  | [], _ :: _, h, _ => by cases h
  | _ :: _, [], h, _ => by cases h
  | v :: vs, s :: ss, h, k => by
    cases h with
    | cons h1 h2 => exact .cons h1 (rdWay_st rfl (k s List.mem_cons_self)) (wyall_st h2 fun t m => k t (List.mem_cons_of_mem _ m))
theorem wyall_lz {i o : Int} {H : Hp} : ∀ {vs : List V} {ds : List PyData} {ss : List St5}, DpAll K H vs ds → LzA (ss.map stD) ds → (∀ s ∈ ss, WyOk i o s) → WyAll K i o H vs ss
  | [], _, [], h, l, _ => .nil
  | [], [], _ :: _, h, l, _ => by cases l
  | _ :: _, _, [], h, l, _ => by
    cases l
    cases h
  | v :: vs, d :: ds, s :: ss, h, l, k => by
    cases h with
    | cons h1 h2 =>
      cases l with
      | cons l1 l2 => exact .cons h1 (rdWay_st ((lz_so l1).trans rfl) (k s List.mem_cons_self)) (wyall_lz h2 l2 fun t m => k t (List.mem_cons_of_mem _ m))
end
end AA

set_option Elab.async false
set_option linter.all false
set_option maxRecDepth 100000
set_option maxHeartbeats 4000000
/-! _law_closed_right. -/
namespace AA
open PySem PySem.Spec PyProof.Rows L2 Evl
theorem at_get {xs : List Int} {i : Int} (h0 : 0 ≤ i) (h1 : i < xs.length) : atI (xs.map V.int) i = some (.int (xs.getD i.toNat 0)) := by
  obtain ⟨j, rfl⟩ : ∃ j : Nat, i = (j : Int) := ⟨i.toNat, by omega⟩
  have hj : j < xs.length := by omega
  refine atI_nat ?_
  rw [List.getElem?_map, List.getElem?_eq_getElem hj]
  show some (V.int xs[j]) = some (V.int (xs.getD j 0))
  simp [List.getD, hj]
def OddW (K : PySem.W.Frag) (i o : Int) (F : Hp) (v : V) : Prop := RdNo K (mxI i o) F v ∨ ∃ d, Dp K F v d ∧ rdWay i o d = none
theorem OddW.ex {K : PySem.W.Frag} {i o : Int} {F F' : Hp} {v : V} (h : OddW K i o F v) (e : Ex F F') : OddW K i o F' v := h.imp (fun z => z.ex e) fun ⟨d, h1, h2⟩ => ⟨d, dp_ex e _ _ h1, h2⟩
theorem oddw_tup {K : PySem.W.Frag} {i o : Int} {F : Hp} {p : Addr} {vs : List V} {ds : List PyData} (h : F p = some (.tup vs)) (hd : DpAll K F vs ds) (hr : rdWay i o (.tuple ds) = none) : OddW K i o F (.ref p) := .inr ⟨_, .tup (SqT.of h) hd, hr⟩
theorem oddw_lf {K : PySem.W.Frag} {i o : Int} {F : Hp} {v : V} {d : PyData} (h : Dp K F v d) (hr : rdWay i o d = none) : OddW K i o F v := .inr ⟨_, h, hr⟩
theorem off_O {a b O : Addr} {A : Hp} {o : HO} (h : A O = none) : Ex (nt (hid a b A)) (nt (h3 a b O (upd A O o))) := fun x u hx => by
  obtain ⟨h1, h2⟩ := nt_some hx
  obtain ⟨k1, k2, k3⟩ := hid_some h1
  have ne : x ≠ O := ne_of_none k1 h
  exact nt_of (by rw [h3_ne k2 k3 ne, upd_ne ne]; exact k1) h2
theorem h3_own {a b O : Addr} {A : Hp} {o : HO} : h3 a b O (upd A O o) = h3 a b O A := by
  funext x
  unfold h3
  by_cases e : x = O
  · rw [e]
    unfold hid
    rw [if_pos (.inl rfl), if_pos (.inl rfl)]
  · rw [hid_ne e e, hid_ne e e]
    unfold hid
    rw [upd_ne e]
theorem lz_sqa {K : PySem.W.Frag} {ws : List St5} {G : Hp} {v : V} {d : PyData} (h : Dp K G v d) (z : Lz (.list (ws.map stD)) d) : ∃ p xs ds, v = .ref p ∧ SqA K G p xs ∧ DpAll K G xs ds ∧ LzA (ws.map stD) ds := by
  cases z with
  | leaf _ q => cases q
  | ll z => cases h with
    | lst h1 h2 => exact ⟨_, _, _, rfl, .inl h1, h2, z⟩
  | lt z => cases h with
    | tup h1 h2 => exact ⟨_, _, _, rfl, .inr h1, h2, z⟩
section
variable {P : Program} {w : World} {K : PySem.W.Frag} {mg : Str → Option Value} {base : Heap}
def spClosed0 (K : PySem.W.Frag) (CW C CB : Addr) : Sp := fun vs H Q _ => spClosed K CW C CB vs H Q E0
def spCloR (K : PySem.W.Frag) (CW C : Addr) (T : List (Addr × Str)) : Sp := fun vs H Q _ => ∃ (a b : Addr) (m : Nat) (x wb lw pi po l li lo : Addr) (n : Int) (vs0 : List V) (ss ts : List St5) (is os : List Int), vs = [.ref a, .ref x, .int n, .ref l, .ref li, .ref lo] ∧ m < 500000000 ∧ LamX.Tabs T H ∧ SAt H a b m ∧
  PtL K CW C (hid a b H) x wb lw pi po n ts is os ∧ ts.Nodup ∧ (∀ s, s ∈ ts ↔ s ∈ ss) ∧ hid a b H l = some (.lst vs0) ∧ hid a b H li = some (.lst (is.map V.int)) ∧ hid a b H lo = some (.lst (os.map V.int)) ∧ DpAll K (tps H) vs0 (ss.map stD) ∧ WbOk n ss ∧ ss.length ≤ 14 ∧ DrOk n is os ∧
  ∀ H', RS T a b H (m + 10000) H' → Q (.bl true) H'
abbrev nmCR : List Str := ["_law_stream_here", "_law_part_here", "_law_places", "_law_steps", "_law_ins", "_law_outs", "_law_ways", "_law_k", "_law_way_here", "_law_more", "_law_due", "_law_handed", "_law_was", "_law_told", "_law_twin", "_law_one", "_law_odds", "_law_at", "_law_odd"]
theorem scCR : FnScope nmCR ["_law_stream_here", "_law_part_here", "_law_places", "_law_steps", "_law_ins", "_law_outs"] (defScope sClosedRight) := ⟨rfl, rfl, rfl, by decide +kernel, rfl, by decide +kernel, by decide +kernel⟩
theorem ok_cloR {f fD fC CW C CP CS CD CY g fd_ fy_ c PT fI fP fS fE : Addr} {fd ddC fdg fdI fdP fdS fdE : FuncData} {T : List (Addr × Str)} (F : FunC K "_law_closed_right" sClosedRight f fd c) (B : Bn mg) (hset : mg "set" = none) (TB : LamX.TabB base mg c PT) (hT : (PT, (("_law_closed_right" : Str) ++ ".<locals>.") ++ "<lambda>") ∈ T) (hu : ∀ p ∈ T, p.1 = PT → p.2 = (("_law_closed_right" : Str) ++ ".<locals>.") ++ "<lambda>")
    (TR : TrP K mg CD CY g fd_ fy_ fdg) (W : WbK P w K mg base CW CP CS fI fP fS fE fdI fdP fdS fdE) (ICW : InsK K CW) (hWW : PySem.W.kitOne K (.ref CW) (.ref CW) = some true) (ICP : InsK K C)
    (GC : FnOk P w K mg base (L2.CX P w) 7 fC ddC ["part", "ways"] (spClosed K CW C CY)) (GC0 : FnOk P w K mg base CX0 7 fC ddC ["part", "ways"] (spClosed0 K CW C CY)) (mC : mg "closed" = some (.ref fC)) (kC : PySem.W.keepIn K (.ref fC) = true) (bC : Binds K ddC ["part", "ways"] []) (kbC : KBinds K ddC ["part", "ways"] ["ways", "part"] revK revK)
    (mD : mg "_law_draw" = some (.ref fD)) (vD : FnV K fD)
    (cD : C8.Cal P w K mg base 1 "_law_draw" spDraw []) (cM : C8.Cal P w K mg base 2 "_law_mixed" (spMixed K) []) (cW : C8.Cal P w K mg base 3 "_law_way" (spLWay K) []) (cL : C8.Cal P w K mg base 8 "_law_loose" (spLooseB K 6) [])
    (cS : C8.Cal P w K mg base 10 "_law_same" (spSame K C (PrtR K CW C) 7) []) : GOk P w K mg base 11 f fd ["_law_stream_here", "_law_part_here", "_law_places", "_law_steps", "_law_ins", "_law_outs"] (spCloR K CW C T) := by
  refine gok_ofC F scCR (fun vs H Q E h => ?_) fun A outer s H vs Q hgd hr h => ?_
  · obtain ⟨a, b, m, x, wb, lw, pi, po, l, li, lo, n, vs0, ss, ts, is, os, rfl, _⟩ := h
    rfl
  suffices go : ∃ t, PSs (cxOf CX0 P w K mg base nmCR "_law_closed_right" (defScope sClosedRight) f (.ref c) A outer s H E0).nox (defBody sClosedRight) t ∧ t { nx := fun _ H' => Q .non H', rt := Q } (L2.start nmCR vs) H from let ⟨t, h1, h2⟩ := go; ⟨t, h1.nox, h2⟩
  · obtain ⟨a, b, m, x, wb, lw, pi, po, l, li, lo, n, vs0, ss, ts, is, os, rfl, hm, hTb, hS, hP, htn, htm, hl, hli, hlo, hD, hWb, hsz, hdr, k⟩ := h
    have hr1 : Room 1 (A.deeper (envOfC "_law_closed_right" (defScope sClosedRight) s.heap.objs.size f (.ref c))) := hr.mono (by decide)
    have hr7 : Room 7 (A.deeper (envOfC "_law_closed_right" (defScope sClosedRight) s.heap.objs.size f (.ref c))) := hr.mono (by decide)
    have hr9 : Room 9 (A.deeper (envOfC "_law_closed_right" (defScope sClosedRight) s.heap.objs.size f (.ref c))) := hr.mono (by decide)
    have hgd2 : (cxOf CX0 P w K mg base nmCR "_law_closed_right" (defScope sClosedRight) f (.ref c) A outer s H E0).nox.A.guards = some [] := hgd
    refine ⟨_, Evl.pss_cut (ps_set (i := 6) scCR.nd rfl (Or.inr rfl) (pe_lst pa_nil))
      (Evl.pss_cut (ps_for PassesOwn.never rfl (pi_range1 (by rfl) B.range (pa_cons (C8.pe_c cD hr (by decide) (by rfl) (pa_cons (pv 0) (pa_cons pe_int pa_nil))) pa_nil)) (pg_name (i := 7) scCR.nd rfl (Or.inl rfl))
          (pss_cons (ps_set (i := 8) scCR.nd rfl (Or.inl rfl) (C8.pe_c cW hr (by decide) (by rfl) (pa_cons (pv 0) (pa_cons (pv 3) (pa_cons (pv 4) (pa_cons (pv 5) pa_nil))))))
          (pss_one (ps_expr (pe_bm PySem.F.plainAttrs_list PySem.F.slot_list_extend PySem.F.type_list_extend mt_extend (pv 6) (pa_cons (pe_ifExp (pt_cmpR (op_notInD (Room.u65 hr)) (pv 8) (pv 6) (by rfl)) (pe_lst (pa_cons (pv 8) pa_nil)) (pe_lst pa_nil)) pa_nil))))))
      (Evl.pss_cut (ps_setLc (i := 9) (own := [("_law_way_here", 8)]) (g := gName 8) (tt := tYes) (by rfl) scCR.nd rfl rfl (sw_true rfl rfl rfl (by decide +kernel)) (pi_list (pv 6)) (blkOk_by (N := nmCR) (sc := defScope sClosedRight) (by decide +kernel))
          (fun _ _ _ _ _ => pg_name (i := 8) scCR.nd rfl (Or.inl rfl)) (fun _ _ _ _ _ => pts_nil)
          (fun _ _ _ _ _ => pe_op (r := rCatT K) op_catT (pe_tup (pa_cons (pe_ix (r := rIxL K) ix_list (pv 5) (pe_ix (r := rIxT K) ix_tup (pv 8) pe_int (fun _ _ => rfl)) (fun _ _ => rfl)) (pa_cons (pe_ix (r := rIxL K) ix_list (pv 4) (pe_ix (r := rIxT K) ix_tup (pv 8) pe_int (fun _ _ => rfl)) (fun _ _ => rfl)) pa_nil))) (pe_slice (r := rSlT K) sl_tup (pv 8) (po_some pe_int) po_none)))
      (Evl.pss_cut (ps_par (i := 10) (j := 11) (by rfl) scCR.nd rfl rfl (by decide) rfl rfl (pa_cons (pe_lst (pa_cons (pv 2) (pa_cons (pe_callB (r := rSortSet K w) (cr_sortSet (by rfl) hr) (by rfl) B.sorted boot_sorted (pa_cons (pe_callTy (r := rSetOfSt K w) (cr_setOfSt (by rfl) hr) (by rfl) hset boot_set (pa_cons (pe_op op_cat (pv 3) (pv 9)) pa_nil)) pa_nil)) pa_nil))) (pa_cons (C8.pe_c cL hr (by decide) (by rfl) (pa_cons (pv 0) (pa_cons (pv 6) pa_nil))) pa_nil)) (by rfl))
      (pss_cons (ps_set (i := 12) scCR.nd rfl (Or.inl rfl) (pe_callB (call_rep hgd2 hr) (by rfl) B.repr boot_repr (pa_cons (pv 11) pa_nil)))
      (pss_cons (ps_asg (pe_tup (pa_cons (C8.pe_c ⟨fC, ddC, _, [], GC0, mC, kC, bC, .nil⟩ hr (by decide) (by rfl) (pa_cons (pv 1) (pa_cons (pv 11) pa_nil))) (pa_cons (pe_callK0 GC0 hr7 (by rfl) mC kC kbC pass0 (pk_cons (pe_callTy call_tuple_of (by rfl) B.tuple boot_tuple (pa_cons (pv 6) pa_nil)) (pk_cons (pv 1) pk_nil))) pa_nil)))
          (pg_tup (n := 2) rfl (pgs_cons (pg_name (i := 13) scCR.nd rfl (Or.inl rfl)) (pgs_cons (pg_name (i := 14) scCR.nd rfl (Or.inr rfl)) pgs_nil))))
      (pss_cons (ps_if (PW.pt (pw_or (pt_not (pt_val (pe_callB call_is1 (by rfl) B.isinstance boot_isinstance (pa_cons (pv 13) (pa_cons (pe_glob (v := .ref CW) (by rfl) W.T.mgC rfl) pa_nil))))) (pw_or (pt_not (pt_cmpR (op_eqV W.GE W.bE W.hE W.iE hr1) (pv 13) (pv 14) (nomark _))) (pw_or1 (pt_cmpR op_ne (pe_callB (call_rep hgd2 hr) (by rfl) B.repr boot_repr (pa_cons (pv 11) pa_nil)) (pv 12) (nomark _)))))) (pss_one (ps_ret pe_bl)) pss_nil)
      (Evl.pss_cut (ps_if (PW.pt (pw_or (pt_not (pt_val (C8.pe_c cS hr (by decide) (by rfl) (pa_cons (pe_lst (pa_cons (pe_meth0 (pv 13) W.T.cl W.mP W.GP hr1 W.bP .nil pass0) (pa_cons (pe_meth0 (pv 13) W.T.cl W.mS W.GS hr1 W.bS .nil pass0) pa_nil))) (pa_cons (pv 10) pa_nil)))))
            (pw_or1 (pt_not (pt_val (C8.pe_c cS hr (by decide) (by rfl) (pa_cons (pe_lst (pa_cons (pe_meth0 (pv 14) W.T.cl W.mP W.GP hr1 W.bP .nil pass0) (pa_cons (pe_meth0 (pv 14) W.T.cl W.mS W.GS hr1 W.bS .nil pass0) pa_nil))) (pa_cons (pv 10) pa_nil)))))))) (pss_one (ps_ret pe_bl)) pss_nil)
      (pss_cons (ps_set (i := 15) scCR.nd rfl (Or.inl rfl) (pe_tup (pa_cons pe_int (pa_cons pe_int (pa_cons (pe_tup (pa_cons pe_int (pa_cons pe_int pa_nil))) (pa_cons pe_int (pa_cons pe_int pa_nil)))))))
      (Evl.pss_cut (ps_set (i := 16) scCR.nd rfl (Or.inl rfl) (pe_lst (pa_cons pe_non (pa_cons pe_int (pa_cons pe_str (pa_cons (pe_tup pa_nil) (pa_cons pe_dnewK (pa_cons (pe_slice (r := rSlT K) sl_tup (pv 15) po_none (po_some pe_int)) (pa_cons (pe_op (r := rCatT K) op_catT (pv 15) (pe_tup (pa_cons pe_int pa_nil))) (pa_cons pe_bl (pa_cons (pe_glob (v := .ref fD) (by rfl) mD rfl)
            (pa_cons (pe_op (r := rCatT K) op_catT (pe_tup (pa_cons (pe_callB call_len_seq (by rfl) B.len PySem.boot_len (pa_cons (pv 5) pa_nil)) pa_nil)) (pe_slice (r := rSlT K) sl_tup (pv 15) (po_some pe_int) po_none)) (pa_cons (pe_op (r := rCatT K) op_catT (pe_tup (pa_cons (pe_un un_neg pe_int) pa_nil)) (pe_slice (r := rSlT K) sl_tup (pv 15) (po_some pe_int) po_none)) pa_nil)))))))))))))
      (Evl.pss_cut (ps_expr (pe_bm PySem.F.plainAttrs_list PySem.F.slot_list_extend PySem.F.type_list_extend mt_extend (pv 16) (pa_cons (pe_lst (pa_cons (pe_tup (pa_cons pe_int (pa_cons (pe_callB call_len_seq (by rfl) B.len PySem.boot_len (pa_cons (pv 4) pa_nil)) (pa_cons (pe_tup (pa_cons pe_int (pa_cons pe_int pa_nil))) (pa_cons pe_int (pa_cons pe_int pa_nil))))))
            (pa_cons (pe_tup (pa_cons pe_int (pa_cons pe_int (pa_cons pe_int (pa_cons pe_int (pa_cons pe_int pa_nil)))))) (pa_cons (pe_tup (pa_cons pe_int (pa_cons pe_int (pa_cons (pe_tup (pa_cons pe_int pa_nil)) (pa_cons pe_int (pa_cons pe_int pa_nil)))))) (pa_cons (pe_tup (pa_cons pe_int (pa_cons pe_int (pa_cons (pe_tup (pa_cons pe_bl (pa_cons pe_int pa_nil))) (pa_cons pe_int (pa_cons pe_int pa_nil)))))) pa_nil))))) pa_nil)))
      (Evl.pss_cut (ps_expr (pe_bm PySem.F.plainAttrs_list PySem.F.slot_list_extend PySem.F.type_list_extend mt_extend (pv 16) (pa_cons (pe_lst (pa_cons (pe_tup (pa_cons pe_int (pa_cons pe_int (pa_cons (pe_tup (pa_cons pe_int (pa_cons pe_int pa_nil))) (pa_cons pe_int (pa_cons pe_int pa_nil))))))
            (pa_cons (pe_tup (pa_cons pe_int (pa_cons pe_int (pa_cons (pe_tup (pa_cons pe_int (pa_cons pe_int pa_nil))) (pa_cons pe_bl (pa_cons pe_int pa_nil)))))) (pa_cons (pe_tup (pa_cons pe_int (pa_cons pe_int (pa_cons (pe_tup (pa_cons pe_int (pa_cons pe_int pa_nil))) (pa_cons pe_int (pa_cons pe_non pa_nil)))))) (pa_cons (pe_tup (pa_cons pe_bl (pa_cons pe_int (pa_cons (pe_tup (pa_cons pe_int (pa_cons pe_int pa_nil))) (pa_cons pe_int (pa_cons pe_int pa_nil)))))) pa_nil))))) pa_nil)))
      (Evl.pss_cut (ps_expr (pe_bm PySem.F.plainAttrs_list PySem.F.slot_list_append PySem.F.type_list_append mt_append (pv 16) (pa_cons (pe_op (r := rCatT K) op_catT (pe_tup (pa_cons pe_str pa_nil)) (pe_slice (r := rSlT K) sl_tup (pv 15) (po_some pe_int) po_none)) pa_nil)))
      (pss_cons (ps_set (i := 17) scCR.nd rfl (Or.inr rfl) (C8.pe_c cD hr (by decide) (by rfl) (pa_cons (pv 0) (pa_cons (pe_op op_add (pe_callB call_len_seq (by rfl) B.len PySem.boot_len (pa_cons (pv 6) pa_nil)) pe_int) pa_nil))))
      (Evl.pss_cut (ps_for PassesOwn.never rfl (pi_list (pe_slice (r := rSlL K) sl_list (C8.pe_c cM hr (by decide) (by rfl) (pa_cons (pv 0) (pa_cons (pv 16) pa_nil))) po_none (po_some pe_int))) (pg_name (i := 18) scCR.nd rfl (Or.inr rfl))
          (pss_one (ps_if (pt_cmpR (op_neD hr.units) (pe_triedB (q0 := ("_law_closed_right" : Str) ++ ".<locals>.") (k := 7) rfl rfl rfl TR TB hT hu (by rfl) rfl rfl hr9 (LamX.lamS_by (by rfl)) rfl (fun _ _ _ _ _ => rfl) (fun _ _ _ _ _ _ _ hr' => pe_call GC hr' (by rfl) mC kC bC .nil (passes_call (takes_of rfl rfl rfl rfl) fun _ _ _ _ z => z)
              (pa_cons (pv 1) (pa_cons (pe_op op_cat (pe_op op_cat (pe_slice (r := rSlL K) sl_list (pv 6) po_none (po_some (pv 17))) (pe_lst (pa_cons (pv 18) (pa_cons pe_non pa_nil)))) (pe_slice (r := rSlL K) sl_list (pv 6) (po_some (pv 17)) po_none)) pa_nil)))) (pe_tup (pa_cons pe_str (pa_cons (pv 17) pa_nil))) (nomark _)) (pss_one (ps_ret pe_bl)) pss_nil)))
      (Evl.pss_cut (ps_for PassesOwn.never rfl (pi_list (pe_slice (r := rSlL K) sl_list (pv 6) po_none (po_some pe_int))) (pg_name (i := 8) scCR.nd rfl (Or.inl rfl))
          (pss_one (ps_for PassesOwn.never rfl (pi_list (pe_lst (pa_cons (pv 8) (pa_cons (pe_callTy (r := rListOf K) call_list_of (by rfl) B.list boot_list (pa_cons (pv 8) pa_nil)) (pa_cons (pe_op (r := rCatT K) op_catT (pe_op (r := rCatT K) op_catT (pe_slice (r := rSlT K) sl_tup (pv 8) po_none (po_some pe_int)) (pe_tup (pa_cons (pe_callTy (r := rListOf K) call_list_of (by rfl) B.list boot_list (pa_cons (pe_ix (r := rIxT K) ix_tup (pv 8) pe_int (fun _ _ => rfl)) pa_nil)) pa_nil))) (pe_slice (r := rSlT K) sl_tup (pv 8) (po_some pe_int) po_none)) pa_nil))))) (pg_name (i := 14) scCR.nd rfl (Or.inr rfl))
            (pss_one (ps_if (pt_cmpR (op_neD hr.units) (pe_triedB (q0 := ("_law_closed_right" : Str) ++ ".<locals>.") (k := 7) rfl rfl rfl TR TB hT hu (by rfl) rfl rfl hr9 (LamX.lamS_by (by rfl)) rfl (fun _ _ _ _ _ => rfl) (fun _ _ _ _ _ _ _ hr' => pe_call GC hr' (by rfl) mC kC bC .nil (passes_call (takes_of rfl rfl rfl rfl) fun _ _ _ _ z => z)
                (pa_cons (pv 1) (pa_cons (pe_op op_cat (pv 6) (pe_lst (pa_cons (pv 14) (pa_cons pe_non pa_nil)))) pa_nil)))) (pe_tup (pa_cons pe_str (pa_cons (pe_callB call_len_seq (by rfl) B.len PySem.boot_len (pa_cons (pv 6) pa_nil)) pa_nil))) (nomark _)) (pss_one (ps_ret pe_bl)) pss_nil)))))
      (pss_one (ps_ret (pe_callB (cr_all (by rfl)) (by rfl) B.all boot_all (pa_cons (pe_lc (own := [("_law_odd", 18)]) (g := gName 18) (tt := tYes) (by rfl) scCR.nd (pi_list (pe_lst (pa_cons pe_non (pa_cons pe_int (pa_cons pe_str (pa_cons pe_dnewK (pa_cons pe_bl (pa_cons (pv 1) pa_nil)))))))) (blkOk_by (N := nmCR) (sc := defScope sClosedRight) (by decide +kernel))
          (fun _ _ _ _ _ => pg_name (i := 18) scCR.nd rfl (Or.inr rfl)) (fun _ _ _ _ _ => pts_nil) (fun _ _ _ _ _ => pe_cmpR (r := rEqD K) (op_eqD hr.units) (pe_triedB (q0 := ("_law_closed_right" : Str) ++ ".<locals>.") (k := 7) rfl rfl rfl TR TB hT hu (by rfl) rfl rfl hr9 (LamX.lamS_by (by rfl)) rfl (fun _ _ _ _ _ => rfl) (fun _ _ _ _ _ _ _ hr' => pe_call GC hr' (by rfl) mC kC bC .nil (passes_call (takes_of rfl rfl rfl rfl) fun _ _ _ _ z => z) (pa_cons (pv 1) (pa_cons (pv 18) pa_nil)))) (pe_tup (pa_cons pe_str (pa_cons pe_int pa_nil))) (nomark _))) pa_nil))))))))))))))))))), ?_⟩
    have hlen := sts_len hD
    have i2 := hdr.i2
    have o2 := hdr.o2
    have i0 : 0 < is.length := List.length_pos_iff.mpr hdr.i1
    have o0 : 0 < os.length := List.length_pos_iff.mpr hdr.o1
    have hmi : (is.map V.int).length = is.length := List.length_map ..
    have hmo : (os.map V.int).length = os.length := List.length_map ..
    have hok := hWb.ok
    have htok : ∀ s ∈ ts, StOk n s := fun s hs => hok s ((htm s).mp hs)
    have htz : ts.length ≤ 1000 := by
      have := nd_len ts ss htn fun s hs => (htm s).mp hs
      omega
    have bl : nt (hid a b H) l = some (.lst vs0) := nt_of hl fun ps z => nomatch z
    have bi : nt (hid a b H) li = some (.lst (is.map V.int)) := nt_of hli fun ps z => nomatch z
    have bo : nt (hid a b H) lo = some (.lst (os.map V.int)) := nt_of hlo fun ps z => nomatch z
    have bD : DpAll K (nt (hid a b H)) vs0 (ss.map stD) := dpa_nt _ _ (dpa_ex (tps_in hS) _ _ hD)
    have bDt : ∀ {k : Nat} {G : Hp}, RS T a b H k G → DpAll K (tps G) vs0 (ss.map stD) := fun r => dpa_ex (fun z o hz => by
      obtain ⟨_, xs, rfl⟩ := tps_some hz
      exact tps_of (r.at _ _ (nt_of (tps_in hS _ _ hz) fun ps z => nomatch z))) _ _ hD
    have bP : PtL K CW C (nt (hid a b H)) x wb lw pi po n ts is os := hP.nt
    have Hl : ∀ {k : Nat} {G : Hp}, RS T a b H k G → hid a b G l = some (.lst vs0) := fun r => nt_le _ _ (r.e _ _ bl)
    have Hi : ∀ {k : Nat} {G : Hp}, RS T a b H k G → hid a b G li = some (.lst (is.map V.int)) := fun r => nt_le _ _ (r.e _ _ bi)
    have Ho : ∀ {k : Nat} {G : Hp}, RS T a b H k G → hid a b G lo = some (.lst (os.map V.int)) := fun r => nt_le _ _ (r.e _ _ bo)
    have Gl : ∀ {k : Nat} {G : Hp}, RS T a b H k G → G l = some (.lst vs0) := fun r => r.at _ _ bl
    have Gi : ∀ {k : Nat} {G : Hp}, RS T a b H k G → G li = some (.lst (is.map V.int)) := fun r => r.at _ _ bi
    have Go : ∀ {k : Nat} {G : Hp}, RS T a b H k G → G lo = some (.lst (os.map V.int)) := fun r => r.at _ _ bo
    have GD : ∀ {k : Nat} {G : Hp}, RS T a b H k G → DpAll K G vs0 (ss.map stD) := fun r => dpa_ex r.at _ _ bD
    have GPt : ∀ {k : Nat} {G : Hp}, RS T a b H k G → PtL K CW C G x wb lw pi po n ts is os := fun r => bP.ex r.at
    have r0 : RS T a b H m H := ⟨Ex.refl _, hS, hTb⟩
    -- no ways yet
    refine ⟨fun σ G => ∃ L, σ = [some (.ref a), some (.ref x), some (.int n), some (.ref l), some (.ref li), some (.ref lo), some (.ref L), none, none, none, none, none, none, none, none, none, none, none, none] ∧ Ex H G ∧ H L = none ∧ G L = some (.lst []), ?_, ?_⟩
    · refine ⟨Nat.zero_le _, fun L hL => ⟨L, rfl, Ex.new hL, hL, upd_same⟩⟩
    rintro σ G0 ⟨L, rfl, e0, L0, hL⟩
    have La := hS.nea L0
    have Lb := hS.neb L0
    have frL : ∀ z o, nt (hid a b H) z = some o → z ≠ L := fun z o hz e => by
      have := nt_le _ _ hz
      rw [e, hid_none L0] at this
      cases this
    -- ways
    refine ⟨fun σ G => ∃ (x7 x8 : Option V) (vw : List V) (ws : List St5) (k : Nat), σ = [some (.ref a), some (.ref x), some (.int n), some (.ref l), some (.ref li), some (.ref lo), some (.ref L), x7, x8, none, none, none, none, none, none, none, none, none, none] ∧ RS T a b H k G ∧ k ≤ m + 50 ∧ G L = some (.lst vw) ∧ DpAll K (tps G) vw (ws.map stD) ∧ ws.Nodup ∧ (∀ s ∈ ws, WyOk is.length os.length s ∧ StMd s) ∧ ws.length ≤ 4, ?_, ?_⟩
    · have r1 := r0.ex e0
      refine ⟨_, rfl, a, b, m, 5, rfl, r1.s, by omega, by decide, by decide, fun G1 q e1 s1 q0 q1 => ?_⟩
      have r2 := r1.go e1 s1
      refine ⟨q, rfl, by omega, by omega, for_range (lo := 0) (n := q.toNat) (fun j σ G => ∃ (x7 x8 : Option V) (vw : List V) (ws : List St5), σ = [some (.ref a), some (.ref x), some (.int n), some (.ref l), some (.ref li), some (.ref lo), some (.ref L), x7, x8, none, none, none, none, none, none, none, none, none, none] ∧ RS T a b H (m + 1 + 10 * j) G ∧ G L = some (.lst vw) ∧ DpAll K (tps G) vw (ws.map stD) ∧ ws.Nodup ∧ (∀ s ∈ ws, WyOk is.length os.length s ∧ StMd s) ∧ ws.length ≤ j) ?_ ?_ ?_⟩
      · exact ⟨none, none, [], [], rfl, r2, e1.at hL La Lb, .nil, List.nodup_nil, fun s h => absurd h (by simp), Nat.le_refl _⟩
      · rintro j σ G hj ⟨x7, x8, vw, ws, rfl, r, hG, hW, nd, hws, hwl⟩
        have hvl := sts_len hW
        refine ⟨_, rfl, _, rfl, _, rfl, _, rfl, a, b, m + 1 + 10 * j, l, li, lo, vs0, ss, is, os, rfl, r.s, by omega, Hl r, bDt r, by omega, fun s hs => ⟨(hok s hs).k, hWb.sm s hs⟩, Hi r, Ho r, i0, i2, o0, o2, fun G8 ps st e8 s8 p0 hd wy md => ?_⟩
        have r8 := r.go e8 s8
        have hG8 : G8 L = some (.lst vw) := e8.at hG La Lb
        have hD8 : DpAll K (tps G8) vw (ws.map stD) := dpa_ex (tps_hid e8 r.s) _ _ hW
        refine ⟨_, rfl, .inl ⟨rfl, _, SqL.of hG8⟩, _, rfl, _, rfl, stD st, ws.map stD, dp_ex tps_le _ _ hd, .lst (SqL.of hG8) (dpa_ex tps_le _ _ hD8), stD_shaped st, stDs_shaped ws, _, rfl, ?_⟩
        rw [any_eqv]
        by_cases hin : st ∈ ws
        · rw [decide_eq_true hin]
          refine iteF ?_
          refine ⟨Nat.zero_le _, fun u hu => ?_⟩
          have hgu : L ≠ u := ne_of_none hG8 hu
          have hG9 : upd G8 u (.lst []) L = some (.lst vw) := by rw [upd_ne hgu]; exact hG8
          refine ⟨L, u, vw, [], rfl, rfl, hG9, upd_same, by rw [hvl, List.length_nil, Nat.add_zero]; exact sz_le (by omega), ?_⟩
          rw [List.append_nil]
          have r9 := (r8.ex (Ex.new (o := .lst []) hu)).mut (ys := vw) hG9 frL La Lb
          exact ⟨_, _, vw, ws, rfl, ⟨r9.e, r9.s.mono (by omega), r9.t⟩, upd_same, dpa_ex ((tps_mono (Ex.new hu)).trans (tps_upd (NoTup.lst hG9))) _ _ hD8, nd, hws, by omega⟩
        · rw [decide_eq_false hin]
          refine iteT ?_
          refine ⟨_, rfl, by show 1 ≤ sizeLine; decide, fun u hu => ?_⟩
          have hgu : L ≠ u := ne_of_none hG8 hu
          have hG9 : upd G8 u (.lst [.ref ps]) L = some (.lst vw) := by rw [upd_ne hgu]; exact hG8
          refine ⟨L, u, vw, [.ref ps], rfl, rfl, hG9, upd_same, by rw [hvl, List.length_singleton]; exact sz_le (by omega), ?_⟩
          have tp : Ex (tps G8) (tps (upd (upd G8 u (.lst [.ref ps])) L (.lst (vw ++ [.ref ps])))) := (tps_mono (Ex.new hu)).trans (tps_upd (NoTup.lst hG9))
          have r9 := (r8.ex (Ex.new (o := .lst [.ref ps]) hu)).mut (ys := vw ++ [.ref ps]) hG9 frL La Lb
          refine ⟨_, _, vw ++ [.ref ps], ws ++ [st], rfl, ⟨r9.e, r9.s.mono (by omega), r9.t⟩, upd_same, ?_, ?_, fun s hs => ?_, by rw [List.length_append, List.length_singleton]; omega⟩
          · rw [List.map_append]
            exact dpa_app (dpa_ex tp _ _ hD8) (.cons (dp_ex tp _ _ hd) .nil)
          · refine List.nodup_append.mpr ⟨nd, List.nodup_cons.mpr ⟨by simp, List.nodup_nil⟩, fun x hx y2 hy e => ?_⟩
            obtain rfl := List.mem_singleton.mp hy
            subst e
            exact hin hx
          · rcases List.mem_append.mp hs with hs | hs
            · exact hws s hs
            · obtain rfl := List.mem_singleton.mp hs
              exact ⟨wy, md⟩
      · rintro σ G ⟨x7, x8, vw, ws, rfl, r, hG, hW, nd, hws, hwl⟩
        exact ⟨x7, x8, vw, ws, _, rfl, r, by omega, hG, hW, nd, hws, by omega⟩
    rintro σ G1 ⟨x7, x8, vw, ws, k1, rfl, r1, hk1, hG1, hW1, nd, hws, hwl⟩
    have hvl := sts_len hW1
    -- as steps of the part
    refine ⟨fun σ G => ∃ (x8 : Option V) (M : Addr) (vm : List V), σ = [some (.ref a), some (.ref x), some (.int n), some (.ref l), some (.ref li), some (.ref lo), some (.ref L), x7, x8, some (.ref M), none, none, none, none, none, none, none, none, none] ∧ Ex G1 G ∧ G M = some (.lst vm) ∧ DpAll K G vm ((ws.map (clW is os)).map stD), ?_, ?_⟩
    · refine ⟨_, rfl, L, rfl, ⟨_, SqL.of hG1⟩, fun D hD0 => ?_⟩
      refine lc_list (xs := vw) (fun i G => Ex G1 G ∧ ∃ vm : List V, G D = some (.lst vm) ∧ DpAll K (tps G) vm (((ws.take i).map (clW is os)).map stD)) ⟨Ex.new hD0, [], upd_same, .nil⟩ (fun i G _ q => SqL.of (q.1 _ _ hG1)) ?_ ?_
      · rintro i v G hv ⟨y1, vm, y2, y3⟩
        obtain ⟨s, t, hs, rfl, ht⟩ := sts_get hW1 hv
        obtain ⟨_, u, e, q1, q2⟩ := stD_inv ht
        cases e
        have p1 := ex_t ((tps_mono y1).trans tps_le) q1
        have wy := (hws s (mem_of_get hs)).1
        have hml := sts_len y3
        rw [List.length_map, List.length_take] at hml
        refine ⟨rfl, _, rfl, _, rfl, t, _, 0, .int s.one, rfl, rfl, p1, rfl, lo, _, s.one, _, rfl, rfl, SqL.of (y1 _ _ (Go r1)), at_get wy.o0 wy.o1, _, rfl, _, rfl, t, _, 1, .int s.other, rfl, rfl, p1, rfl, li, _, s.other, _, rfl, rfl, SqL.of (y1 _ _ (Gi r1)), at_get wy.t0 wy.t1, by show 2 ≤ sizeLine; decide, fun T1 hT1 => ?_⟩
        have z1 := Ex.new (o := .tup [V.int (os.getD s.one.toNat 0), V.int (is.getD s.other.toNat 0)]) hT1
        have f1 : upd G T1 (.tup [V.int (os.getD s.one.toNat 0), V.int (is.getD s.other.toNat 0)]) T1 = some (.tup [V.int (os.getD s.one.toNat 0), V.int (is.getD s.other.toNat 0)]) := upd_same
        generalize upd G T1 (.tup [V.int (os.getD s.one.toNat 0), V.int (is.getD s.other.toNat 0)]) = A1 at z1 f1 ⊢
        refine ⟨_, rfl, _, rfl, t, _, rfl, ex_t z1 p1, (fun z => absurd (show (2 : Nat) = 0 from z.1) (by decide)), fun T2 hT2 => ?_⟩
        have hc : cutV [V.int s.one, V.int s.other, V.ref u, V.int s.ticks, V.int s.change] (some 2) none = [V.ref u, V.int s.ticks, V.int s.change] := rfl
        rw [hc]
        have z2 := Ex.new (o := .tup [V.ref u, V.int s.ticks, V.int s.change]) hT2
        have f2 : upd A1 T2 (.tup [V.ref u, V.int s.ticks, V.int s.change]) T2 = some (.tup [V.ref u, V.int s.ticks, V.int s.change]) := upd_same
        generalize upd A1 T2 (.tup [V.ref u, V.int s.ticks, V.int s.change]) = A2 at z2 f2 ⊢
        refine ⟨T1, T2, _, _, rfl, rfl, SqT.of (z2 _ _ f1), SqT.of f2, by simp, by show 5 ≤ sizeLine; decide, (fun z => nomatch z), fun _ T3 hT3 => ?_⟩
        have z3 := Ex.new (o := .tup [V.int (os.getD s.one.toNat 0), V.int (is.getD s.other.toNat 0), V.ref u, V.int s.ticks, V.int s.change]) hT3
        have z13 := z1.trans (z2.trans z3)
        have hD6 := z13 _ _ y2
        have tp := (tps_mono z13).trans (tps_upd (o := .lst (vm ++ [V.ref T3])) (NoTup.lst hD6))
        refine ⟨vm, hD6, sz_m (by omega), (y1.trans z13).mut hD0, _, upd_same, ?_⟩
        rw [List.take_add_one, hs, List.map_append, List.map_append]
        refine dpa_app (dpa_ex tp _ _ y3) (.cons (dp_ex (tps_upd (NoTup.lst hD6)) _ _ ?_) .nil)
        exact stD_mk (s := clW is os s) (SqT.of (tps_of upd_same)) (ex_t (tps_mono z13) (ex_t (tps_mono y1) q2))
      · rintro G ⟨y1, vm, y2, y3⟩
        rw [hvl, List.take_length] at y3
        exact ⟨_, D, vm, rfl, y1, y2, dpa_ex tps_le _ _ y3⟩
    rintro σ G2 ⟨x8', M, vm, rfl, e2, hM, hMD⟩
    have r2 := r1.ex e2
    have hG2 := e2 _ _ hG1
    have hW2 := dpa_ex (tps_mono e2) _ _ hW1
    have hml := sts_len hMD
    rw [List.length_map] at hml
    -- what is due, and what is handed
    refine ⟨fun σ G => ∃ (D q v : Addr) (us : List St5) (ys : List V) (d' : PyData) (k : Nat), σ = [some (.ref a), some (.ref x), some (.int n), some (.ref l), some (.ref li), some (.ref lo), some (.ref L), x7, x8', some (.ref M), some (.ref D), some (.ref v), none, none, none, none, none, none, none] ∧ RS T a b H k G ∧ k ≤ m + 200 ∧ G L = some (.lst vw) ∧ DpAll K (tps G) vw (ws.map stD) ∧
      G D = some (.lst [.int n, .ref q]) ∧ G q = some (.lst ys) ∧ DpAll K G ys (us.map stD) ∧ SrS us ∧ us.Nodup ∧ (∀ s, s ∈ us ↔ s ∈ ss ++ ws.map (clW is os)) ∧ us.length ≤ 20 ∧ Dp K G (.ref v) d' ∧ Lz (.list (ws.map stD)) d', ?_, ?_⟩
    · refine ⟨_, rfl, _, rfl, _, rfl, l, M, _, _, rfl, rfl, Gl r2, hM, sz_le (by omega), fun p hp => ?_⟩
      have y1 := Ex.new (o := .lst (vs0 ++ vm)) hp
      have j1 : upd G2 p (.lst (vs0 ++ vm)) p = some (.lst (vs0 ++ vm)) := upd_same
      generalize upd G2 p (.lst (vs0 ++ vm)) = A1 at y1 j1 ⊢
      refine ⟨p, _, ss ++ ws.map (clW is os), rfl, SqL.of j1, ?_, by rw [List.length_append, List.length_map]; omega, fun S LL hS0 hLS hLn hLm => ?_⟩
      · rw [List.map_append]
        exact dpa_app (dpa_ex y1 _ _ (GD r2)) (dpa_ex y1 _ _ hMD)
      have y2 := Ex.new (o := SetSO w S LL) hS0
      have j2 : upd A1 S (SetSO w S LL) S = some (SetSO w S LL) := upd_same
      generalize upd A1 S (SetSO w S LL) = A2 at y2 j2 ⊢
      refine ⟨S, LL, rfl, j2, fun q hq => dp_ex y2 _ _ (hLS q hq), fun ys us q hys pm srs hq => ?_⟩
      have y3 := Ex.new (o := .lst ys) hq
      have j3 : upd A2 q (.lst ys) q = some (.lst ys) := upd_same
      generalize upd A2 q (.lst ys) = A3 at y3 j3 ⊢
      refine ⟨by show 2 ≤ sizeLine; decide, fun D hD0 => ?_⟩
      have y4 := Ex.new (o := .lst [V.int n, V.ref q]) hD0
      have j4 : upd A3 D (.lst [V.int n, V.ref q]) D = some (.lst [V.int n, V.ref q]) := upd_same
      generalize upd A3 D (.lst [V.int n, V.ref q]) = A4 at y4 j4 ⊢
      have y14 := y1.trans (y2.trans (y3.trans y4))
      have r4 := r2.ex y14
      have umem : ∀ s, s ∈ us ↔ s ∈ ss ++ ws.map (clW is os) := fun s => pm.mem_iff.trans (hLm s)
      have und : us.Nodup := pm.symm.nodup hLn
      have ulen : us.length ≤ 20 := by
        have := nd_len us (ss ++ ws.map (clW is os)) und fun s hs => (umem s).mp hs
        rw [List.length_append, List.length_map] at this
        omega
      have hc : cnt (.list (ws.map stD)) = 8 * ws.length + 1 := by
        show cntA (ws.map stD) + 1 = _
        rw [cnt_sts]
      refine ⟨_, rfl, _, rfl, a, b, k1, _, rfl, r4.s, .inr ⟨.list (ws.map stD), .lst (SqL.of (by rw [hid_ne La Lb]; exact y14 _ _ hG2)) (dpa_ex (Ex.trans (tps_mono y14) (tps_in r4.s)) _ _ hW2), by have := stDs_depth ws; show PyData.depthAll (ws.map stD) + 1 < 6; omega, by omega, by omega, fun A5 v' d' e5 s5 hd hz => ?_⟩⟩
      obtain ⟨v, _, _, rfl, _⟩ := lz_sqa hd hz
      have r5 := r4.go e5 s5
      have emb : Ex (nt (hid a b A4)) A5 := Ex.trans (Ex.trans nt_le e5) hid_ex
      have put : ∀ {p : Addr} {xs : List V}, G1 p = none → A4 p = some (.lst xs) → A5 p = some (.lst xs) := fun h0 h => e5.at h (r1.s.nea h0) (r1.s.neb h0)
      refine ⟨_, _, rfl, D, q, v, us, ys, d', _, rfl, r5, by omega, e5.at (y14 _ _ hG2) La Lb, dpa_ex (Ex.trans (tps_mono y14) (tps_hid e5 r4.s)) _ _ hW2, put (fresh_back (e2.trans (y1.trans (y2.trans y3))) hD0) j4, put (fresh_back (e2.trans (y1.trans y2)) hq) (y4 _ _ j3), ?_, srs, und, umem, ulen, dp_ex nw_le _ _ hd, hz⟩
      exact dpa_ex hid_ex _ _ (dpa_ex e5 _ _ (sts_hid r4.s (dpa_ex (y3.trans y4) _ _ hys)))
    rintro σ G3 ⟨D, q, v, us, ys, d', k3, rfl, r3, hk3, hG3, hW3, hDD, hq, hqD, srs, und, umem, ulen, hdd, hz⟩
    have wok : ∀ s ∈ ws, WyOk is.length os.length s := fun s hs => (hws s hs).1
    have cmem : ∀ {tt : List St5}, (∀ t, t ∈ tt ↔ (t ∈ ts ∨ ∃ s ∈ ws, t = clW is os s)) → ∀ t, t ∈ tt ↔ t ∈ us := fun h t => by
      rw [h t, umem t, List.mem_append, List.mem_map, htm t]
      exact ⟨fun q => q.imp id fun ⟨s, h1, h2⟩ => ⟨s, h1, h2.symm⟩, fun q => q.imp id fun ⟨s, h1, h2⟩ => ⟨s, h1, h2.symm⟩⟩
    have ceq : ∀ {tt : List St5}, SrS tt → tt.Nodup → (∀ t, t ∈ tt ↔ (t ∈ ts ∨ ∃ s ∈ ws, t = clW is os s)) → tt = us := fun h1 h2 h3 => srs_uniq h1 srs ((List.perm_ext_iff_of_nodup h2 und).mpr (cmem h3))
    have shw := ways_shown (d := d') (by omega) (by omega) hws (by omega) hz
    obtain ⟨v2, xs2, ds2, ev2, sq2, dp2, lz2⟩ := lz_sqa hdd hz
    cases ev2
    have wy2 := wyall_lz dp2 lz2 wok
    have wy1 := wyall_st (dpa_ex tps_le _ _ hW3) wok
    refine ⟨_, rfl, v, d', rfl, hdd, shw.1, shw.2.1, shw.2.2.1, shw.2.2.2, ?_⟩
    -- closed, twice
    refine ⟨_, rfl, _, rfl, x, wb, lw, pi, po, n, ts, is, os, _, rfl, GPt r3, hWb.n1, htok, htn, htz, hdr, .inr ⟨v, xs2, ws, rfl, sq2, nd, by omega, .inl ⟨wy2, by omega, fun G4 w1 l1 t1 e4 web1 _ _ sr1 nd1 mem1 => ?_⟩⟩⟩
    refine ⟨_, rfl, L, vw, rfl, .inl ⟨SqL.of (e4 _ _ hG3), fun q4 hq4 => ?_⟩⟩
    have y5 := Ex.new (o := .tup vw) hq4
    have j5 : upd G4 q4 (.tup vw) q4 = some (.tup vw) := upd_same
    generalize upd G4 q4 (.tup vw) = G5 at y5 j5 ⊢
    refine ⟨_, rfl, x, wb, lw, pi, po, n, ts, is, os, _, rfl, GPt (r3.ex (e4.trans y5)), hWb.n1, htok, htn, htz, hdr, .inr ⟨q4, vw, ws, rfl, .inr (SqT.of j5), nd, by omega, .inl ⟨wy1.ex (e4.trans y5), by omega, fun G6 w2 l2 t2 e6 web2 _ _ sr2 nd2 mem2 => ?_⟩⟩⟩
    refine ⟨by show 2 ≤ sizeLine; decide, fun q7 hq7 => ⟨q7, _, rfl, SqT.of upd_same, rfl, _, _, rfl, _, _, rfl, rfl, ?_⟩⟩
    have y7 := Ex.new (o := .tup [V.ref w1, V.ref w2]) hq7
    generalize upd G6 q7 (.tup [V.ref w1, V.ref w2]) = G7 at y7 ⊢
    have e37 : Ex G3 G7 := e4.trans (y5.trans (e6.trans y7))
    have web1' := web1.ex (y5.trans (e6.trans y7))
    have web2' := web2.ex y7
    obtain rfl := ceq sr1 nd1 mem1
    obtain rfl := ceq sr2 nd2 mem2
    obtain ⟨dx1, kd1, ys1, hw1, hl1, hd1⟩ := id web1'
    obtain ⟨dx2, kd2, ys2, hw2, hl2, hd2⟩ := id web2'
    refine ⟨_, rfl, .ref w1, _, .ref CW, .ref CW, true, rfl, .own CW, .inl (.base (.ins hw1 ICW.cl ICW.ha ICW.hn ICW.ht ICW.hm)), hWW, true, rfl, ?_⟩
    refine iteF ?_
    refine ⟨_, rfl, _, rfl, w1, dx1, _, .ref CW, rfl, hw1, .ins hw2, by simp [PySem.W.notFirst], w1, .ref w2, n, t2, rfl, web1'.at, .inr ⟨w2, n, t2, rfl, web2'.at, fun G8 e8 => ⟨_, rfl, ?_⟩⟩⟩
    have ex8 : Ex G7 G8 := e8
    rw [decide_eq_true (rfl : n = n), decide_eq_true (rfl : t2 = t2)]
    refine ⟨_, rfl, ?_⟩
    refine iteF ?_
    refine ⟨_, rfl, v, d', rfl, dp_ex (e37.trans ex8) _ _ hdd, shw.1, shw.2.1, shw.2.2.1, shw.2.2.2, ?_⟩
    refine ⟨_, rfl, rfl, ?_⟩
    rw [decide_eq_true rfl]
    refine ⟨_, rfl, iteF ?_⟩
    have e38 : Ex G3 G8 := e37.trans ex8
    -- the same places and steps
    have same : ∀ {G : Hp} {A q5 : Addr} {zs : List V}, Ex G3 G → G A = some (.lst [.int n, .ref q5]) → G q5 = some (.lst zs) → DpAll K G zs (t2.map stD) → Sm K C (PrtR K CW C) G 7 (.ref A) (.ref D) := fun {G A q5 zs} e h1 h2 h3 => by
      have ok1 : dOk (.list (t2.map stD)) = true := by
        show (decide ((t2.map stD).length ≤ 1000000) && dOkA (t2.map stD)) = true
        rw [dok_sts, decide_eq_true (by rw [List.length_map]; omega)]
        rfl
      have dep : PyData.depth (.list (t2.map stD)) < 6 := by
        have := stDs_depth t2
        show PyData.depthAll (t2.map stD) + 1 < 6
        omega
      exact .inr (.inl ⟨A, D, _, _, rfl, rfl, SqL.of h1, SqL.of (e _ _ hDD), .cons (.inl ⟨rfl, rfl⟩) (.cons (sm_two (.list (t2.map stD)) _ _ 6 (.lst (SqL.of h2) h3) (.lst (SqL.of (e _ _ hq)) (dpa_ex e _ _ hqD)) ok1 dep) .nil), by show 2 ≤ 1000000; decide⟩)
    have web1' := web1'.ex ex8
    have web2' := web2'.ex ex8
    have hw1 := ex8 _ _ hw1
    have hw2 := ex8 _ _ hw2
    refine ⟨fun σ G => ∃ (x10 x11 x12 x13 x14 : Option V), σ = [some (.ref a), some (.ref x), some (.int n), some (.ref l), some (.ref li), some (.ref lo), some (.ref L), x7, x8', some (.ref M), x10, x11, x12, x13, x14, none, none, none, none] ∧ Ex G3 G, ?_, ?_⟩
    · refine ⟨_, rfl, w1, dx1, _, rfl, hw1, wf_no _ _ _ (by decide +kernel) (by decide +kernel) (by decide +kernel), w1, n, t2, rfl, web1'.at, ?_⟩
      refine ⟨_, rfl, w1, dx1, _, rfl, hw1, wf_no _ _ _ (by decide +kernel) (by decide +kernel) (by decide +kernel), w1, n, t2, rfl, web1'.at, fun q5 zs hq5 hzs => ?_⟩
      have y9 := Ex.new (o := .lst zs) hq5
      have j9 : upd G8 q5 (.lst zs) q5 = some (.lst zs) := upd_same
      generalize upd G8 q5 (.lst zs) = G9 at y9 j9 ⊢
      refine ⟨by show 2 ≤ sizeLine; decide, fun A hA => ?_⟩
      have ya := Ex.new (o := .lst [V.int n, V.ref q5]) hA
      have ja : upd G9 A (.lst [V.int n, V.ref q5]) A = some (.lst [V.int n, V.ref q5]) := upd_same
      generalize upd G9 A (.lst [V.int n, V.ref q5]) = Ga at ya ja ⊢
      refine ⟨_, rfl, _, _, rfl, same (e38.trans (y9.trans ya)) ja (ya _ _ j9) (dpa_ex (y9.trans ya) _ _ hzs), fun Gb eb => ⟨_, rfl, iteF ?_⟩⟩
      have e8b : Ex G8 Gb := y9.trans (ya.trans eb)
      refine ⟨_, rfl, w2, dx2, _, rfl, e8b _ _ hw2, wf_no _ _ _ (by decide +kernel) (by decide +kernel) (by decide +kernel), w2, n, t2, rfl, (web2'.ex e8b).at, ?_⟩
      refine ⟨_, rfl, w2, dx2, _, rfl, e8b _ _ hw2, wf_no _ _ _ (by decide +kernel) (by decide +kernel) (by decide +kernel), w2, n, t2, rfl, (web2'.ex e8b).at, fun q6 zs hq6 hzs => ?_⟩
      have y9 := Ex.new (o := .lst zs) hq6
      have j9 : upd Gb q6 (.lst zs) q6 = some (.lst zs) := upd_same
      generalize upd Gb q6 (.lst zs) = G9 at y9 j9 ⊢
      refine ⟨by show 2 ≤ sizeLine; decide, fun A hA => ?_⟩
      have ya := Ex.new (o := .lst [V.int n, V.ref q6]) hA
      have ja : upd G9 A (.lst [V.int n, V.ref q6]) A = some (.lst [V.int n, V.ref q6]) := upd_same
      generalize upd G9 A (.lst [V.int n, V.ref q6]) = Ga at ya ja ⊢
      have e8a := e8b.trans (y9.trans ya)
      refine ⟨_, rfl, _, _, rfl, same (e38.trans e8a) ja (ya _ _ j9) (dpa_ex (y9.trans ya) _ _ hzs), fun Gc ec => ⟨_, rfl, iteF ?_⟩⟩
      exact ⟨_, _, _, _, _, rfl, e38.trans (e8a.trans ec)⟩
    rintro σ G9 ⟨x10, x11, x12, x13, x14, rfl, e39⟩
    have r9 := r3.ex e39
    -- what is no way
    refine ⟨by show 2 ≤ sizeLine; decide, fun u hu => ⟨by show 5 ≤ sizeLine; decide, fun o1 ho1 => ?_⟩⟩
    have y1 := Ex.new (o := .tup [V.int 1, V.int 1]) hu
    have j1 : upd G9 u (.tup [V.int 1, V.int 1]) u = some (.tup [V.int 1, V.int 1]) := upd_same
    generalize upd G9 u (.tup [V.int 1, V.int 1]) = Ga at y1 j1 ho1 ⊢
    have y2 := Ex.new (o := .tup [V.int 0, V.int 0, V.ref u, V.int 1, V.int 0]) ho1
    have j2 : upd Ga o1 (.tup [V.int 0, V.int 0, V.ref u, V.int 1, V.int 0]) o1 = some (.tup [V.int 0, V.int 0, V.ref u, V.int 1, V.int 0]) := upd_same
    generalize upd Ga o1 (.tup [V.int 0, V.int 0, V.ref u, V.int 1, V.int 0]) = Gb at y2 j2 ⊢
    have j1 := y2 _ _ j1
    have rb := r9.ex (y1.trans y2)
    have put : ∀ {G : Hp} {p : Addr} {o : HO}, G9 p = none → G p = some o → (∀ ps, o ≠ .tbl ps) → nt (hid a b G) p = some o := fun h0 h nn => nt_of (by rw [hid_ne (r9.s.nea h0) (r9.s.neb h0)]; exact h) nn
    have pu : nt (hid a b Gb) u = some (.tup [V.int 1, V.int 1]) := put hu j1 fun ps z => nomatch z
    have po1 : nt (hid a b Gb) o1 = some (.tup [V.int 0, V.int 0, V.ref u, V.int 1, V.int 0]) := put (fresh_back y1 ho1) j2 fun ps z => nomatch z
    refine ⟨fun σ G => ∃ (O : Addr) (vs : List V), σ = [some (.ref a), some (.ref x), some (.int n), some (.ref l), some (.ref li), some (.ref lo), some (.ref L), x7, x8', some (.ref M), x10, x11, x12, x13, x14, some (.ref o1), some (.ref O), none, none] ∧ Ex (nt (hid a b Gb)) (nt (h3 a b O G)) ∧ RS T a b H k3 G ∧ Gb O = none ∧ G O = some (.lst vs) ∧ vs.length = 11 ∧ ∀ v ∈ vs, OddW K is.length os.length (nt (h3 a b O G)) v, ?_, ?_⟩
    · refine ⟨Nat.zero_le _, fun t0 ht0 => fun d0 hd0 => ⟨_, rfl, _, rfl, o1, [V.int 0, V.int 0, V.ref u, V.int 1, V.int 0], rfl, ?_⟩⟩
      have z1 := Ex.new (o := .tup []) ht0
      have f1 : upd Gb t0 (.tup []) t0 = some (.tup []) := upd_same
      generalize upd Gb t0 (.tup []) = A1 at z1 f1 hd0 ⊢
      have z2 := Ex.new (o := .dK []) hd0
      have f2 : upd A1 d0 (.dK []) d0 = some (.dK []) := upd_same
      generalize upd A1 d0 (.dK []) = A2 at z2 f2 ⊢
      have z12 := z1.trans z2
      refine ⟨SqT.of (z12 _ _ j2), (fun z => absurd (show (4 : Nat) = 5 from z.2) (by decide)), fun p3 hp3 => ?_⟩
      have hc : cutV [V.int 0, V.int 0, V.ref u, V.int 1, V.int 0] none (some 4) = [V.int 0, V.int 0, V.ref u, V.int 1] := rfl
      rw [hc]
      have z3 := Ex.new (o := .tup [V.int 0, V.int 0, V.ref u, V.int 1]) hp3
      have f3 : upd A2 p3 (.tup [V.int 0, V.int 0, V.ref u, V.int 1]) p3 = some (.tup [V.int 0, V.int 0, V.ref u, V.int 1]) := upd_same
      generalize upd A2 p3 (.tup [V.int 0, V.int 0, V.ref u, V.int 1]) = A3 at z3 f3 ⊢
      have z13 := z12.trans z3
      refine ⟨_, rfl, by show 1 ≤ sizeLine; decide, fun q4 hq4 => ?_⟩
      have z4 := Ex.new (o := .tup [V.int 0]) hq4
      have f4 : upd A3 q4 (.tup [V.int 0]) q4 = some (.tup [V.int 0]) := upd_same
      generalize upd A3 q4 (.tup [V.int 0]) = A4 at z4 f4 ⊢
      have z14 := z13.trans z4
      refine ⟨o1, q4, _, _, rfl, rfl, SqT.of (z14 _ _ j2), SqT.of f4, by simp, by show 6 ≤ sizeLine; decide, (fun z => nomatch z), fun _ p5 hp5 => ?_⟩
      have z5 := Ex.new (o := .tup [V.int 0, V.int 0, V.ref u, V.int 1, V.int 0, V.int 0]) hp5
      have f5 : upd A4 p5 (.tup [V.int 0, V.int 0, V.ref u, V.int 1, V.int 0, V.int 0]) p5 = some (.tup [V.int 0, V.int 0, V.ref u, V.int 1, V.int 0, V.int 0]) := upd_same
      simp only [List.cons_append, List.nil_append]
      generalize upd A4 p5 (.tup [V.int 0, V.int 0, V.ref u, V.int 1, V.int 0, V.int 0]) = A5 at z5 f5 ⊢
      have z15 := z14.trans z5
      refine ⟨_, rfl, lo, _, rfl, .inl (SqL.of (Go (rb.ex z15))), by show 1 ≤ sizeLine; decide, fun q6 hq6 => ?_⟩
      rw [hmo]
      have z6 := Ex.new (o := .tup [V.int (os.length : Int)]) hq6
      have f6 : upd A5 q6 (.tup [V.int (os.length : Int)]) q6 = some (.tup [V.int (os.length : Int)]) := upd_same
      generalize upd A5 q6 (.tup [V.int (os.length : Int)]) = A6 at z6 f6 ⊢
      have z16 := z15.trans z6
      have hc1 : cutV [V.int 0, V.int 0, V.ref u, V.int 1, V.int 0] (some 1) none = [V.int 0, V.ref u, V.int 1, V.int 0] := rfl
      refine ⟨_, rfl, _, rfl, o1, [V.int 0, V.int 0, V.ref u, V.int 1, V.int 0], rfl, SqT.of (z16 _ _ j2), (fun z => absurd (show (1 : Nat) = 0 from z.1) (by decide)), fun q7 hq7 => ?_⟩
      rw [hc1]
      have z7 := Ex.new (o := .tup [V.int 0, V.ref u, V.int 1, V.int 0]) hq7
      have f7 : upd A6 q7 (.tup [V.int 0, V.ref u, V.int 1, V.int 0]) q7 = some (.tup [V.int 0, V.ref u, V.int 1, V.int 0]) := upd_same
      generalize upd A6 q7 (.tup [V.int 0, V.ref u, V.int 1, V.int 0]) = A7 at z7 f7 ⊢
      refine ⟨q6, q7, _, _, rfl, rfl, SqT.of (z7 _ _ f6), SqT.of f7, by simp, by show 5 ≤ sizeLine; decide, (fun z => nomatch z), fun _ p8 hp8 => ?_⟩
      have z8 := Ex.new (o := .tup [V.int (os.length : Int), V.int 0, V.ref u, V.int 1, V.int 0]) hp8
      have f8 : upd A7 p8 (.tup [V.int (os.length : Int), V.int 0, V.ref u, V.int 1, V.int 0]) p8 = some (.tup [V.int (os.length : Int), V.int 0, V.ref u, V.int 1, V.int 0]) := upd_same
      simp only [List.cons_append, List.nil_append]
      generalize upd A7 p8 (.tup [V.int (os.length : Int), V.int 0, V.ref u, V.int 1, V.int 0]) = A8 at z8 f8 ⊢
      have z18 := z16.trans (z7.trans z8)
      refine ⟨_, rfl, by show 1 ≤ sizeLine; decide, fun q9 hq9 => ?_⟩
      have z9 := Ex.new (o := .tup [V.int (-1)]) hq9
      have f9 : upd A8 q9 (.tup [V.int (-1)]) q9 = some (.tup [V.int (-1)]) := upd_same
      generalize upd A8 q9 (.tup [V.int (-1)]) = A9 at z9 f9 ⊢
      have z19 := z18.trans z9
      refine ⟨_, rfl, _, rfl, o1, [V.int 0, V.int 0, V.ref u, V.int 1, V.int 0], rfl, SqT.of (z19 _ _ j2), (fun z => absurd (show (1 : Nat) = 0 from z.1) (by decide)), fun qa hqa => ?_⟩
      rw [hc1]
      have za := Ex.new (o := .tup [V.int 0, V.ref u, V.int 1, V.int 0]) hqa
      have fa : upd A9 qa (.tup [V.int 0, V.ref u, V.int 1, V.int 0]) qa = some (.tup [V.int 0, V.ref u, V.int 1, V.int 0]) := upd_same
      generalize upd A9 qa (.tup [V.int 0, V.ref u, V.int 1, V.int 0]) = Aa at za fa ⊢
      refine ⟨q9, qa, _, _, rfl, rfl, SqT.of (za _ _ f9), SqT.of fa, by simp, by show 5 ≤ sizeLine; decide, (fun z => nomatch z), fun _ pb hpb => ?_⟩
      have zb := Ex.new (o := .tup [V.int (-1), V.int 0, V.ref u, V.int 1, V.int 0]) hpb
      have fb : upd Aa pb (.tup [V.int (-1), V.int 0, V.ref u, V.int 1, V.int 0]) pb = some (.tup [V.int (-1), V.int 0, V.ref u, V.int 1, V.int 0]) := upd_same
      simp only [List.cons_append, List.nil_append]
      generalize upd Aa pb (.tup [V.int (-1), V.int 0, V.ref u, V.int 1, V.int 0]) = Ab at zb fb ⊢
      have z1b := z19.trans (za.trans zb)
      refine ⟨by show 11 ≤ sizeLine; decide, fun O hO => ?_⟩
      have e9 : Ex G9 Ab := y1.trans (y2.trans z1b)
      have O0 := fresh_back z1b hO
      have pA : ∀ {G : Hp} {p : Addr} {o : HO}, Ex Gb G → G p = none → Ab p = some o → (∀ ps, o ≠ .tbl ps) → nt (h3 a b O (upd Ab O (.lst [V.non, V.int 5, V.str "abcde", V.ref t0, V.ref d0, V.ref p3, V.ref p5, V.bl true, V.ref fD, V.ref p8, V.ref pb]))) p = some o := fun e h0 h nn => off_O hO _ _ (put (fresh_back (y1.trans (y2.trans e)) h0) h nn)
      have eO : Ex (nt (hid a b Gb)) (nt (h3 a b O (upd Ab O (.lst [V.non, V.int 5, V.str "abcde", V.ref t0, V.ref d0, V.ref p3, V.ref p5, V.bl true, V.ref fD, V.ref p8, V.ref pb])))) := (nt_mono (hid_mono z1b)).trans (off_O hO)
      have du : Dp K (nt (h3 a b O (upd Ab O (.lst [V.non, V.int 5, V.str "abcde", V.ref t0, V.ref d0, V.ref p3, V.ref p5, V.bl true, V.ref fD, V.ref p8, V.ref pb])))) (.ref u) (.tuple [.int 1, .int 1]) := .tup (SqT.of (eO _ _ pu)) (.cons (.int 1) (.cons (.int 1) .nil))
      have iz : (1 : Nat) ≤ is.length := i0
      generalize hLs : ([V.non, V.int 5, V.str "abcde", V.ref t0, V.ref d0, V.ref p3, V.ref p5, V.bl true, V.ref fD, V.ref p8, V.ref pb] : List V) = Ls at pA eO du ⊢
      have rO : RS T a b H k3 (upd Ab O (.lst Ls)) := rb.ex (z1b.trans (Ex.new hO))
      refine ⟨O, Ls, rfl, eO, rO, O0, upd_same, by rw [← hLs]; rfl, fun v hv => ?_⟩
      rw [← hLs] at hv
      simp only [List.mem_cons, List.not_mem_nil, or_false] at hv
      rcases hv with rfl | rfl | rfl | rfl | rfl | rfl | rfl | rfl | rfl | rfl | rfl
      · exact oddw_lf .non rfl
      · exact oddw_lf (.int 5) rfl
      · exact oddw_lf (.str _) rfl
      · exact oddw_tup (pA (Ex.refl _) ht0 ((z2.trans (z3.trans (z4.trans (z5.trans (z6.trans (z7.trans (z8.trans (z9.trans (za.trans zb))))))))) _ _ f1) fun ps z => nomatch z) .nil rfl
      · exact .inl (.inl (lk_dict (pA z1 hd0 ((z3.trans (z4.trans (z5.trans (z6.trans (z7.trans (z8.trans (z9.trans (za.trans zb)))))))) _ _ f2) fun ps z => nomatch z)))
      · exact oddw_tup (pA z12 hp3 ((z4.trans (z5.trans (z6.trans (z7.trans (z8.trans (z9.trans (za.trans zb))))))) _ _ f3) fun ps z => nomatch z) (.cons (.int 0) (.cons (.int 0) (.cons du (.cons (.int 1) .nil)))) rfl
      · exact oddw_tup (pA z14 hp5 ((z6.trans (z7.trans (z8.trans (z9.trans (za.trans zb))))) _ _ f5) fun ps z => nomatch z) (.cons (.int 0) (.cons (.int 0) (.cons du (.cons (.int 1) (.cons (.int 0) (.cons (.int 0) .nil)))))) rfl
      · exact oddw_lf (.bl true) rfl
      · exact .inl (.inl (lk_fnv vD))
      · exact oddw_tup (pA (z16.trans z7) hp8 ((z9.trans (za.trans zb)) _ _ f8) fun ps z => nomatch z) (.cons (.int _) (.cons (.int 0) (.cons du (.cons (.int 1) (.cons (.int 0) .nil))))) (rdWay_off (s := ⟨os.length, 0, 1, 1, 1, 0⟩) rfl (.inr (.inl (Int.le_refl _))))
      · exact oddw_tup (pA (z19.trans za) hpb fb fun ps z => nomatch z) (.cons (.int _) (.cons (.int 0) (.cons du (.cons (.int 1) (.cons (.int 0) .nil))))) (rdWay_off (s := ⟨-1, 0, 1, 1, 1, 0⟩) rfl (.inl (by decide)))
    rintro σ Gd ⟨O, vs, rfl, eO, rO, O0, hO, hvs, hov⟩
    have Oa := rb.s.nea O0
    have Ob := rb.s.neb O0
    have frO : ∀ z o, nt (hid a b H) z = some o → z ≠ O := fun z o hz e => by
      have := rb.at _ _ hz
      rw [e, O0] at this
      cases this
    refine ⟨fun σ G => ∃ (vs : List V), σ = [some (.ref a), some (.ref x), some (.int n), some (.ref l), some (.ref li), some (.ref lo), some (.ref L), x7, x8', some (.ref M), x10, x11, x12, x13, x14, some (.ref o1), some (.ref O), none, none] ∧ Ex (nt (h3 a b O Gd)) (nt (h3 a b O G)) ∧ RS T a b H k3 G ∧ G O = some (.lst vs) ∧ vs.length = 15 ∧ ∀ v ∈ vs, OddW K is.length os.length (nt (h3 a b O G)) v, ?_, ?_⟩
    · refine ⟨_, rfl, .inl ⟨rfl, _, SqL.of hO⟩, _, rfl, li, _, rfl, .inl (SqL.of (Gi rO)), by show 2 ≤ sizeLine; decide, fun c1 hc1 => ?_⟩
      rw [hmi]
      have z1 := Ex.new (o := .tup [V.int 1, V.int 1]) hc1
      have f1 : upd Gd c1 (.tup [V.int 1, V.int 1]) c1 = some (.tup [V.int 1, V.int 1]) := upd_same
      generalize upd Gd c1 (.tup [V.int 1, V.int 1]) = A1 at z1 f1 ⊢
      refine ⟨by show 5 ≤ sizeLine; decide, fun p1 hp1 => ?_⟩
      have z2 := Ex.new (o := .tup [V.int 0, V.int (is.length : Int), V.ref c1, V.int 1, V.int 0]) hp1
      have f2 : upd A1 p1 (.tup [V.int 0, V.int (is.length : Int), V.ref c1, V.int 1, V.int 0]) p1 = some (.tup [V.int 0, V.int (is.length : Int), V.ref c1, V.int 1, V.int 0]) := upd_same
      generalize upd A1 p1 (.tup [V.int 0, V.int (is.length : Int), V.ref c1, V.int 1, V.int 0]) = A2 at z2 f2 ⊢
      refine ⟨by show 5 ≤ sizeLine; decide, fun p2 hp2 => ?_⟩
      have z3 := Ex.new (o := .tup [V.int 0, V.int 0, V.int 5, V.int 1, V.int 0]) hp2
      have f3 : upd A2 p2 (.tup [V.int 0, V.int 0, V.int 5, V.int 1, V.int 0]) p2 = some (.tup [V.int 0, V.int 0, V.int 5, V.int 1, V.int 0]) := upd_same
      generalize upd A2 p2 (.tup [V.int 0, V.int 0, V.int 5, V.int 1, V.int 0]) = A3 at z3 f3 ⊢
      refine ⟨by show 1 ≤ sizeLine; decide, fun c3 hc3 => ?_⟩
      have z4 := Ex.new (o := .tup [V.int 1]) hc3
      have f4 : upd A3 c3 (.tup [V.int 1]) c3 = some (.tup [V.int 1]) := upd_same
      generalize upd A3 c3 (.tup [V.int 1]) = A4 at z4 f4 ⊢
      refine ⟨by show 5 ≤ sizeLine; decide, fun p3 hp3 => ?_⟩
      have z5 := Ex.new (o := .tup [V.int 0, V.int 0, V.ref c3, V.int 1, V.int 0]) hp3
      have f5 : upd A4 p3 (.tup [V.int 0, V.int 0, V.ref c3, V.int 1, V.int 0]) p3 = some (.tup [V.int 0, V.int 0, V.ref c3, V.int 1, V.int 0]) := upd_same
      generalize upd A4 p3 (.tup [V.int 0, V.int 0, V.ref c3, V.int 1, V.int 0]) = A5 at z5 f5 ⊢
      refine ⟨by show 2 ≤ sizeLine; decide, fun c4 hc4 => ?_⟩
      have z6 := Ex.new (o := .tup [V.bl true, V.int 1]) hc4
      have f6 : upd A5 c4 (.tup [V.bl true, V.int 1]) c4 = some (.tup [V.bl true, V.int 1]) := upd_same
      generalize upd A5 c4 (.tup [V.bl true, V.int 1]) = A6 at z6 f6 ⊢
      refine ⟨by show 5 ≤ sizeLine; decide, fun p4 hp4 => ?_⟩
      have z7 := Ex.new (o := .tup [V.int 0, V.int 0, V.ref c4, V.int 1, V.int 0]) hp4
      have f7 : upd A6 p4 (.tup [V.int 0, V.int 0, V.ref c4, V.int 1, V.int 0]) p4 = some (.tup [V.int 0, V.int 0, V.ref c4, V.int 1, V.int 0]) := upd_same
      generalize upd A6 p4 (.tup [V.int 0, V.int 0, V.ref c4, V.int 1, V.int 0]) = A7 at z7 f7 ⊢
      refine ⟨by show 4 ≤ sizeLine; decide, fun W hW => ?_⟩
      have zW := Ex.new (o := .lst [V.ref p1, V.ref p2, V.ref p3, V.ref p4]) hW
      have fW : upd A7 W (.lst [V.ref p1, V.ref p2, V.ref p3, V.ref p4]) W = some (.lst [V.ref p1, V.ref p2, V.ref p3, V.ref p4]) := upd_same
      generalize upd A7 W (.lst [V.ref p1, V.ref p2, V.ref p3, V.ref p4]) = AW at zW fW ⊢
      have zA : Ex Gd AW := Ex.trans (z1.trans (z2.trans (z3.trans (z4.trans (z5.trans (z6.trans (z7))))))) zW
      have hOW := zA _ _ hO
      have rW := rO.ex zA
      refine ⟨O, W, vs, _, rfl, rfl, hOW, fW, by rw [hvs]; show 11 + 4 ≤ sizeLine; decide, ?_⟩
      have up : ∀ {v : V}, OddW K is.length os.length (nt (h3 a b O AW)) v → OddW K is.length os.length (nt (h3 a b O (upd AW O (.lst (vs ++ [V.ref p1, V.ref p2, V.ref p3, V.ref p4]))))) v := fun h => by
        rw [h3_own]
        exact h
      have pA : ∀ {G : Hp} {p : Addr} {o : HO}, Ex Gd G → G p = none → AW p = some o → (∀ ps, o ≠ .tbl ps) → nt (h3 a b O AW) p = some o := fun e h0 h nn => nt_of (by rw [h3_ne (rO.s.nea (fresh_back e h0)) (rO.s.neb (fresh_back e h0)) (ne_of_none (e _ _ hO) h0).symm]; exact h) nn
      refine ⟨_, rfl, by rw [h3_own]; exact nt_mono (h3_mono zA), rW.mut hOW frO Oa Ob, upd_same, by rw [List.length_append, hvs]; rfl, fun v hv => up ?_⟩
      rcases List.mem_append.mp hv with hv | hv
      · exact (hov v hv).ex (nt_mono (h3_mono zA))
      simp only [List.mem_cons, List.not_mem_nil, or_false] at hv
      rcases hv with rfl | rfl | rfl | rfl
      · exact oddw_tup (pA (z1) hp1 ((z3.trans (z4.trans (z5.trans (z6.trans (z7.trans (zW)))))) _ _ f2) fun ps z => nomatch z) (.cons (.int 0) (.cons (.int _) (.cons (.tup (SqT.of (pA (Ex.refl _) hc1 ((z2.trans (z3.trans (z4.trans (z5.trans (z6.trans (z7.trans (zW))))))) _ _ f1) fun ps z => nomatch z)) (.cons (.int 1) (.cons (.int 1) .nil))) (.cons (.int 1) (.cons (.int 0) .nil))))) (rdWay_off (s := ⟨0, is.length, 1, 1, 1, 0⟩) rfl (.inr (.inr (.inl (Int.le_refl _)))))
      · exact oddw_tup (pA (z1.trans (z2)) hp2 ((z4.trans (z5.trans (z6.trans (z7.trans (zW))))) _ _ f3) fun ps z => nomatch z) (.cons (.int 0) (.cons (.int 0) (.cons (.int 5) (.cons (.int 1) (.cons (.int 0) .nil))))) rfl
      · exact oddw_tup (pA (z1.trans (z2.trans (z3.trans (z4)))) hp3 ((z6.trans (z7.trans (zW))) _ _ f5) fun ps z => nomatch z) (.cons (.int 0) (.cons (.int 0) (.cons (.tup (SqT.of (pA (z1.trans (z2.trans (z3))) hc3 ((z5.trans (z6.trans (z7.trans (zW)))) _ _ f4) fun ps z => nomatch z)) (.cons (.int 1) .nil)) (.cons (.int 1) (.cons (.int 0) .nil))))) rfl
      · exact oddw_tup (pA (z1.trans (z2.trans (z3.trans (z4.trans (z5.trans (z6)))))) hp4 ((zW) _ _ f7) fun ps z => nomatch z) (.cons (.int 0) (.cons (.int 0) (.cons (.tup (SqT.of (pA (z1.trans (z2.trans (z3.trans (z4.trans (z5))))) hc4 ((z7.trans (zW)) _ _ f6) fun ps z => nomatch z)) (.cons (.bl true) (.cons (.int 1) .nil))) (.cons (.int 1) (.cons (.int 0) .nil))))) rfl
    rintro σ Ge ⟨vs2, rfl, eO2, rO2, hO2, hvs2, hov2⟩
    clear hov hvs hO rO
    refine ⟨fun σ G => ∃ (vs : List V), σ = [some (.ref a), some (.ref x), some (.int n), some (.ref l), some (.ref li), some (.ref lo), some (.ref L), x7, x8', some (.ref M), x10, x11, x12, x13, x14, some (.ref o1), some (.ref O), none, none] ∧ Ex (nt (h3 a b O Ge)) (nt (h3 a b O G)) ∧ RS T a b H k3 G ∧ G O = some (.lst vs) ∧ vs.length = 19 ∧ ∀ v ∈ vs, OddW K is.length os.length (nt (h3 a b O G)) v, ?_, ?_⟩
    · refine ⟨_, rfl, .inl ⟨rfl, _, SqL.of hO2⟩, by show 2 ≤ sizeLine; decide, fun c1 hc1 => ?_⟩
      have z1 := Ex.new (o := .tup [V.int 1, V.int 1]) hc1
      have f1 : upd Ge c1 (.tup [V.int 1, V.int 1]) c1 = some (.tup [V.int 1, V.int 1]) := upd_same
      generalize upd Ge c1 (.tup [V.int 1, V.int 1]) = A1 at z1 f1 ⊢
      refine ⟨by show 5 ≤ sizeLine; decide, fun p1 hp1 => ?_⟩
      have z2 := Ex.new (o := .tup [V.int 0, V.int 0, V.ref c1, V.int 0, V.int 0]) hp1
      have f2 : upd A1 p1 (.tup [V.int 0, V.int 0, V.ref c1, V.int 0, V.int 0]) p1 = some (.tup [V.int 0, V.int 0, V.ref c1, V.int 0, V.int 0]) := upd_same
      generalize upd A1 p1 (.tup [V.int 0, V.int 0, V.ref c1, V.int 0, V.int 0]) = A2 at z2 f2 ⊢
      refine ⟨by show 2 ≤ sizeLine; decide, fun c2 hc2 => ?_⟩
      have z3 := Ex.new (o := .tup [V.int 1, V.int 1]) hc2
      have f3 : upd A2 c2 (.tup [V.int 1, V.int 1]) c2 = some (.tup [V.int 1, V.int 1]) := upd_same
      generalize upd A2 c2 (.tup [V.int 1, V.int 1]) = A3 at z3 f3 ⊢
      refine ⟨by show 5 ≤ sizeLine; decide, fun p2 hp2 => ?_⟩
      have z4 := Ex.new (o := .tup [V.int 0, V.int 0, V.ref c2, V.bl true, V.int 0]) hp2
      have f4 : upd A3 p2 (.tup [V.int 0, V.int 0, V.ref c2, V.bl true, V.int 0]) p2 = some (.tup [V.int 0, V.int 0, V.ref c2, V.bl true, V.int 0]) := upd_same
      generalize upd A3 p2 (.tup [V.int 0, V.int 0, V.ref c2, V.bl true, V.int 0]) = A4 at z4 f4 ⊢
      refine ⟨by show 2 ≤ sizeLine; decide, fun c3 hc3 => ?_⟩
      have z5 := Ex.new (o := .tup [V.int 1, V.int 1]) hc3
      have f5 : upd A4 c3 (.tup [V.int 1, V.int 1]) c3 = some (.tup [V.int 1, V.int 1]) := upd_same
      generalize upd A4 c3 (.tup [V.int 1, V.int 1]) = A5 at z5 f5 ⊢
      refine ⟨by show 5 ≤ sizeLine; decide, fun p3 hp3 => ?_⟩
      have z6 := Ex.new (o := .tup [V.int 0, V.int 0, V.ref c3, V.int 1, V.non]) hp3
      have f6 : upd A5 p3 (.tup [V.int 0, V.int 0, V.ref c3, V.int 1, V.non]) p3 = some (.tup [V.int 0, V.int 0, V.ref c3, V.int 1, V.non]) := upd_same
      generalize upd A5 p3 (.tup [V.int 0, V.int 0, V.ref c3, V.int 1, V.non]) = A6 at z6 f6 ⊢
      refine ⟨by show 2 ≤ sizeLine; decide, fun c4 hc4 => ?_⟩
      have z7 := Ex.new (o := .tup [V.int 1, V.int 1]) hc4
      have f7 : upd A6 c4 (.tup [V.int 1, V.int 1]) c4 = some (.tup [V.int 1, V.int 1]) := upd_same
      generalize upd A6 c4 (.tup [V.int 1, V.int 1]) = A7 at z7 f7 ⊢
      refine ⟨by show 5 ≤ sizeLine; decide, fun p4 hp4 => ?_⟩
      have z8 := Ex.new (o := .tup [V.bl true, V.int 0, V.ref c4, V.int 1, V.int 0]) hp4
      have f8 : upd A7 p4 (.tup [V.bl true, V.int 0, V.ref c4, V.int 1, V.int 0]) p4 = some (.tup [V.bl true, V.int 0, V.ref c4, V.int 1, V.int 0]) := upd_same
      generalize upd A7 p4 (.tup [V.bl true, V.int 0, V.ref c4, V.int 1, V.int 0]) = A8 at z8 f8 ⊢
      refine ⟨by show 4 ≤ sizeLine; decide, fun W hW => ?_⟩
      have zW := Ex.new (o := .lst [V.ref p1, V.ref p2, V.ref p3, V.ref p4]) hW
      have fW : upd A8 W (.lst [V.ref p1, V.ref p2, V.ref p3, V.ref p4]) W = some (.lst [V.ref p1, V.ref p2, V.ref p3, V.ref p4]) := upd_same
      generalize upd A8 W (.lst [V.ref p1, V.ref p2, V.ref p3, V.ref p4]) = AW at zW fW ⊢
      have zA : Ex Ge AW := Ex.trans (z1.trans (z2.trans (z3.trans (z4.trans (z5.trans (z6.trans (z7.trans (z8)))))))) zW
      have hOW := zA _ _ hO2
      have rW := rO2.ex zA
      refine ⟨O, W, vs2, _, rfl, rfl, hOW, fW, by rw [hvs2]; show 15 + 4 ≤ sizeLine; decide, ?_⟩
      have up : ∀ {v : V}, OddW K is.length os.length (nt (h3 a b O AW)) v → OddW K is.length os.length (nt (h3 a b O (upd AW O (.lst (vs2 ++ [V.ref p1, V.ref p2, V.ref p3, V.ref p4]))))) v := fun h => by
        rw [h3_own]
        exact h
      have pA : ∀ {G : Hp} {p : Addr} {o : HO}, Ex Ge G → G p = none → AW p = some o → (∀ ps, o ≠ .tbl ps) → nt (h3 a b O AW) p = some o := fun e h0 h nn => nt_of (by rw [h3_ne (rO2.s.nea (fresh_back e h0)) (rO2.s.neb (fresh_back e h0)) (ne_of_none (e _ _ hO2) h0).symm]; exact h) nn
      refine ⟨_, rfl, by rw [h3_own]; exact nt_mono (h3_mono zA), rW.mut hOW frO Oa Ob, upd_same, by rw [List.length_append, hvs2]; rfl, fun v hv => up ?_⟩
      rcases List.mem_append.mp hv with hv | hv
      · exact (hov2 v hv).ex (nt_mono (h3_mono zA))
      simp only [List.mem_cons, List.not_mem_nil, or_false] at hv
      rcases hv with rfl | rfl | rfl | rfl
      · exact oddw_tup (pA (z1) hp1 ((z3.trans (z4.trans (z5.trans (z6.trans (z7.trans (z8.trans (zW))))))) _ _ f2) fun ps z => nomatch z) (.cons (.int 0) (.cons (.int 0) (.cons (.tup (SqT.of (pA (Ex.refl _) hc1 ((z2.trans (z3.trans (z4.trans (z5.trans (z6.trans (z7.trans (z8.trans (zW)))))))) _ _ f1) fun ps z => nomatch z)) (.cons (.int 1) (.cons (.int 1) .nil))) (.cons (.int 0) (.cons (.int 0) .nil))))) (rdWay_off (s := ⟨0, 0, 1, 1, 0, 0⟩) rfl (.inr (.inr (.inr (by decide)))))
      · exact oddw_tup (pA (z1.trans (z2.trans (z3))) hp2 ((z5.trans (z6.trans (z7.trans (z8.trans (zW))))) _ _ f4) fun ps z => nomatch z) (.cons (.int 0) (.cons (.int 0) (.cons (.tup (SqT.of (pA (z1.trans (z2)) hc2 ((z4.trans (z5.trans (z6.trans (z7.trans (z8.trans (zW)))))) _ _ f3) fun ps z => nomatch z)) (.cons (.int 1) (.cons (.int 1) .nil))) (.cons (.bl true) (.cons (.int 0) .nil))))) rfl
      · exact oddw_tup (pA (z1.trans (z2.trans (z3.trans (z4.trans (z5))))) hp3 ((z7.trans (z8.trans (zW))) _ _ f6) fun ps z => nomatch z) (.cons (.int 0) (.cons (.int 0) (.cons (.tup (SqT.of (pA (z1.trans (z2.trans (z3.trans (z4)))) hc3 ((z6.trans (z7.trans (z8.trans (zW)))) _ _ f5) fun ps z => nomatch z)) (.cons (.int 1) (.cons (.int 1) .nil))) (.cons (.int 1) (.cons .non .nil))))) rfl
      · exact oddw_tup (pA (z1.trans (z2.trans (z3.trans (z4.trans (z5.trans (z6.trans (z7))))))) hp4 ((zW) _ _ f8) fun ps z => nomatch z) (.cons (.bl true) (.cons (.int 0) (.cons (.tup (SqT.of (pA (z1.trans (z2.trans (z3.trans (z4.trans (z5.trans (z6)))))) hc4 ((z8.trans (zW)) _ _ f7) fun ps z => nomatch z)) (.cons (.int 1) (.cons (.int 1) .nil))) (.cons (.int 1) (.cons (.int 0) .nil))))) rfl
    rintro σ Gf ⟨vs3, rfl, eO3, rO3, hO3, hvs3, hov3⟩
    clear hov2 hvs2 hO2 rO2
    have eO13 : Ex (nt (hid a b Gb)) (nt (h3 a b O Gf)) := Ex.trans (Ex.trans eO eO2) eO3
    have h3G : ∀ {G : Hp}, Ex (nt (h3 a b O G)) G := nt_le.trans (h3_le.trans hid_ex)
    refine ⟨fun σ G => ∃ (vs : List V), σ = [some (.ref a), some (.ref x), some (.int n), some (.ref l), some (.ref li), some (.ref lo), some (.ref L), x7, x8', some (.ref M), x10, x11, x12, x13, x14, some (.ref o1), some (.ref O), none, none] ∧ Ex (nt (h3 a b O Gf)) (nt (h3 a b O G)) ∧ RS T a b H k3 G ∧ G O = some (.lst vs) ∧ vs.length = 20 ∧ ∀ v ∈ vs, OddW K is.length os.length (nt (h3 a b O G)) v, ?_, ?_⟩
    · refine ⟨_, rfl, .inl ⟨rfl, _, SqL.of hO3⟩, by show 1 ≤ sizeLine; decide, fun q1 hq1 => ?_⟩
      have z1 := Ex.new (o := .tup [V.str "0"]) hq1
      have f1 : upd Gf q1 (.tup [V.str "0"]) q1 = some (.tup [V.str "0"]) := upd_same
      generalize upd Gf q1 (.tup [V.str "0"]) = A1 at z1 f1 ⊢
      have ho1 : Gf o1 = some (.tup [V.int 0, V.int 0, V.ref u, V.int 1, V.int 0]) := h3G _ _ (eO13 _ _ po1)
      refine ⟨_, rfl, _, rfl, o1, [V.int 0, V.int 0, V.ref u, V.int 1, V.int 0], rfl, SqT.of (z1 _ _ ho1), (fun z => absurd (show (1 : Nat) = 0 from z.1) (by decide)), fun q2 hq2 => ?_⟩
      have hc1 : cutV [V.int 0, V.int 0, V.ref u, V.int 1, V.int 0] (some 1) none = [V.int 0, V.ref u, V.int 1, V.int 0] := rfl
      rw [hc1]
      have z2 := Ex.new (o := .tup [V.int 0, V.ref u, V.int 1, V.int 0]) hq2
      have f2 : upd A1 q2 (.tup [V.int 0, V.ref u, V.int 1, V.int 0]) q2 = some (.tup [V.int 0, V.ref u, V.int 1, V.int 0]) := upd_same
      generalize upd A1 q2 (.tup [V.int 0, V.ref u, V.int 1, V.int 0]) = A2 at z2 f2 ⊢
      refine ⟨q1, q2, _, _, rfl, rfl, SqT.of (z2 _ _ f1), SqT.of f2, by simp, by show 5 ≤ sizeLine; decide, (fun z => nomatch z), fun _ p3 hp3 => ?_⟩
      have z3 := Ex.new (o := .tup [V.str "0", V.int 0, V.ref u, V.int 1, V.int 0]) hp3
      have f3 : upd A2 p3 (.tup [V.str "0", V.int 0, V.ref u, V.int 1, V.int 0]) p3 = some (.tup [V.str "0", V.int 0, V.ref u, V.int 1, V.int 0]) := upd_same
      simp only [List.cons_append, List.nil_append]
      generalize upd A2 p3 (.tup [V.str "0", V.int 0, V.ref u, V.int 1, V.int 0]) = A3 at z3 f3 ⊢
      have z13 := z1.trans (z2.trans z3)
      have hO13 := z13 _ _ hO3
      refine ⟨O, vs3, _, rfl, rfl, hO13, by rw [hvs3]; show 19 < sizeLine; decide, ?_⟩
      refine ⟨_, trivial, by rw [h3_own]; exact nt_mono (h3_mono z13), (rO3.ex z13).mut hO13 frO Oa Ob, upd_same, by rw [List.length_append, hvs3]; rfl, fun v hv => ?_⟩
      rw [h3_own]
      rcases List.mem_append.mp hv with hv | hv
      · exact (hov3 v hv).ex (nt_mono (h3_mono z13))
      · obtain rfl := List.mem_singleton.mp hv
        have p0 := fresh_back (z1.trans z2) hp3
        refine oddw_tup (nt_of (by rw [h3_ne (rO3.s.nea p0) (rO3.s.neb p0) (ne_of_none hO3 p0).symm]; exact f3) fun ps z => nomatch z) (.cons (.str _) (.cons (.int 0) (.cons (.tup (SqT.of (nt_mono (h3_mono z13) _ _ (eO13 _ _ pu))) (.cons (.int 1) (.cons (.int 1) .nil))) (.cons (.int 1) (.cons (.int 0) .nil))))) rfl
    rintro σ Gg ⟨vs4, rfl, eO4, rg, hO4, hvs4, hov4⟩
    have emb : Ex (nt (hid a b Gb)) (nt (hid a b Gg)) := Ex.trans (Ex.trans eO13 eO4) (nt_mono h3_le)
    have bL : nt (hid a b Gg) L = some (.lst vw) := emb _ _ (nt_of (by rw [hid_ne La Lb]; exact (e39.trans (y1.trans y2)) _ _ hG3) fun ps z => nomatch z)
    have bW : DpAll K (nt (hid a b Gg)) vw (ws.map stD) := dpa_ex emb _ _ (dpa_nt _ _ (dpa_ex (Ex.trans (tps_mono (e39.trans (y1.trans y2))) (tps_in rb.s)) _ _ hW3))
    have hov : ∀ v ∈ vs4, OddW K is.length os.length (nt (hid a b Gg)) v := fun v hv => (hov4 v hv).ex (nt_mono h3_le)
    clear hov4 hov3 eO eO2 eO3 eO4 eO13 h3G rO3 hO3 hvs3
    have gL := hid_ex _ _ (nt_le _ _ bL)
    -- where
    refine ⟨_, rfl, _, rfl, L, _, rfl, .inl (SqL.of gL), _, _, rfl, rfl, a, b, k3, _, rfl, rg.s, by omega, by rw [hvl]; omega, by rw [hvl]; omega, fun Gh at0 eh sh at1 at2 => ?_⟩
    rw [hvl] at at2
    obtain ⟨j, rfl⟩ : ∃ j : Nat, at0 = (j : Int) := ⟨at0.toNat, by omega⟩
    have hj : j ≤ ws.length := by omega
    have rh := rg.go eh sh
    have gh : NXs a b Gg Gh := nt_mono eh
    have sJ : ∀ i : Int, SeqAt.shaped (pairD "ways" i) = true := fun i => pairD_sh ok_ways_ i
    refine ⟨fun σ G => ∃ (x18 : Option V), σ = [some (.ref a), some (.ref x), some (.int n), some (.ref l), some (.ref li), some (.ref lo), some (.ref L), x7, x8', some (.ref M), x10, x11, x12, x13, x14, some (.ref o1), some (.ref O), some (.int (j : Int)), x18] ∧ RS T a b H (k3 + 1 + vs4.length) G ∧ NXs a b Gg G, ?_, ?_⟩
    · refine ⟨_, rfl, _, rfl, a, b, k3 + 1, O, vs4, rfl, sh, SqL.of (by rw [hid_ne Oa Ob]; exact eh.at hO4 Oa Ob), by omega, by omega, fun G5 p ys e5 s5 p0 hp perm => ⟨_, rfl, p, _, rfl, SqL.of hp, fun q3 hq3 => ?_⟩⟩
      have hc9 : cutV ys none (some 9) = ys.take 9 := cut_to ys 9
      rw [hc9]
      have y1 := Ex.new (o := .lst (ys.take 9)) hq3
      have j1 : upd G5 q3 (.lst (ys.take 9)) q3 = some (.lst (ys.take 9)) := upd_same
      generalize upd G5 q3 (.lst (ys.take 9)) = G6 at y1 j1 ⊢
      have r6 := (rh.go e5 s5).ex y1
      have g6 : NXs a b Gg G6 := gh.trans ((nt_mono e5).trans (nt_mono (hid_mono y1)))
      have q30 := e5.back s5 hq3
      have bq : nt (hid a b G6) q3 = some (.lst (ys.take 9)) := nt_of (by rw [hid_ne (rh.s.nea q30) (rh.s.neb q30)]; exact j1) fun ps z => nomatch z
      refine ⟨q3, rfl, ⟨_, SqL.of j1⟩, ?_⟩
      refine for_list (K := K) (a := q3) (xs := ys.take 9) (fun i σ G => ∃ x18, σ = [some (.ref a), some (.ref x), some (.int n), some (.ref l), some (.ref li), some (.ref lo), some (.ref L), x7, x8', some (.ref M), x10, x11, x12, x13, x14, some (.ref o1), some (.ref O), some (.int (j : Int)), x18] ∧ RS T a b H (k3 + 1 + vs4.length) G ∧ NXs a b G6 G) ⟨_, rfl, r6, Ex.refl _⟩ (fun i σ G _ ⟨_, _, _, e⟩ => SqL.of (hid_ex _ _ (nt_le _ _ (e _ _ bq)))) ?_ ?_
      · rintro i o σ G ho ⟨x18, rfl, rG, nG⟩
        have oO := hov o (perm.mem_iff.mp (List.mem_of_mem_take (mem_of_get ho)))
        refine ⟨rG.t, fun A6 eN t6 => ?_⟩
        have r6' := rG.N eN t6
        have n6 : NXs a b G6 A6 := Ex.trans nG (nxs_N eN)
        have emb : Ex (nt (hid a b Gg)) A6 := Ex.trans (Ex.trans g6 n6) (nt_le.trans hid_ex)
        have aL := emb _ _ bL
        have aW : DpAll K A6 vw (ws.map stD) := dpa_ex emb _ _ bW
        refine ⟨_, rfl, _, rfl, _, rfl, _, rfl, L, _, rfl, SqL.of aL, fun q1 hq1 => ?_⟩
        rw [cut_to]
        have z1 := Ex.new (o := .lst (vw.take j)) hq1
        have f1 : upd A6 q1 (.lst (vw.take j)) q1 = some (.lst (vw.take j)) := upd_same
        generalize upd A6 q1 (.lst (vw.take j)) = A1 at z1 f1 ⊢
        refine ⟨_, rfl, by show 2 ≤ sizeLine; decide, fun q2 hq2 => ?_⟩
        have z2 := Ex.new (o := .lst [o, V.non]) hq2
        have f2 : upd A1 q2 (.lst [o, V.non]) q2 = some (.lst [o, V.non]) := upd_same
        generalize upd A1 q2 (.lst [o, V.non]) = A2 at z2 f2 ⊢
        refine ⟨q1, q2, _, _, rfl, rfl, z2 _ _ f1, f2, sz_le (by rw [List.length_take]; show _ + 2 ≤ _; omega), fun q4 hq4 => ?_⟩
        have z3 := Ex.new (o := .lst (vw.take j ++ [o, V.non])) hq4
        have f3 : upd A2 q4 (.lst (vw.take j ++ [o, V.non])) q4 = some (.lst (vw.take j ++ [o, V.non])) := upd_same
        generalize upd A2 q4 (.lst (vw.take j ++ [o, V.non])) = A3 at z3 f3 ⊢
        have z13 := z1.trans (z2.trans z3)
        refine ⟨_, rfl, _, rfl, _, rfl, L, _, rfl, SqL.of (z13 _ _ aL), fun q5 hq5 => ?_⟩
        rw [cut_fr]
        have z4 := Ex.new (o := .lst (vw.drop j)) hq5
        have f4 : upd A3 q5 (.lst (vw.drop j)) q5 = some (.lst (vw.drop j)) := upd_same
        generalize upd A3 q5 (.lst (vw.drop j)) = A4 at z4 f4 ⊢
        refine ⟨q4, q5, _, _, rfl, rfl, z4 _ _ f3, f4, sz_le (by rw [List.length_append, List.length_take, List.length_drop]; show _ + 2 + _ ≤ _; omega), fun q6 hq6 => ?_⟩
        have hxs : vw.take j ++ [o, V.non] ++ vw.drop j = vw.take j ++ o :: (V.non :: vw.drop j) := by simp
        rw [hxs]
        have z5 := Ex.new (o := .lst (vw.take j ++ o :: (V.non :: vw.drop j))) hq6
        have f5 : upd A4 q6 (.lst (vw.take j ++ o :: (V.non :: vw.drop j))) q6 = some (.lst (vw.take j ++ o :: (V.non :: vw.drop j))) := upd_same
        generalize upd A4 q6 (.lst (vw.take j ++ o :: (V.non :: vw.drop j))) = A5 at z5 f5 ⊢
        have z15 := z13.trans (z4.trans z5)
        have e5 := emb.trans z15
        have wT : WyAll K is.length os.length A5 (vw.take j) (ws.take j) := wyall_st (by rw [List.map_take]; exact dpa_take _ (dpa_ex z15 _ _ aW)) fun s hs => wok s (List.mem_of_mem_take hs)
        have hjl : (ws.take j).length = j := by
          rw [List.length_take]
          omega
        refine ⟨x, wb, lw, pi, po, n, ts, is, os, _, rfl, GPt (r6'.ex z15), hWb.n1, htok, htn, htz, hdr, .inr ⟨q6, _, ws.take j, rfl, .inl (SqL.of f5), (List.take_sublist j ws).nodup nd, by omega, .inr ⟨vw.take j, o, V.non :: vw.drop j, rfl, wT, ?_, ?_⟩⟩⟩
        · rcases oO with h | ⟨d, h1, h2⟩
          · exact .inl (h.ex e5)
          · exact .inr ⟨d, dp_ex e5 _ _ h1, fun s hs => by rw [h2] at hs; cases hs⟩
        · rw [hjl]
          refine fun A8 dd e8 h0 h1 => .inr ⟨rfl, dd, _, rfl, h1, fun p8 hp8 => ?_⟩
          have v2 := Ex.new (o := .tup [V.str "ways", V.int (j : Nat)]) hp8
          have i2 : upd A8 p8 (.tup [V.str "ways", V.int (j : Nat)]) p8 = some (.tup [V.str "ways", V.int (j : Nat)]) := upd_same
          generalize upd A8 p8 (.tup [V.str "ways", V.int (j : Nat)]) = A9 at v2 i2 ⊢
          refine ⟨_, rfl, by show 2 ≤ sizeLine; decide, fun p10 hp10 => ?_⟩
          have v3 := Ex.new (o := .tup [V.str "ways", V.int (j : Nat)]) hp10
          have i3 : upd A9 p10 (.tup [V.str "ways", V.int (j : Nat)]) p10 = some (.tup [V.str "ways", V.int (j : Nat)]) := upd_same
          generalize upd A9 p10 (.tup [V.str "ways", V.int (j : Nat)]) = A10 at v3 i3 ⊢
          refine ⟨pairD "ways" j, pairD "ways" j, pairD_dp (v3 _ _ i2), pairD_dp i3, sJ _, sJ _, _, rfl, ?_⟩
          rw [pairD_eq]
          have e := z15.trans (e8.trans (v2.trans v3))
          exact iteF ⟨_, rfl, r6'.ex e, Ex.trans n6 (nt_mono (hid_mono e))⟩
      · rintro σ G ⟨x18, rfl, rG, nG⟩
        exact ⟨x18, rfl, rG, g6.trans nG⟩
    rintro σ Gi' ⟨x18, rfl, ri, gi⟩
    -- a way twice
    refine ⟨fun σ G => ∃ (x8 x14 : Option V), σ = [some (.ref a), some (.ref x), some (.int n), some (.ref l), some (.ref li), some (.ref lo), some (.ref L), x7, x8, some (.ref M), x10, x11, x12, x13, x14, some (.ref o1), some (.ref O), some (.int (j : Int)), x18] ∧ RS T a b H (k3 + 1 + vs4.length) G ∧ NXs a b Gg G, ?_, ?_⟩
    · have emb0 : Ex (nt (hid a b Gg)) Gi' := Ex.trans gi (nt_le.trans hid_ex)
      refine ⟨_, rfl, _, rfl, L, _, rfl, SqL.of (emb0 _ _ bL), fun q3 hq3 => ?_⟩
      rw [cut_t1]
      have y1 := Ex.new (o := .lst (vw.take 1)) hq3
      have j1 : upd Gi' q3 (.lst (vw.take 1)) q3 = some (.lst (vw.take 1)) := upd_same
      generalize upd Gi' q3 (.lst (vw.take 1)) = G6 at y1 j1 ⊢
      have r6 := ri.ex y1
      have g6 : NXs a b Gg G6 := Ex.trans gi (nt_mono (hid_mono y1))
      have bq : nt (hid a b G6) q3 = some (.lst (vw.take 1)) := nt_of (by rw [hid_ne (ri.s.nea hq3) (ri.s.neb hq3)]; exact j1) fun ps z => nomatch z
      refine ⟨q3, rfl, ⟨_, SqL.of j1⟩, ?_⟩
      refine for_list (K := K) (a := q3) (xs := vw.take 1) (fun i σ G => ∃ x8 x14, σ = [some (.ref a), some (.ref x), some (.int n), some (.ref l), some (.ref li), some (.ref lo), some (.ref L), x7, x8, some (.ref M), x10, x11, x12, x13, x14, some (.ref o1), some (.ref O), some (.int (j : Int)), x18] ∧ RS T a b H (k3 + 1 + vs4.length) G ∧ NXs a b G6 G) ⟨_, _, rfl, r6, Ex.refl _⟩ (fun i σ G _ ⟨_, _, _, _, e⟩ => SqL.of (hid_ex _ _ (nt_le _ _ (e _ _ bq)))) ?_ ?_
      · rintro i v σ G hv ⟨x8, x14, rfl, rG, nG⟩
        have hvw : v ∈ vw := List.mem_of_mem_take (mem_of_get hv)
        obtain ⟨i', hi'⟩ := List.getElem?_of_mem hvw
        obtain ⟨st, t, hst, rfl, htD⟩ := sts_get bW hi'
        have wy := wok st (mem_of_get hst)
        have emb : Ex (nt (hid a b Gg)) G := Ex.trans (Ex.trans g6 nG) (nt_le.trans hid_ex)
        obtain ⟨_, u5, e, q1', q2'⟩ := stD_inv htD
        cases e
        have p1 := ex_t emb q1'
        have p2 := ex_t emb q2'
        -- the way, as a list, with a list in it
        refine ⟨_, rfl, _, rfl, t, _, rfl, .inr p1, fun c1 hc1 => ?_⟩
        have z1 := Ex.new (o := .lst [V.int st.one, V.int st.other, V.ref u5, V.int st.ticks, V.int st.change]) hc1
        have f1 : upd G c1 (.lst [V.int st.one, V.int st.other, V.ref u5, V.int st.ticks, V.int st.change]) c1 = some (.lst [V.int st.one, V.int st.other, V.ref u5, V.int st.ticks, V.int st.change]) := upd_same
        generalize upd G c1 (.lst [V.int st.one, V.int st.other, V.ref u5, V.int st.ticks, V.int st.change]) = A1 at z1 f1 ⊢
        refine ⟨_, rfl, _, rfl, t, [V.int st.one, V.int st.other, V.ref u5, V.int st.ticks, V.int st.change], rfl, ex_t z1 p1, (fun z => absurd (show (2 : Nat) = 5 from z.2) (by decide)), fun c2 hc2 => ?_⟩
        have hk1 : cutV [V.int st.one, V.int st.other, V.ref u5, V.int st.ticks, V.int st.change] none (some 2) = [V.int st.one, V.int st.other] := rfl
        rw [hk1]
        have z2 := Ex.new (o := .tup [V.int st.one, V.int st.other]) hc2
        have f2 : upd A1 c2 (.tup [V.int st.one, V.int st.other]) c2 = some (.tup [V.int st.one, V.int st.other]) := upd_same
        generalize upd A1 c2 (.tup [V.int st.one, V.int st.other]) = A2 at z2 f2 ⊢
        have z12 := z1.trans z2
        refine ⟨_, rfl, t, _, 2, .ref u5, rfl, rfl, ex_t z12 p1, rfl, u5, _, rfl, .inr (ex_t z12 p2), fun c3 hc3 => ⟨by show 1 ≤ sizeLine; decide, fun c4 hc4 => ?_⟩⟩
        have z3 := Ex.new (o := .lst [V.int st.p, V.int st.q]) hc3
        have f3 : upd A2 c3 (.lst [V.int st.p, V.int st.q]) c3 = some (.lst [V.int st.p, V.int st.q]) := upd_same
        generalize upd A2 c3 (.lst [V.int st.p, V.int st.q]) = A3 at z3 f3 hc4 ⊢
        have z4 := Ex.new (o := .tup [V.ref c3]) hc4
        have f4 : upd A3 c4 (.tup [V.ref c3]) c4 = some (.tup [V.ref c3]) := upd_same
        generalize upd A3 c4 (.tup [V.ref c3]) = A4 at z4 f4 ⊢
        have z14 := z12.trans (z3.trans z4)
        refine ⟨c2, c4, _, _, rfl, rfl, SqT.of ((z3.trans z4) _ _ f2), SqT.of f4, by simp, by show 3 ≤ sizeLine; decide, (fun z => nomatch z), fun _ c5 hc5 => ?_⟩
        have z5 := Ex.new (o := .tup [V.int st.one, V.int st.other, V.ref c3]) hc5
        have f5 : upd A4 c5 (.tup [V.int st.one, V.int st.other, V.ref c3]) c5 = some (.tup [V.int st.one, V.int st.other, V.ref c3]) := upd_same
        rw [show ([V.int st.one, V.int st.other] ++ [V.ref c3] : List V) = [V.int st.one, V.int st.other, V.ref c3] from rfl]
        generalize upd A4 c5 (.tup [V.int st.one, V.int st.other, V.ref c3]) = A5 at z5 f5 ⊢
        have z15 := z14.trans z5
        refine ⟨_, rfl, _, rfl, t, [V.int st.one, V.int st.other, V.ref u5, V.int st.ticks, V.int st.change], rfl, ex_t z15 p1, (fun z => absurd (show (3 : Nat) = 0 from z.1) (by decide)), fun c6 hc6 => ?_⟩
        have hk2 : cutV [V.int st.one, V.int st.other, V.ref u5, V.int st.ticks, V.int st.change] (some 3) none = [V.int st.ticks, V.int st.change] := rfl
        rw [hk2]
        have z6 := Ex.new (o := .tup [V.int st.ticks, V.int st.change]) hc6
        have f6 : upd A5 c6 (.tup [V.int st.ticks, V.int st.change]) c6 = some (.tup [V.int st.ticks, V.int st.change]) := upd_same
        generalize upd A5 c6 (.tup [V.int st.ticks, V.int st.change]) = A6 at z6 f6 ⊢
        refine ⟨c5, c6, _, _, rfl, rfl, SqT.of (z6 _ _ f5), SqT.of f6, by simp, by show 5 ≤ sizeLine; decide, (fun z => nomatch z), fun _ c7 hc7 => ?_⟩
        have z7 := Ex.new (o := .tup [V.int st.one, V.int st.other, V.ref c3, V.int st.ticks, V.int st.change]) hc7
        have f7 : upd A6 c7 (.tup [V.int st.one, V.int st.other, V.ref c3, V.int st.ticks, V.int st.change]) c7 = some (.tup [V.int st.one, V.int st.other, V.ref c3, V.int st.ticks, V.int st.change]) := upd_same
        rw [show ([V.int st.one, V.int st.other, V.ref c3] ++ [V.int st.ticks, V.int st.change] : List V) = [V.int st.one, V.int st.other, V.ref c3, V.int st.ticks, V.int st.change] from rfl]
        generalize upd A6 c7 (.tup [V.int st.one, V.int st.other, V.ref c3, V.int st.ticks, V.int st.change]) = A7 at z7 f7 ⊢
        have z17 := z15.trans (z6.trans z7)
        refine ⟨by show 3 ≤ sizeLine; decide, fun c8 hc8 => ?_⟩
        have z8 := Ex.new (o := .lst [V.ref t, V.ref c1, V.ref c7]) hc8
        have f8 : upd A7 c8 (.lst [V.ref t, V.ref c1, V.ref c7]) c8 = some (.lst [V.ref t, V.ref c1, V.ref c7]) := upd_same
        generalize upd A7 c8 (.lst [V.ref t, V.ref c1, V.ref c7]) = A8 at z8 f8 ⊢
        have z18 := z17.trans z8
        have r8 := rG.ex z18
        have n8 : NXs a b G6 A8 := Ex.trans nG (nt_mono (hid_mono z18))
        have put : ∀ {G' : Hp} {p : Addr} {o : HO}, Ex G G' → G' p = none → A8 p = some o → (∀ ps, o ≠ .tbl ps) → nt (hid a b A8) p = some o := fun e h0 h nn => nt_of (by rw [hid_ne (rG.s.nea (fresh_back e h0)) (rG.s.neb (fresh_back e h0))]; exact h) nn
        have emb8 : Ex (nt (hid a b Gg)) (nt (hid a b A8)) := Ex.trans g6 n8
        have t8 := dp_ex emb8 _ _ htD
        have u8 : SqT K (nt (hid a b A8)) u5 [V.int st.p, V.int st.q] := ex_t emb8 q2'
        have tw8 : ∀ v ∈ [V.ref t, V.ref c1, V.ref c7], ∃ d, Dp K (nt (hid a b A8)) v d ∧ stepOf d = some st := fun v hv => by
          have b1 := put (Ex.refl G) hc1 ((z2.trans (z3.trans (z4.trans (z5.trans (z6.trans (z7.trans z8)))))) _ _ f1) fun ps z => nomatch z
          have b3 := put z12 hc3 ((z4.trans (z5.trans (z6.trans (z7.trans z8)))) _ _ f3) fun ps z => nomatch z
          have b7 := put (z15.trans z6) hc7 (z8 _ _ f7) fun ps z => nomatch z
          simp only [List.mem_cons, List.not_mem_nil, or_false] at hv
          rcases hv with rfl | rfl | rfl
          · exact ⟨stD st, t8, rfl⟩
          · exact ⟨.list [.int st.one, .int st.other, .tuple [.int st.p, .int st.q], .int st.ticks, .int st.change], .lst (SqL.of b1) (.cons (.int _) (.cons (.int _) (.cons (.tup u8 (.cons (.int _) (.cons (.int _) .nil))) (.cons (.int _) (.cons (.int _) .nil))))), rfl⟩
          · exact ⟨.tuple [.int st.one, .int st.other, .list [.int st.p, .int st.q], .int st.ticks, .int st.change], .tup (SqT.of b7) (.cons (.int _) (.cons (.int _) (.cons (.lst (SqL.of b3) (.cons (.int _) (.cons (.int _) .nil))) (.cons (.int _) (.cons (.int _) .nil))))), rfl⟩
        have b8 := put z17 hc8 f8 fun ps z => nomatch z
        refine ⟨c8, rfl, ⟨_, SqL.of f8⟩, ?_⟩
        refine for_list (K := K) (a := c8) (xs := [V.ref t, V.ref c1, V.ref c7]) (fun i σ G => ∃ x14, σ = [some (.ref a), some (.ref x), some (.int n), some (.ref l), some (.ref li), some (.ref lo), some (.ref L), x7, some (.ref t), some (.ref M), x10, x11, x12, x13, x14, some (.ref o1), some (.ref O), some (.int (j : Int)), x18] ∧ RS T a b H (k3 + 1 + vs4.length) G ∧ NXs a b A8 G) ?_ (fun i σ G _ ⟨_, _, _, e⟩ => SqL.of (hid_ex _ _ (nt_le _ _ (e _ _ b8)))) ?_ ?_
        · exact ⟨_, rfl, r8, Ex.refl _⟩
        · rintro i2 v2 σ G' hv2 ⟨x14', rfl, rG', nG'⟩
          obtain ⟨d, dv, dst⟩ := tw8 v2 (mem_of_get hv2)
          refine ⟨rG'.t, fun B6 eN t6 => ?_⟩
          have r6' := rG'.N eN t6
          have n6 : NXs a b A8 B6 := Ex.trans nG' (nxs_N eN)
          have embA : Ex (nt (hid a b A8)) B6 := Ex.trans n6 (nt_le.trans hid_ex)
          have emb : Ex (nt (hid a b Gg)) B6 := Ex.trans emb8 embA
          have aL := emb _ _ bL
          have aW : DpAll K B6 vw (ws.map stD) := dpa_ex emb _ _ bW
          refine ⟨_, rfl, _, rfl, _, rfl, by show 2 ≤ sizeLine; decide, fun q2 hq2 => ?_⟩
          have z2 := Ex.new (o := .lst [v2, V.non]) hq2
          have f2 : upd B6 q2 (.lst [v2, V.non]) q2 = some (.lst [v2, V.non]) := upd_same
          generalize upd B6 q2 (.lst [v2, V.non]) = B2 at z2 f2 ⊢
          refine ⟨L, q2, _, _, rfl, rfl, z2 _ _ aL, f2, sz_le (by show _ + 2 ≤ _; omega), fun q6 hq6 => ?_⟩
          have z5 := Ex.new (o := .lst (vw ++ [v2, V.non])) hq6
          have f5 : upd B2 q6 (.lst (vw ++ [v2, V.non])) q6 = some (.lst (vw ++ [v2, V.non])) := upd_same
          generalize upd B2 q6 (.lst (vw ++ [v2, V.non])) = B5 at z5 f5 ⊢
          have z15 := z2.trans z5
          refine ⟨x, wb, lw, pi, po, n, ts, is, os, _, rfl, GPt (r6'.ex z15), hWb.n1, htok, htn, htz, hdr, .inr ⟨q6, _, ws, rfl, .inl (SqL.of f5), nd, by omega, .inr ⟨vw, v2, [V.non], rfl, wyall_st (dpa_ex z15 _ _ aW) wok, .inr ⟨d, dp_ex (Ex.trans embA z15) _ _ dv, fun s hs => ?_⟩, ?_⟩⟩⟩
          · rw [rdWay_st dst wy] at hs
            cases hs
            exact mem_of_get hst
          · refine fun C8 dd e8 h0 h1 => .inr ⟨rfl, dd, _, rfl, h1, fun p8 hp8 => ?_⟩
            have v2 := Ex.new (o := .tup [V.str "ways", V.int (ws.length : Nat)]) hp8
            have i2 : upd C8 p8 (.tup [V.str "ways", V.int (ws.length : Nat)]) p8 = some (.tup [V.str "ways", V.int (ws.length : Nat)]) := upd_same
            generalize upd C8 p8 (.tup [V.str "ways", V.int (ws.length : Nat)]) = C9 at v2 i2 ⊢
            refine ⟨_, rfl, L, _, rfl, .inl (SqL.of ((z15.trans (e8.trans v2)) _ _ aL)), by show 2 ≤ sizeLine; decide, fun p10 hp10 => ?_⟩
            rw [hvl] at *
            have v3 := Ex.new (o := .tup [V.str "ways", V.int (ws.length : Nat)]) hp10
            have i3 : upd C9 p10 (.tup [V.str "ways", V.int (ws.length : Nat)]) p10 = some (.tup [V.str "ways", V.int (ws.length : Nat)]) := upd_same
            generalize upd C9 p10 (.tup [V.str "ways", V.int (ws.length : Nat)]) = C10 at v3 i3 ⊢
            refine ⟨pairD "ways" ws.length, pairD "ways" ws.length, pairD_dp (v3 _ _ i2), pairD_dp i3, sJ _, sJ _, _, rfl, ?_⟩
            rw [pairD_eq]
            have e := z15.trans (e8.trans (v2.trans v3))
            exact iteF ⟨_, rfl, r6'.ex e, Ex.trans n6 (nt_mono (hid_mono e))⟩
        · rintro σ G' ⟨x14', rfl, rG', nG'⟩
          exact ⟨_, _, rfl, rG', Ex.trans n8 nG'⟩
      · rintro σ G ⟨x8, x14, rfl, rG, nG⟩
        exact ⟨x8, x14, rfl, rG, g6.trans nG⟩
    rintro σ Gj ⟨x8, x14', rfl, rj, gj⟩
    -- no list of ways
    refine fun d0 hd0 => ⟨_, rfl, by show 6 ≤ sizeLine; decide, fun p hp => ?_⟩
    have y1 := Ex.new (o := .dK []) hd0
    have j1 : upd Gj d0 (.dK []) d0 = some (.dK []) := upd_same
    generalize upd Gj d0 (.dK []) = A1 at y1 j1 hp ⊢
    have y2 := Ex.new (o := .lst [V.non, V.int 5, V.str "ab", V.ref d0, V.bl true, V.ref x]) hp
    have j2 : upd A1 p (.lst [V.non, V.int 5, V.str "ab", V.ref d0, V.bl true, V.ref x]) p = some (.lst [V.non, V.int 5, V.str "ab", V.ref d0, V.bl true, V.ref x]) := upd_same
    generalize upd A1 p (.lst [V.non, V.int 5, V.str "ab", V.ref d0, V.bl true, V.ref x]) = A2 at y2 j2 ⊢
    have y12 := y1.trans y2
    have r2 := rj.ex y12
    have p0 := fresh_back y1 hp
    have bd : nt (hid a b A2) d0 = some (.dK []) := nt_of (by rw [hid_ne (rj.s.nea hd0) (rj.s.neb hd0)]; exact y2 _ _ j1) fun ps z => nomatch z
    have bp : nt (hid a b A2) p = some (.lst [V.non, V.int 5, V.str "ab", V.ref d0, V.bl true, V.ref x]) := nt_of (by rw [hid_ne (rj.s.nea p0) (rj.s.neb p0)]; exact j2) fun ps z => nomatch z
    have odd : ∀ v ∈ [V.non, V.int 5, V.str "ab", V.ref d0, V.bl true, V.ref x], Lk K (nt (hid a b A2)) v false := fun v hv => by
      simp only [List.mem_cons, List.not_mem_nil, or_false] at hv
      rcases hv with rfl | rfl | rfl | rfl | rfl | rfl
      · exact lk_dp .non
      · exact lk_dp (.int 5)
      · exact lk_dp (.str _)
      · exact lk_dict bd
      · exact lk_dp (.bl true)
      · obtain ⟨dxp, kdp, hx⟩ := (bP.ex r2.e).o
        exact ⟨.ref C, fun H' e => .inl (.base (.ins (e _ _ (nt_of hx fun ps z => nomatch z)) ICP.cl ICP.ha ICP.hn ICP.ht ICP.hm)), ICP.n1⟩
    refine ⟨p, rfl, ⟨_, SqL.of j2⟩, fun D hD0 => ?_⟩
    have Da := r2.s.nea hD0
    have Db := r2.s.neb hD0
    have Dn : ∀ z o, nt (hid a b A2) z = some o → z ≠ D := fun z o hz e => by
      have := hid_ex _ _ (nt_le _ _ hz)
      rw [e, hD0] at this
      cases this
    have rA : RS T a b A2 (k3 + 1 + vs4.length) A2 := ⟨Ex.refl _, r2.s, r2.t⟩
    refine lc_list (xs := [V.non, V.int 5, V.str "ab", V.ref d0, V.bl true, V.ref x]) (fun i G => RS T a b A2 (k3 + 1 + vs4.length) G ∧ G D = some (.lst ((List.replicate i true).map V.bl))) ?_ (fun i G _ q => SqL.of (hid_ex _ _ (nt_le _ _ (q.1.e _ _ bp)))) ?_ ?_
    · exact ⟨rA.ex (Ex.new hD0), upd_same⟩
    · rintro i v G hv ⟨rG, hG⟩
      have il := (List.getElem?_eq_some_iff.mp hv).1
      have hv1 := odd v (mem_of_get hv)
      refine ⟨rfl, rG.t, fun A6 eN t6 => ?_⟩
      have r6 := rG.N eN t6
      have hG6 : A6 D = some (.lst ((List.replicate i true).map V.bl)) := eN _ _ hG fun ps z => nomatch z
      have embN : Ex (nt (hid a b H)) (nt (hid a b A6)) := Ex.trans r2.e r6.e
      refine ⟨_, rfl, _, rfl, x, wb, lw, pi, po, n, ts, is, os, v, rfl, bP.ex (Ex.trans embN (nt_le.trans hid_ex)), hWb.n1, htok, htn, htz, hdr, .inl ⟨hv1.ex (Ex.trans r6.e (nt_le.trans hid_ex)), fun A8 dd e8 h0 h1 => .inr ⟨rfl, dd, _, rfl, h1, fun p8 hp8 => ?_⟩⟩⟩
      have v2 := Ex.new (o := .tup [V.str "ways", V.int (0 : Nat)]) hp8
      have i2 : upd A8 p8 (.tup [V.str "ways", V.int (0 : Nat)]) p8 = some (.tup [V.str "ways", V.int (0 : Nat)]) := upd_same
      generalize upd A8 p8 (.tup [V.str "ways", V.int (0 : Nat)]) = A9 at v2 i2 ⊢
      refine ⟨by show 2 ≤ sizeLine; decide, fun p10 hp10 => ?_⟩
      have v3 := Ex.new (o := .tup [V.str "ways", V.int 0]) hp10
      have i3 : upd A9 p10 (.tup [V.str "ways", V.int 0]) p10 = some (.tup [V.str "ways", V.int 0]) := upd_same
      generalize upd A9 p10 (.tup [V.str "ways", V.int 0]) = A10 at v3 i3 ⊢
      refine ⟨pairD "ways" 0, pairD "ways" 0, pairD_dp (v3 _ _ i2), pairD_dp i3, sJ _, sJ _, ?_⟩
      rw [pairD_eq]
      have e := e8.trans (v2.trans v3)
      have hG10 := e _ _ hG6
      refine ⟨_, hG10, by rw [List.length_map, List.length_replicate]; exact sz_m (by have : i < 6 := il; omega), (r6.ex e).mut hG10 Dn Da Db, ?_⟩
      rw [upd_same]
      show some (HO.lst ((List.replicate i true).map V.bl ++ [V.bl true])) = _
      rw [List.replicate_succ', List.map_append]
      rfl
    · rintro G ⟨rG, hG⟩
      refine ⟨D, List.replicate 6 true, rfl, SqL.of hG, ?_⟩
      have hall : (List.replicate 6 true).all id = true := rfl
      rw [hall]
      exact k G ⟨Ex.trans r2.e rG.e, rG.s.mono (by omega), rG.t⟩
end
end AA

set_option Elab.async false
set_option linter.all false
set_option maxRecDepth 100000
set_option maxHeartbeats 4000000
/-! law. -/
namespace AA
open PySem PySem.Spec PyProof.Rows L2 Evl
section
variable {P : Program} {w : World} {K : PySem.W.Frag} {mg : Str → Option Value} {base : Heap}
def spLaw10 (K : PySem.W.Frag) (T : List (Addr × Str)) : Sp := fun vs H Q _ => ∃ (s : Addr) (ns : List Int), vs = [.ref s] ∧ SqL K H s (ns.map V.int) ∧ ns.length ≤ 63 ∧ LamX.Tabs T H ∧ ∀ H', Q (.bl true) H'
abbrev nmL10 : List Str := ["_law_script", "_law_stream_here", "_law_turn", "_law_places", "_law_steps", "_law_ins", "_law_outs", "_law_part_here"]
theorem scLaw10 : FnScope nmL10 ["_law_script"] (defScope sLaw) := ⟨rfl, rfl, rfl, by decide +kernel, rfl, by decide +kernel, by decide +kernel⟩
theorem ok_law10 {f CW C CP CS CI CO fI fW fN fO fE : Addr} {fd fdI fdW fdN fdO fdE : FuncData} {T : List (Addr × Str)} (F : L2.Fun K "law" "law" sLaw f fd) (B : Bn mg) (Z : PtK P w K mg base CW C CP CS CI CO fI fW fN fO fE fdI fdW fdN fdO fdE)
    (cSt : C8.Cal P w K mg base 1 "_law_stream" (spStream K) []) (cD : C8.Cal P w K mg base 1 "_law_draw" spDraw []) (cW : C8.Cal P w K mg base 5 "_law_part" (spPart K) []) (cP : C8.Cal P w K mg base 11 "_law_passes_right" (spPasR K CW C T) []) (gC : GCal P w K mg base 11 "_law_closed_right" (spCloR K CW C T)) :
    GOk P w K mg base 12 f fd ["_law_script"] (spLaw10 K T) := by
  refine gok_of F scLaw10 (fun vs H Q E h => ?_) (fun cdv A outer s H vs Q hgd hr h => ?_)
  · obtain ⟨s, ns, rfl, _⟩ := h
    rfl
  suffices go : ∃ t, PSs (cxOf CX0 P w K mg base nmL10 "law" (defScope sLaw) f cdv A outer s H E0).nox (defBody sLaw) t ∧ t { nx := fun _ H' => Q .non H', rt := Q } (L2.start nmL10 vs) H from let ⟨t, h1, h2⟩ := go; ⟨t, h1.nox, h2⟩
  · obtain ⟨s0, ns, rfl, hS0, hns, hT, k⟩ := h
    have hr2 : Room 2 (A.deeper (envOfC "law" (defScope sLaw) s.heap.objs.size f cdv)) := hr.mono (by decide)
    have hr8 : Room 8 (A.deeper (envOfC "law" (defScope sLaw) s.heap.objs.size f cdv)) := hr.mono (by decide)
    have hgd2 : (cxOf CX0 P w K mg base nmL10 "law" (defScope sLaw) f cdv A outer s H E0).nox.A.guards = some [] := hgd
    refine ⟨_, pss_cons (ps_set (i := 1) scLaw10.nd rfl (Or.inl rfl) (C8.pe_c cSt hr (by decide) (by rfl) (pa_cons (pv 0) pa_nil)))
      (pss_cons (ps_for PassesOwn.never rfl (pi_range1 (by rfl) B.range (pa_cons pe_int pa_nil)) (pg_name (i := 2) scLaw10.nd rfl (Or.inl rfl))
        (pss_cons (ps_asg (C8.pe_c cW hr (by decide) (by rfl) (pa_cons (pv 1) (pa_cons pe_int (pa_cons pe_int (pa_cons (C8.pe_c cD hr (by decide) (by rfl) (pa_cons (pv 1) (pa_cons pe_int pa_nil))) pa_nil)))))
            (pg_tup (n := 4) rfl (pgs_cons (pg_name (i := 3) scLaw10.nd rfl (Or.inl rfl)) (pgs_cons (pg_name (i := 4) scLaw10.nd rfl (Or.inl rfl)) (pgs_cons (pg_name (i := 5) scLaw10.nd rfl (Or.inl rfl)) (pgs_cons (pg_name (i := 6) scLaw10.nd rfl (Or.inl rfl)) pgs_nil))))))
        (pss_cons (ps_set (i := 7) scLaw10.nd rfl (Or.inl rfl) (pe_make Z.M Z.GI hr8 (by rfl) Z.T.mgC Z.bI .nil pass0 (pa_cons (pv 3) (pa_cons (pv 4) (pa_cons (pv 5) (pa_cons (pv 6) pa_nil))))))
        (pss_cons (ps_if (pt_not (pt_val (C8.pe_c cP hr (by decide) (by rfl) (pa_cons (pv 1) (pa_cons (pv 7) (pa_cons (pv 4) (pa_cons (pv 5) (pa_cons (pv 6) pa_nil)))))))) (pss_one (ps_ret pe_bl)) pss_nil)
        (pss_cons (ps_if (pt_not (pt_val (pe_g gC hgd2 hr (by decide) (by rfl) (pa_cons (pv 1) (pa_cons (pv 7) (pa_cons (pv 3) (pa_cons (pv 4) (pa_cons (pv 5) (pa_cons (pv 6) pa_nil))))))))) (pss_one (ps_ret pe_bl)) pss_nil)
        (pss_one (ps_if (pt_not (pt_cmpR (op_eqV Z.GE Z.bE Z.hE Z.iE hr2) (pv 7) (pe_make Z.M Z.GI hr8 (by rfl) Z.T.mgC Z.bI .nil pass0 (pa_cons (pv 3) (pa_cons (pv 4) (pa_cons (pv 5) (pa_cons (pv 6) pa_nil))))) (nomark _))) (pss_one (ps_ret pe_bl)) pss_nil)))))))
      (pss_one (ps_ret pe_bl))), ?_⟩
    refine ⟨_, rfl, s0, ns, rfl, hS0, hns, fun H0 a b e0 ha hb hst => ?_⟩
    refine ⟨(4 : Int), rfl, by decide, by decide, for_range (lo := 0) (n := ((4 : Int)).toNat) (fun i σ G => ∃ (x2 x3 x4 x5 x6 x7 : Option V), σ = [some (.ref s0), some (.ref a), x2, x3, x4, x5, x6, x7] ∧ ∃ m, m ≤ 5040000 * i ∧ SAt G a b m ∧ LamX.Tabs T G) ?_ ?_ ?_⟩
    · exact ⟨none, none, none, none, none, none, rfl, 0, Nat.le_refl _, hst, hT.ext e0⟩
    · rintro i σ G hi ⟨x2, x3, x4, x5, x6, x7, rfl, m, hm, hSG, hTG⟩
      have hi5 : i < 4 := hi
      refine ⟨_, rfl, _, rfl, a, b, m, 4, rfl, hSG, by omega, by decide, by decide, fun H1 y e1 s1 y0 y1 => ?_⟩
      have t1 := tabs_S hTG hSG e1
      refine ⟨a, b, m + 1, 6, 14, y, rfl, s1, by omega, by decide, by decide, by decide, by decide, fun H2 p l li lo kk vs ss is os e2 s2 hp0 hl0 hi0 ho0 hp hl hD hli hlo hWb hdr hk6 hlen => ?_⟩
      refine ⟨p, _, rfl, SqT.of hp, rfl, _, _, rfl, _, _, rfl, _, _, rfl, _, _, rfl, rfl, ?_⟩
      have t2 := tabs_S t1 s1 e2
      have bl : hid a b H2 l = some (.lst vs) := by
        rw [hid_ne (s1.nea hl0) (s1.neb hl0)]
        exact hl
      have bi : hid a b H2 li = some (.lst (is.map V.int)) := by
        rw [hid_ne (s1.nea hi0) (s1.neb hi0)]
        exact hli
      have bo : hid a b H2 lo = some (.lst (os.map V.int)) := by
        rw [hid_ne (s1.nea ho0) (s1.neb ho0)]
        exact hlo
      have hsz : ss.length ≤ 14 := by omega
      have nl : ∀ {G' : Hp}, Ex (nt (hid a b H2)) (nt (hid a b G')) → hid a b G' l = some (.lst vs) := fun e => nt_le _ _ (e _ _ (nt_of bl fun ps z => nomatch z))
      have ni : ∀ {G' : Hp}, Ex (nt (hid a b H2)) (nt (hid a b G')) → hid a b G' li = some (.lst (is.map V.int)) := fun e => nt_le _ _ (e _ _ (nt_of bi fun ps z => nomatch z))
      have no : ∀ {G' : Hp}, Ex (nt (hid a b H2)) (nt (hid a b G')) → hid a b G' lo = some (.lst (os.map V.int)) := fun e => nt_le _ _ (e _ _ (nt_of bo fun ps z => nomatch z))
      have nD : ∀ {G' : Hp}, Ex (nt (hid a b H2)) (nt (hid a b G')) → DpAll K (tps G') vs (ss.map stD) := fun e => dpa_ex (fun z o hz => by
        obtain ⟨_, xs, rfl⟩ := tps_some hz
        exact tps_of (hid_ex _ _ (nt_le _ _ (e _ _ (nt_of (tps_in s2 _ _ hz) fun ps z => nomatch z))))) _ _ hD
      -- the part
      refine ⟨_, rfl, _, rfl, _, rfl, _, rfl, fun x dx x0 dx0 ne => part_good x0 dx0 hWb.n1 (.inl (SqL.of hl)) (rdall_st (dpa_ex tps_le _ _ hD) hWb.ok) hWb.nd (by omega) (.inl (SqL.of hli)) (.inl (SqL.of hlo)) hdr fun H3 wb lw pi po ts e3 hP w0 lw0 pi0 po0 pm srs => ⟨rfl, ?_⟩⟩
      have s3 := s2.ex e3
      have e23 : Ex (nt (hid a b H2)) (nt (hid a b H3)) := nt_mono (hid_mono e3)
      have hPS := hP.hidS s3 (off_of s2 x0 w0 lw0 pi0 po0)
      have tnd : ts.Nodup := pm.symm.nodup hWb.nd
      have tmem : ∀ s, s ∈ ts ↔ s ∈ ss := fun s => pm.mem_iff
      refine ⟨_, rfl, _, rfl, _, rfl, _, rfl, _, rfl, a, b, m + 1 + 20000, x, wb, lw, pi, po, l, li, lo, kk, vs, ss, ts, is, os, rfl, by omega, t2.ext e3, s3, hPS, tnd, tmem, nl e23, ni e23, no e23, nD e23, hk6, hWb.ok, hsz, hdr, fun H4 r4 => ⟨_, rfl, iteF ?_⟩⟩
      have e24 := Ex.trans e23 r4.e
      have hPS4 : PtL K CW C (nt (hid a b H4)) x wb lw pi po kk ts is os := hPS.nt.ex r4.e
      refine ⟨_, rfl, _, rfl, _, rfl, _, rfl, _, rfl, _, rfl, a, b, m + 1 + 20000 + 5000000, x, wb, lw, pi, po, l, li, lo, kk, vs, ss, ts, is, os, rfl, by omega, r4.t, r4.s, hPS4.ex nt_le, tnd, tmem, nl e24, ni e24, no e24, nD e24, hWb, hsz, hdr, fun H5 r5 => ⟨_, rfl, iteF ?_⟩⟩
      have e25 := Ex.trans e24 r5.e
      have hPS5 : PtL K CW C H5 x wb lw pi po kk ts is os := hPS4.ex (Ex.trans r5.e (nt_le.trans hid_ex))
      -- as it was
      refine ⟨_, rfl, _, rfl, _, rfl, _, rfl, _, rfl, fun y dy y0 dy0 ne => part_good y0 dy0 hWb.n1 (.inl (SqL.of (hid_ex _ _ (nl e25)))) (rdall_st (dpa_ex tps_le _ _ (nD e25)) hWb.ok) hWb.nd (by omega) (.inl (SqL.of (hid_ex _ _ (ni e25)))) (.inl (SqL.of (hid_ex _ _ (no e25)))) hdr fun H6 wb2 lw2 pi2 po2 ts2 e6 hP2 _ _ _ _ pm2 srs2 => ⟨rfl, ?_⟩⟩
      obtain rfl : ts2 = ts := srs_uniq srs2 srs (pm2.trans pm.symm)
      have hP6 := hPS5.ex e6
      obtain ⟨dxa, kda, hxa⟩ := hP6.o
      obtain ⟨dxb, kdb, hxb⟩ := hP2.o
      refine ⟨x, dxa, _, .ref C, rfl, hxa, .ins hxb, by simp [PySem.W.notFirst], x, .ref y, kk, ts2, is, os, rfl, hP6.at, .inr ⟨y, kk, ts2, is, os, rfl, hP2.at, fun H7 e7 => ?_⟩⟩
      rw [decide_eq_true (rfl : kk = kk), decide_eq_true (rfl : ts2 = ts2), decide_eq_true (rfl : is = is), decide_eq_true (rfl : os = os)]
      have ex7 : Ex H6 H7 := e7
      refine ⟨_, rfl, _, rfl, iteF ?_⟩
      exact ⟨_, _, _, _, _, _, rfl, _, by omega, r5.s.ex (e6.trans ex7), r5.t.ext (e6.trans ex7)⟩
    · rintro σ G ⟨x2, x3, x4, x5, x6, x7, rfl, m, hm, hSG, hTG⟩
      exact k G
end
end AA

set_option Elab.async false
set_option linter.all false
set_option maxRecDepth 100000
set_option maxHeartbeats 4000000
/-! The end of a law that shows things and makes lambdas. -/
namespace AA
open PySem PySem.Spec PyProof.Rows L2 Evl
/-- a table of code objects that tells none -/
abbrev tabO : Obj := { cls := .none, data := .fields #[] }
/-- the script's list -/
abbrev scrO (vs : List Value) : Obj := { cls := .type "list", data := .seq vs.toArray }
/-- what the heap of a law may hold at the start -/
structure StartT (K : PySem.W.Frag) (cs : List (Addr × Addr)) (a : Addr) (H : Hp) : Prop where
  at' : ∀ b, H b = none ∨ (∃ q ∈ cs, b = q.2) ∨ b = a
  tab : ∀ q ∈ cs, H q.2 = some (.tbl #[])
  scr : H a = none ∨ (K.lookup a = none ∧ ∃ ob xs, H a = some (.frz ob (.lst xs)))
/-- the world that the law's call meets -/
structure MeetT (K : PySem.W.Frag) (mg mb : Str → Option Value) (cs : List (Addr × Addr)) (a : Addr) (vs : List Value) (h : Heap) : Prop where
  kin : K.In h
  glo : h.Ns mainGlobals mg
  bui : h.Ns builtinsNs mb
  bb : ∀ y : Str, y ≠ "__name__" → mb y = bootBuiltins y
  lim : h.NoLimit
  tab : ∀ q ∈ cs, h.get? q.2 = some tabO
  tabK : ∀ q ∈ cs, K.lookup q.2 = none
  hd : ∀ q ∈ cs, PySem.W.CodeHd h q.1 q.2
  bmod : ∃ (m : Addr) (ob : Obj), mg "__builtins__" = some (.ref m) ∧ m ≠ builtinsNs ∧ h.get? m = some ob ∧ ob.cls = .type "module" ∧ ob.dict = some builtinsNs ∧ ob.data = .plain
  scr : h.get? a = some (scrO vs)
section
variable {K : PySem.W.Frag} {mg mb : Str → Option Value} {cs : List (Addr × Addr)} {a : Addr} {vs : List Value} {h : Heap} {H : Hp}
theorem MeetT.free (M : MeetT K mg mb cs a vs h) (S : StartT K cs a H) {b : Addr} {o : Obj} (e : h.get? b = some o) (n1 : o ≠ scrO vs) (n2 : o ≠ tabO) : H b = none := by
  rcases S.at' b with z | ⟨q, hq, rfl⟩ | rfl
  · exact z
  · exact absurd (Option.some.inj (e.symm.trans (M.tab q hq))) n2
  · exact absurd (Option.some.inj (e.symm.trans M.scr)) n1
theorem MeetT.freeK (M : MeetT K mg mb cs a vs h) (S : StartT K cs a H) {b : Addr} {o : Obj} (e : K.lookup b = some o) : H b = none := by
  rcases S.at' b with z | ⟨q, hq, rfl⟩ | rfl
  · exact z
  · have := M.tabK q hq
    rw [e] at this
    cases this
  · rcases S.scr with z | ⟨z, _⟩
    · exact z
    · rw [e] at z
      cases z
theorem MeetT.ns (M : MeetT K mg mb cs a vs h) (S : StartT K cs a H) {b : Addr} {m : Str → Option Value} (n : h.Ns b m) : (hidT h H).Ns b m := by
  obtain ⟨o, es, ep, e, d, r⟩ := n
  refine ⟨o, es, ep, hidT_get e (M.free S e ?_ ?_), d, r⟩ <;>
  · intro z
    rw [z] at d
    cases d
theorem MeetT.inT (M : MeetT K mg mb cs a vs h) (S : StartT K cs a H) : K.In (hidT h H) := fun b o e => hidT_get (M.kin b o e) (M.freeK S e)
theorem MeetT.mod (M : MeetT K mg mb cs a vs h) (S : StartT K cs a H) : Mod K mg (hidT h H) :=
  ⟨M.inT S, M.ns S M.glo, ⟨mb, M.ns S M.bui, M.bb⟩, let ⟨mc, h1, h2⟩ := M.lim; ⟨mc, M.ns S h1, h2⟩⟩
theorem MeetT.tabB (M : MeetT K mg mb cs a vs h) (S : StartT K cs a H) (q : Addr × Addr) (hq : q ∈ cs) : LamX.TabB (hidT h H) mg q.1 q.2 := by
  have tq := M.tab q hq
  refine ⟨?_, ?_, ?_⟩
  · obtain ⟨o, us, g1, g2, g3, g4, g5, g6, g7, e, r1, r2, r3, rest⟩ := M.hd q hq
    refine ⟨o, us, g1, g2, g3, g4, g5, g6, g7, hidT_get e (M.free S e (fun z => ?_) fun z => ?_), r1, r2, r3, rest⟩
    · rw [z] at r2
      cases r2
    · rw [z] at r2
      cases r2
      simp at r3
  · obtain ⟨m, ob, b1, b2, b3, b4, b5, b6⟩ := M.bmod
    refine ⟨m, ob, b1, b2, fun z => ?_, fun z => ?_, hidT_get b3 (M.free S b3 (fun z => ?_) fun z => ?_), b4, b5, b6⟩
    · obtain ⟨o, es, ep, e, d, _⟩ := M.glo
      rw [← z, b3] at e
      rw [← Option.some.inj e, b6] at d
      cases d
    · rw [z, tq] at b3
      rw [← Option.some.inj b3] at b6
      cases b6
    · rw [z] at b6
      cases b6
    · rw [z] at b6
      cases b6
  · intro z
    obtain ⟨o, es, ep, e, d, _⟩ := M.glo
    rw [z, tq] at e
    rw [← Option.some.inj e] at d
    cases d
end
section
variable {P : Program} {w : World} {K : PySem.W.Frag} {mg mb : Str → Option Value} {k : Nat} {fa a : Addr} {fd : FuncData} {x : Str} {sp : Sp} {cs : List (Addr × Addr)}
theorem gt_core {s₁ : Shared} {vs : List Value} {H : Hp} (M : MeetT K mg mb cs a vs s₁.heap) (S : StartT K cs a H) (hg : s₁.gens = #[]) (hr : Room k callerA)
    (F : ∀ bs : Heap, K.In bs → bs.Ns mainGlobals mg → (∀ q ∈ cs, LamX.TabB bs mg q.1 q.2) → GOk P w K mg bs k fa fd [x] sp)
    (hbind : ∀ (s : Shared) (u : Value), BindsTo s fd ⟨[u], []⟩ [(x, u)]) (hok : HOk P w H s₁.heap) (hsp : sp [.ref a] H (fun v _ => v = .bl true) E0) :
    codeAny (model P w) callerA (.call (.ref fa) ⟨[.ref a], []⟩) (fun r s' => r = .ok (.ret (.bool true)) ∧ (OldK s₁.heap s'.heap ∧ s'.os = s₁.os ∧ AllBare s'.gens)) s₁ := by
  have no : ∀ b : Addr, b ∉ ([] : List Addr) := fun b z => nomatch z
  have e0 : Env0 P w K mg (hidT s₁.heap H) callerA [] s₁ H :=
    ⟨rfl, M.mod S, fun b o e => of_hidT e, Nat.le_of_eq (hidT_size _ _), trivial, fun b z => absurd z (no b), hok, .of_eq hg⟩
  have G := F _ (M.inT S) (M.ns S M.glo) (M.tabB S)
  refine codeAny_mono (G.run callerA [] s₁ H ⟨[.ref a], []⟩ [.ref a] [.ref a] _ rfl hr e0 (hbind s₁ (.ref a)) (.cons rfl .nil) hsp) ?_
  intro r s' z
  rcases r with e | fl
  · exact False.elim z
  cases fl with
  | next => exact False.elim z
  | brk => exact False.elim z
  | cont => exact False.elim z
  | ret u =>
    obtain ⟨v, H', os, bare, un, hok', r', q⟩ := z
    cases (show v = .bl true from q)
    cases (show u = Value.bool true from r')
    -- a table grows
    have grow : ∀ p ∈ cs, ∃ more : Array Value, s'.heap.get? p.2 = some { cls := .none, data := .fields more } := fun p hp => by
      obtain ⟨more, z⟩ := un.tbls p.2 #[] (S.tab p hp)
      exact ⟨_, hok' p.2 _ z⟩
    -- all else stands
    have stay : ∀ b o, s₁.heap.get? b = some o → (∃ p ∈ cs, b = p.2) ∨ s'.heap.get? b = some o := fun b o e => by
      rcases S.at' b with z | z | rfl
      · exact .inr (un.keep b o e z (no b) (no b))
      · exact .inl z
      · rcases S.scr with z | ⟨_, ob, xs, z⟩
        · exact .inr (un.keep b o e z (no b) (no b))
        · obtain ⟨e1, _⟩ := hok b _ z
          obtain ⟨e2, _⟩ := hok' b _ (un.frzs b ob _ z)
          rw [e] at e1
          cases e1
          exact .inr e2
    refine ⟨rfl, ⟨?_, ?_⟩, os, bare⟩
    · intro b o e
      rcases stay b o e with ⟨p, hp, rfl⟩ | z
      · obtain ⟨more, hm⟩ := grow p hp
        have tp := M.tab p hp
        rw [e] at tp
        cases tp
        refine .inr (.inl ⟨((M.hd p hp).tab e).isCodeTable, rfl, #[], more, rfl, ?_⟩)
        rw [Array.empty_append]
        exact hm
      · exact .inl z
    · intro b o e
      rcases stay b o e with ⟨p, hp, rfl⟩ | z
      · obtain ⟨more, hm⟩ := grow p hp
        exact ⟨_, hm⟩
      · exact ⟨o, z⟩
open Classical in
/-- the heap at the start -/
noncomputable def startH (K : PySem.W.Frag) (cs : List (Addr × Addr)) (a : Addr) (vs : List Value) (ns : List Int) : Hp := fun b =>
  if (∃ q ∈ cs, b = q.2) then some (.tbl #[]) else if b = a ∧ K.lookup a = none then some (.frz (scrO vs) (.lst (ns.map V.int))) else none
theorem gt_call {s₁ : Shared} {vs : List Value} {ns : List Int} (M : MeetT K mg mb cs a vs s₁.heap) (hg : s₁.gens = #[]) (hi : IntsAre vs ns) (hl : ns.length ≤ sizeLine) (hr : Room k callerA)
    (F : ∀ bs : Heap, K.In bs → bs.Ns mainGlobals mg → (∀ q ∈ cs, LamX.TabB bs mg q.1 q.2) → GOk P w K mg bs k fa fd [x] sp)
    (hbind : ∀ (s : Shared) (u : Value), BindsTo s fd ⟨[u], []⟩ [(x, u)])
    (hsp : ∀ H : Hp, (∀ q ∈ cs, H q.2 = some (.tbl #[])) → SqL K H a (ns.map V.int) → sp [.ref a] H (fun v _ => v = .bl true) E0) :
    codeAny (model P w) callerA (.call (.ref fa) ⟨[.ref a], []⟩) (fun r s' => r = .ok (.ret (.bool true)) ∧ (OldK s₁.heap s'.heap ∧ s'.os = s₁.os ∧ AllBare s'.gens)) s₁ := by
  have an : ¬ ∃ q ∈ cs, a = q.2 := fun ⟨q, hq, e⟩ => by
    have z := M.tab q hq
    rw [← e, M.scr] at z
    cases z
  have lv := hi.length
  have lm : (ns.map V.int).length ≤ sizeLine := by
    rw [List.length_map]
    exact hl
  have T1 : ∀ q ∈ cs, startH K cs a vs ns q.2 = some (.tbl #[]) := fun q hq => if_pos ⟨q, hq, rfl⟩
  have A1 : K.lookup a = none → startH K cs a vs ns a = some (.frz (scrO vs) (.lst (ns.map V.int))) := fun z => (if_neg an).trans (if_pos ⟨rfl, z⟩)
  have A2 : K.lookup a ≠ none → startH K cs a vs ns a = none := fun z => (if_neg an).trans (if_neg fun y => z y.2)
  have N1 : ∀ b, ¬ (∃ q ∈ cs, b = q.2) → b ≠ a → startH K cs a vs ns b = none := fun b h1 h2 => (if_neg h1).trans (if_neg fun y => h2 y.1)
  have S : StartT K cs a (startH K cs a vs ns) := by
    refine ⟨fun b => ?_, T1, ?_⟩
    · by_cases h1 : ∃ q ∈ cs, b = q.2
      · exact .inr (.inl h1)
      · by_cases h2 : b = a
        · exact .inr (.inr h2)
        · exact .inl (N1 b h1 h2)
    · by_cases h1 : K.lookup a = none
      · exact .inr ⟨h1, _, _, A1 h1⟩
      · exact .inl (A2 h1)
  refine gt_core M S hg hr F hbind (fun b u z => ?_) (hsp _ T1 ?_)
  · by_cases h1 : ∃ q ∈ cs, b = q.2
    · obtain ⟨q, hq, rfl⟩ := h1
      rw [T1 q hq] at z
      cases z
      exact M.tab q hq
    · by_cases h2 : b = a
      · subst h2
        by_cases h3 : K.lookup b = none
        · rw [A1 h3] at z
          cases z
          exact ⟨M.scr, lm, vs, _, vals_ints hi, M.scr⟩
        · rw [A2 h3] at z
          cases z
      · rw [N1 b h1 h2] at z
        cases z
  · cases hk : K.lookup a with
    | none => exact .inl (.inr ⟨_, A1 hk⟩)
    | some o =>
      have e := (M.kin a o hk).symm.trans M.scr
      cases e
      exact .inr ⟨_, vs.toArray, _, hk, rfl, rfl, rfl, by rw [List.size_toArray, lv]; exact hl, by simpa using vals_ints hi⟩
/-- what is known of a law that shows things, at the head's heap -/
def LawAtG (l : PySem.W.OpenLaw) (w : World) (K : PySem.W.Frag) (k n : Nat) (x : Str) (mg : Str → Option Value) (fa : Addr) (h : Heap) : Prop :=
  ∃ (fd : FuncData) (cs : List (Addr × Addr)) (sp : Sp), ((∀ q ∈ cs, h.get? q.2 = some tabO) ∧ (∀ q ∈ cs, K.lookup q.2 = none) ∧ ∀ q ∈ cs, PySem.W.CodeHd h q.1 q.2) ∧ (∀ (s : Shared) (u : Value), BindsTo s fd ⟨[u], []⟩ [(x, u)]) ∧
    (∀ (H : Hp) (a : Addr) (ns : List Int), ns.length ≤ n → (∀ q ∈ cs, H q.2 = some (.tbl #[])) → SqL K H a (ns.map V.int) → sp [.ref a] H (fun v _ => v = .bl true) E0) ∧
    ∀ bs : Heap, K.In bs → bs.Ns mainGlobals mg → (∀ q ∈ cs, LamX.TabB bs mg q.1 q.2) → GOk l.prog w K mg bs k fa fd [x] sp
theorem gt_walk {l : PySem.W.OpenLaw} {n : Nat} {q : Program} {loose : List Str} {XP : (Str → Option Value) → Heap → Prop} {YP : World → Heap → Prop} {d : DefRec} {KK : Params → PySem.W.Frag} (hn : l.most = some n) (hn2 : n ≤ sizeLine) (hdf : d.params.defaults = []) (hr : Room k callerA)
    (hY : ∀ (w : World) (h : Heap), YP w h → (KK w.params).In h) (F : ∀ (w : World) (mg : Str → Option Value) (fa : Addr) (h : Heap), YP w h → (KK w.params).In h → h.Ns mainGlobals mg → mg d.name = some (.ref fa) → LawAtG l w (KK w.params) k n x mg fa h) :
    PySem.W.WalkO q loose XP YP l.row.toRowW d [] (fun f vs => PySem.call f vs) := by
  refine Att.attach_call hn hdf fun w s₀ s₁ mg mb fa o pm cd doc a vs ns G Y ho hd hcd hmg hobj hints hlen hg => ?_
  obtain ⟨fd, cs, sp, ⟨t1, t2, t3⟩, hb, hsp, hF⟩ := F w mg fa _ Y (hY w _ Y) G.T.g hmg
  exact gt_call ⟨hY w _ Y, G.T.g, G.T.b, G.T.builtins, G.T.nolimit, t1, t2, t3, G.T.bmain, hobj⟩ hg hints (Nat.le_trans hlen hn2) hr hF hb fun H hT hS => hsp H a ns hlen hT hS
end
end AA

set_option Elab.async false
set_option linter.all false
set_option maxRecDepth 100000
set_option maxHeartbeats 4000000
/-! All that stands behind the top. -/
namespace AA
open PySem PySem.Spec PyProof.Rows L2 Evl
/-- a def of the module as it stands behind the top -/
structure GFn (K : PySem.W.Frag) (x : Str) (st : Stmt) (f : Addr) (fd : FuncData) : Prop where
  a : PySem.W.nsIn K mainGlobals x = some (some (.ref f))
  F : L2.Fun K x x st f fd
theorem gfn {K : PySem.W.Frag} {x : Str} {st : Stmt} {f : Addr} {oc : Value} {od an : Option Addr} {osl : Array (Option Value)} {kV doc pm cdv ct : Value} (a : PySem.W.nsIn K mainGlobals x = some (some (.ref f)))
    (l : K.lookup f = some ⟨oc, od, .func (PySem.W.fnOf x x (defArgs st) (defBody st) (defScope st) .none kV doc pm an cdv ct), osl⟩) (c : PySem.W.codeIn K cdv x = true) (k : PySem.W.keepIn K (.ref f) = true) : ∃ f fd, GFn K x st f fd := ⟨_, _, a, fun_mk (st := st) l c k⟩
theorem gfnc {K : PySem.W.Frag} {x : Str} {st : Stmt} {f : Addr} {od an : Option Addr} {osl : Array (Option Value)} {kV doc pm cdv ct : Value} (a : PySem.W.nsIn K mainGlobals x = some (some (.ref f)))
    (l : K.lookup f = some ⟨.type "function", od, .func (PySem.W.fnOf x x (defArgs st) (defBody st) (defScope st) .none kV doc pm an cdv ct), osl⟩) (c : PySem.W.codeIn K cdv x = true) (k : PySem.W.keepIn K (.ref f) = true) : ∃ f fd, GFn K x st f fd ∧ FnV K f := ⟨_, _, ⟨a, fun_mk (st := st) l c k⟩, _, _, _, l⟩
structure MFn (K : PySem.W.Frag) (C : Addr) (x q : Str) (st : Stmt) (f : Addr) (fd : FuncData) : Prop where
  a : PySem.W.findIn K (.ref C) x = some (some (.ref f))
  i : PySem.W.isFn K (.ref f) = true
  F : L2.Fun K x q st f fd
theorem mfn {K : PySem.W.Frag} {C : Addr} {x q : Str} {st : Stmt} {f : Addr} {oc : Value} {od an : Option Addr} {osl : Array (Option Value)} {kV doc pm cdv ct : Value} (a : PySem.W.findIn K (.ref C) x = some (some (.ref f))) (i : PySem.W.isFn K (.ref f) = true)
    (l : K.lookup f = some ⟨oc, od, .func (PySem.W.fnOf x q (defArgs st) (defBody st) (defScope st) .none kV doc pm an cdv ct), osl⟩) (c : PySem.W.codeIn K cdv q = true) (k : PySem.W.keepIn K (.ref f) = true) : ∃ f fd, MFn K C x q st f fd := ⟨_, _, a, i, fun_mk (st := st) l c k⟩
structure BnK (K : PySem.W.Frag) : Prop where
  abs : PySem.W.nsIn K mainGlobals "abs" = some none
  int : PySem.W.nsIn K mainGlobals "int" = some none
  len : PySem.W.nsIn K mainGlobals "len" = some none
  list : PySem.W.nsIn K mainGlobals "list" = some none
  tuple : PySem.W.nsIn K mainGlobals "tuple" = some none
  dict : PySem.W.nsIn K mainGlobals "dict" = some none
  bool : PySem.W.nsIn K mainGlobals "bool" = some none
  range : PySem.W.nsIn K mainGlobals "range" = some none
  enumerate : PySem.W.nsIn K mainGlobals "enumerate" = some none
  isinstance : PySem.W.nsIn K mainGlobals "isinstance" = some none
  all : PySem.W.nsIn K mainGlobals "all" = some none
  zip : PySem.W.nsIn K mainGlobals "zip" = some none
  sorted : PySem.W.nsIn K mainGlobals "sorted" = some none
  max : PySem.W.nsIn K mainGlobals "max" = some none
  sum : PySem.W.nsIn K mainGlobals "sum" = some none
  repr : PySem.W.nsIn K mainGlobals "repr" = some none
  min : PySem.W.nsIn K mainGlobals "min" = some none
  st : PySem.W.nsIn K mainGlobals "set" = some none
/-- what stands of a class of the program -/
structure ClsK (K : PySem.W.Frag) (C : Addr) (nm : Str) : Prop where
  aC : PySem.W.nsIn K mainGlobals nm = some (some (.ref C))
  pg : PySem.W.plainGet K C Str.empty = true
  hd : PySem.W.hasDictIn K C = true
  po : PySem.W.plainOver K C = true
  sa : PySem.W.findIn K (.ref C) "__setattr__" = some (some (.builtin "object.__setattr__"))
  mkc : PySem.W.makesIn K C = true
  kc : PySem.W.keepIn K (.ref C) = true
  ha : PySem.W.findIn K (.ref C) "__class__" = some (some (.builtin "object.__class__"))
  hn : PySem.W.specialIn K (.builtin "object.__class__") "__get__" = some (some (.builtin "getset_descriptor.__get__"))
  ht : PySem.W.takesIn K (.builtin "object.__class__") = some true
  hm : PySem.W.mroIn K C (.type "object") = some true
  n1 : PySem.W.kitAny K (.ref C) [.type "list", .type "tuple"] = some false
  n2 : PySem.W.kitOne K (.ref C) (.type "dict") = some false
  n3 : PySem.W.kitOne K (.ref C) (.type "bool") = some false
  n4 : PySem.W.kitAny K (.ref C) [.type "list", .type "tuple", .type "dict"] = some false
  cc : PySem.W.kitOne K (.ref C) (.ref C) = some true
  ne : PySem.W.findIn K (.ref C) "__ne__" = some (some (.builtin "object.__ne__"))
  ni : PySem.W.kitOne K (.ref C) (.type "int") = some false
structure WebN (K : PySem.W.Frag) (C : Addr) : Prop where
  nP : PySem.W.findIn K (.ref C) "_places" = some none
  nS : PySem.W.findIn K (.ref C) "_steps" = some none
  nK : PySem.W.findIn K (.ref C) "known" = some none
structure PtN (K : PySem.W.Frag) (C : Addr) : Prop where
  nW : PySem.W.findIn K (.ref C) "_web" = some none
  nI : PySem.W.findIn K (.ref C) "_ins" = some none
  nO : PySem.W.findIn K (.ref C) "_outs" = some none
  nK : PySem.W.findIn K (.ref C) "known" = some none
structure BadK (K : PySem.W.Frag) (x m : Str) (CB fI : Addr) : Prop where
  gC : PySem.W.nsIn K mainGlobals x = some (some (.ref CB))
  ox : OexC K CB
  xf : XfC K CB
  no : PySem.W.findIn K (.ref CB) m = some none
  tC : PySem.W.typeIn K (.ref fI) = some (.type "function")
/-- a def that makes lambdas -/
structure LFn (K : PySem.W.Frag) (x : Str) (st : Stmt) (f : Addr) (fd : FuncData) (c PT : Addr) : Prop where
  a : PySem.W.nsIn K mainGlobals x = some (some (.ref f))
  L : FunC K x st f fd c
  F : L2.Fun K x x st f fd
  hd : PySem.W.codeHdIn K c PT = true
theorem lfn {K : PySem.W.Frag} {x : Str} {st : Stmt} {f c PT : Addr} {oc : Value} {od an : Option Addr} {osl : Array (Option Value)} {kV doc pm ct : Value} (a : PySem.W.nsIn K mainGlobals x = some (some (.ref f)))
    (l : K.lookup f = some ⟨oc, od, .func (PySem.W.fnOf x x (defArgs st) (defBody st) (defScope st) .none kV doc pm an (.ref c) ct), osl⟩) (hc : PySem.W.codeIn K (.ref c) x = true) (k : PySem.W.keepIn K (.ref f) = true) (hd : PySem.W.codeHdIn K c PT = true) :
    ∃ f fd c, LFn K x st f fd c PT := ⟨_, _, _, a, ⟨⟨_, _, _, _, _, _, _, _, rfl, l, hc⟩, k⟩, fun_mk (st := st) l hc k, hd⟩
theorem eq_prt {P : Program} {w : World} {K : PySem.W.Frag} {mg : Str → Option Value} {base : Heap} {f CW C : Addr} {fd : FuncData} (GE : FnOk P w K mg base CX0 2 f fd ["self", "other"] (spPEq K CW C)) : FnOk P w K mg base CX0 2 f fd ["self", "other"] (spEq (PrtR K CW C)) := by
  have key : ∀ vs H Q E, spEq (PrtR K CW C) vs H Q E → spPEq K CW C vs H Q E := fun vs H Q E h => by
    obtain ⟨a, b, rfl, ⟨rfl, n, ss, is, os, hp⟩, k⟩ := h
    refine ⟨a, .ref a, n, ss, is, os, rfl, hp, .inr ⟨a, n, ss, is, os, rfl, hp, fun H' e => ?_⟩⟩
    rw [decide_eq_true (rfl : n = n), decide_eq_true (rfl : ss = ss), decide_eq_true (rfl : is = is), decide_eq_true (rfl : os = os)]
    exact k H' e
  exact ⟨fun vs H Q E h => GE.len _ _ _ _ (key _ _ _ _ h), fun A outer s H args us vs Q E r e b v h => GE.run A outer s H args us vs Q E r e b v (key _ _ _ _ h)⟩
theorem all_mk {l : PySem.W.OpenLaw} {w : World} {K : PySem.W.Frag} {h : Heap} {mg : Str → Option Value} {fa CW C CP CS CI CO CD CY P1 P2 : Addr} (X : K.In h) (G : h.Ns mainGlobals mg) (hfa : mg "law" = some (.ref fa)) (t1 : h.get? P1 = some tabO) (t2 : h.get? P2 = some tabO) (n1 : K.lookup P1 = none) (n2 : K.lookup P2 = none) (n12 : P1 ≠ P2)
    (bk : BnK K) (cw : ClsK K CW "Web") (cp : ClsK K C "Part") (wn : WebN K CW) (pn : PtN K C) (ex : ExmK K CD CY)
    (hsIsInteger : ∃ f fd, GFn K "is_integer" sIsInteger f fd)
    (hsIsList : ∃ f fd, GFn K "is_list" sIsList f fd)
    (hsReadStep : ∃ f fd, GFn K "read_step" sReadStep f fd)
    (hsReadSteps : ∃ f fd, GFn K "read_steps" sReadSteps f fd)
    (hsFirstWrong : ∃ f fd, GFn K "first_wrong" sFirstWrong f fd)
    (hsReadWay : ∃ f fd, GFn K "read_way" sReadWay f fd)
    (hsReadWays : ∃ f fd, GFn K "read_ways" sReadWays f fd)
    (hsClosedSteps : ∃ f fd, GFn K "closed_steps" sClosedSteps f fd)
    (hsClosed : ∃ f fd, GFn K "closed" sClosed f fd)
    (hsCheckDoor : ∃ f fd, GFn K "check_door" sCheckDoor f fd)
    (hsReadWalk : ∃ f fd, GFn K "read_walk" sReadWalk f fd)
    (hsIsPass : ∃ f fd, GFn K "is_pass" sIsPass f fd)
    (hsStream : ∃ f fd, GFn K "_law_stream" sStream f fd)
    (hsDraw : ∃ f fd, GFn K "_law_draw" sDraw f fd ∧ FnV K f)
    (hsPick : ∃ f fd, GFn K "_law_pick" sPick f fd)
    (hsMixed : ∃ f fd, GFn K "_law_mixed" sMixed f fd)
    (hsSame : ∃ f fd, GFn K "_law_same" sSame f fd)
    (hsLoose : ∃ f fd, GFn K "_law_loose" sLoose f fd)
    (hsAmounts : ∃ f fd, GFn K "_law_amounts" sAmounts f fd)
    (hsStep : ∃ f fd, GFn K "_law_step" sStep f fd)
    (hsPart : ∃ f fd, GFn K "_law_part" sPart f fd)
    (hsTried : ∃ f fd, GFn K "_law_tried" sTried f fd)
    (hsIsWhole : ∃ f fd, GFn K "_law_is_whole" sIsWhole f fd)
    (hsStepOf : ∃ f fd, GFn K "_law_step_of" sStepOf f fd)
    (hsLIsPass : ∃ f fd, GFn K "_law_is_pass" sLIsPass f fd)
    (hsPasses : ∃ f fd, GFn K "_law_passes" sPasses f fd)
    (hsBent : ∃ f fd, GFn K "_law_bent" sBent f fd)
    (hsWay : ∃ f fd, GFn K "_law_way" sWay f fd)
    (hsLaw : ∃ f fd, GFn K "law" sLaw f fd)
    (hPR : ∃ f fd c, LFn K "_law_passes_right" sPassesRight f fd c P1)
    (hCR : ∃ f fd c, LFn K "_law_closed_right" sClosedRight f fd c P2)
    (h_wi : ∃ f fd, MFn K CW "__init__" "Web.__init__" sWebInit f fd)
    (h_wp : ∃ f fd, MFn K CW "places" "Web.places" sWebPlaces f fd)
    (h_ws : ∃ f fd, MFn K CW "steps" "Web.steps" sWebSteps f fd)
    (h_we : ∃ f fd, MFn K CW "__eq__" "Web.__eq__" sWebEq f fd)
    (h_pi : ∃ f fd, MFn K C "__init__" "Part.__init__" sPartInit f fd)
    (h_pw : ∃ f fd, MFn K C "web" "Part.web" sPartWeb f fd)
    (h_pn : ∃ f fd, MFn K C "ins" "Part.ins" sPartIns f fd)
    (h_po : ∃ f fd, MFn K C "outs" "Part.outs" sPartOuts f fd)
    (h_pe : ∃ f fd, MFn K C "__eq__" "Part.__eq__" sPartEq f fd)
    (h_bp : ∃ f fd, MFn K CP "__init__" "BadPlaces.__init__" sBadPlInit f fd ∧ BadK K "BadPlaces" "places" CP f)
    (h_bs : ∃ f fd, MFn K CS "__init__" "BadSteps.__init__" sBadStInit f fd ∧ BadK K "BadSteps" "index" CS f)
    (h_bi : ∃ f fd, MFn K CI "__init__" "BadIns.__init__" sBadInInit f fd ∧ BadK K "BadIns" "index" CI f)
    (h_bo : ∃ f fd, MFn K CO "__init__" "BadOuts.__init__" sBadOuInit f fd ∧ BadK K "BadOuts" "index" CO f)
    (h_bd : ∃ f fd, MFn K CD "__init__" "BadDoor.__init__" sBadDoInit f fd ∧ BadK K "BadDoor" "number" CD f)
    (h_by : ∃ f fd, MFn K CY "__init__" "BadWays.__init__" sBadWaInit f fd ∧ BadK K "BadWays" "index" CY f) :
    LawAtG l w K 12 63 "_law_script" mg fa h := by
  obtain ⟨f_sIsInteger, d_sIsInteger, g_sIsInteger⟩ := hsIsInteger
  have m_sIsInteger := PySem.W.mg_of X G g_sIsInteger.a
  have b_sIsInteger : Binds K d_sIsInteger ["thing"] [] := g_sIsInteger.F.binds fun _ _ _ _ _ _ us hl => match us, hl with | [_], _ => rfl
  obtain ⟨f_sIsList, d_sIsList, g_sIsList⟩ := hsIsList
  have m_sIsList := PySem.W.mg_of X G g_sIsList.a
  have b_sIsList : Binds K d_sIsList ["thing"] [] := g_sIsList.F.binds fun _ _ _ _ _ _ us hl => match us, hl with | [_], _ => rfl
  obtain ⟨f_sReadStep, d_sReadStep, g_sReadStep⟩ := hsReadStep
  have m_sReadStep := PySem.W.mg_of X G g_sReadStep.a
  have b_sReadStep : Binds K d_sReadStep ["places", "thing"] [] := g_sReadStep.F.binds fun _ _ _ _ _ _ us hl => match us, hl with | [_, _], _ => rfl
  obtain ⟨f_sReadSteps, d_sReadSteps, g_sReadSteps⟩ := hsReadSteps
  have m_sReadSteps := PySem.W.mg_of X G g_sReadSteps.a
  have b_sReadSteps : Binds K d_sReadSteps ["places", "things"] [] := g_sReadSteps.F.binds fun _ _ _ _ _ _ us hl => match us, hl with | [_, _], _ => rfl
  obtain ⟨f_sFirstWrong, d_sFirstWrong, g_sFirstWrong⟩ := hsFirstWrong
  have m_sFirstWrong := PySem.W.mg_of X G g_sFirstWrong.a
  have b_sFirstWrong : Binds K d_sFirstWrong ["places", "doors", "taken"] [] := g_sFirstWrong.F.binds fun _ _ _ _ _ _ us hl => match us, hl with | [_, _, _], _ => rfl
  obtain ⟨f_sReadWay, d_sReadWay, g_sReadWay⟩ := hsReadWay
  have m_sReadWay := PySem.W.mg_of X G g_sReadWay.a
  have b_sReadWay : Binds K d_sReadWay ["ins", "outs", "thing"] [] := g_sReadWay.F.binds fun _ _ _ _ _ _ us hl => match us, hl with | [_, _, _], _ => rfl
  obtain ⟨f_sReadWays, d_sReadWays, g_sReadWays⟩ := hsReadWays
  have m_sReadWays := PySem.W.mg_of X G g_sReadWays.a
  have b_sReadWays : Binds K d_sReadWays ["ins", "outs", "things"] [] := g_sReadWays.F.binds fun _ _ _ _ _ _ us hl => match us, hl with | [_, _, _], _ => rfl
  obtain ⟨f_sClosedSteps, d_sClosedSteps, g_sClosedSteps⟩ := hsClosedSteps
  have m_sClosedSteps := PySem.W.mg_of X G g_sClosedSteps.a
  have b_sClosedSteps : Binds K d_sClosedSteps ["part", "ways"] [] := g_sClosedSteps.F.binds fun _ _ _ _ _ _ us hl => match us, hl with | [_, _], _ => rfl
  obtain ⟨f_sClosed, d_sClosed, g_sClosed⟩ := hsClosed
  have m_sClosed := PySem.W.mg_of X G g_sClosed.a
  have b_sClosed : Binds K d_sClosed ["part", "ways"] [] := g_sClosed.F.binds fun _ _ _ _ _ _ us hl => match us, hl with | [_, _], _ => rfl
  obtain ⟨f_sCheckDoor, d_sCheckDoor, g_sCheckDoor⟩ := hsCheckDoor
  have m_sCheckDoor := PySem.W.mg_of X G g_sCheckDoor.a
  have b_sCheckDoor : Binds K d_sCheckDoor ["doors", "number"] [] := g_sCheckDoor.F.binds fun _ _ _ _ _ _ us hl => match us, hl with | [_, _], _ => rfl
  obtain ⟨f_sReadWalk, d_sReadWalk, g_sReadWalk⟩ := hsReadWalk
  have m_sReadWalk := PySem.W.mg_of X G g_sReadWalk.a
  have b_sReadWalk : Binds K d_sReadWalk ["web", "thing"] [] := g_sReadWalk.F.binds fun _ _ _ _ _ _ us hl => match us, hl with | [_, _], _ => rfl
  obtain ⟨f_sIsPass, d_sIsPass, g_sIsPass⟩ := hsIsPass
  have m_sIsPass := PySem.W.mg_of X G g_sIsPass.a
  have b_sIsPass : Binds K d_sIsPass ["part", "i", "j", "thing"] [] := g_sIsPass.F.binds fun _ _ _ _ _ _ us hl => match us, hl with | [_, _, _, _], _ => rfl
  obtain ⟨f_sStream, d_sStream, g_sStream⟩ := hsStream
  have m_sStream := PySem.W.mg_of X G g_sStream.a
  have b_sStream : Binds K d_sStream ["_law_script"] [] := g_sStream.F.binds fun _ _ _ _ _ _ us hl => match us, hl with | [_], _ => rfl
  obtain ⟨f_sDraw, d_sDraw, g_sDraw, vD⟩ := hsDraw
  have m_sDraw := PySem.W.mg_of X G g_sDraw.a
  have b_sDraw : Binds K d_sDraw ["_law_stream_here", "_law_many"] [] := g_sDraw.F.binds fun _ _ _ _ _ _ us hl => match us, hl with | [_, _], _ => rfl
  obtain ⟨f_sPick, d_sPick, g_sPick⟩ := hsPick
  have m_sPick := PySem.W.mg_of X G g_sPick.a
  have b_sPick : Binds K d_sPick ["_law_stream_here", "_law_things"] [] := g_sPick.F.binds fun _ _ _ _ _ _ us hl => match us, hl with | [_, _], _ => rfl
  obtain ⟨f_sMixed, d_sMixed, g_sMixed⟩ := hsMixed
  have m_sMixed := PySem.W.mg_of X G g_sMixed.a
  have b_sMixed : Binds K d_sMixed ["_law_stream_here", "_law_things"] [] := g_sMixed.F.binds fun _ _ _ _ _ _ us hl => match us, hl with | [_, _], _ => rfl
  obtain ⟨f_sSame, d_sSame, g_sSame⟩ := hsSame
  have m_sSame := PySem.W.mg_of X G g_sSame.a
  have b_sSame : Binds K d_sSame ["_law_found", "_law_due"] [] := g_sSame.F.binds fun _ _ _ _ _ _ us hl => match us, hl with | [_, _], _ => rfl
  obtain ⟨f_sLoose, d_sLoose, g_sLoose⟩ := hsLoose
  have m_sLoose := PySem.W.mg_of X G g_sLoose.a
  have b_sLoose : Binds K d_sLoose ["_law_stream_here", "_law_thing"] [] := g_sLoose.F.binds fun _ _ _ _ _ _ us hl => match us, hl with | [_, _], _ => rfl
  obtain ⟨f_sAmounts, d_sAmounts, g_sAmounts⟩ := hsAmounts
  have m_sAmounts := PySem.W.mg_of X G g_sAmounts.a
  have b_sAmounts : Binds K d_sAmounts ["_law_stream_here", "_law_way_here"] [] := g_sAmounts.F.binds fun _ _ _ _ _ _ us hl => match us, hl with | [_, _], _ => rfl
  obtain ⟨f_sStep, d_sStep, g_sStep⟩ := hsStep
  have m_sStep := PySem.W.mg_of X G g_sStep.a
  have b_sStep : Binds K d_sStep ["_law_stream_here", "_law_one", "_law_other", "_law_way_here"] [] := g_sStep.F.binds fun _ _ _ _ _ _ us hl => match us, hl with | [_, _, _, _], _ => rfl
  obtain ⟨f_sPart, d_sPart, g_sPart⟩ := hsPart
  have m_sPart := PySem.W.mg_of X G g_sPart.a
  have b_sPart : Binds K d_sPart ["_law_stream_here", "_law_most", "_law_many", "_law_way_here"] [] := g_sPart.F.binds fun _ _ _ _ _ _ us hl => match us, hl with | [_, _, _, _], _ => rfl
  obtain ⟨f_sTried, d_sTried, g_sTried⟩ := hsTried
  have m_sTried := PySem.W.mg_of X G g_sTried.a
  have b_sTried : Binds K d_sTried ["_law_ask"] [] := g_sTried.F.binds fun _ _ _ _ _ _ us hl => match us, hl with | [_], _ => rfl
  obtain ⟨f_sIsWhole, d_sIsWhole, g_sIsWhole⟩ := hsIsWhole
  have m_sIsWhole := PySem.W.mg_of X G g_sIsWhole.a
  have b_sIsWhole : Binds K d_sIsWhole ["_law_thing"] [] := g_sIsWhole.F.binds fun _ _ _ _ _ _ us hl => match us, hl with | [_], _ => rfl
  obtain ⟨f_sStepOf, d_sStepOf, g_sStepOf⟩ := hsStepOf
  have m_sStepOf := PySem.W.mg_of X G g_sStepOf.a
  have b_sStepOf : Binds K d_sStepOf ["_law_thing"] [] := g_sStepOf.F.binds fun _ _ _ _ _ _ us hl => match us, hl with | [_], _ => rfl
  obtain ⟨f_sLIsPass, d_sLIsPass, g_sLIsPass⟩ := hsLIsPass
  have m_sLIsPass := PySem.W.mg_of X G g_sLIsPass.a
  have b_sLIsPass : Binds K d_sLIsPass ["_law_steps", "_law_begin", "_law_end", "_law_thing"] [] := g_sLIsPass.F.binds fun _ _ _ _ _ _ us hl => match us, hl with | [_, _, _, _], _ => rfl
  obtain ⟨f_sPasses, d_sPasses, g_sPasses⟩ := hsPasses
  have m_sPasses := PySem.W.mg_of X G g_sPasses.a
  have b_sPasses : Binds K d_sPasses ["_law_steps", "_law_begin", "_law_end"] [] := g_sPasses.F.binds fun _ _ _ _ _ _ us hl => match us, hl with | [_, _, _], _ => rfl
  obtain ⟨f_sBent, d_sBent, g_sBent⟩ := hsBent
  have m_sBent := PySem.W.mg_of X G g_sBent.a
  have b_sBent : Binds K d_sBent ["_law_stream_here", "_law_steps", "_law_walk"] [] := g_sBent.F.binds fun _ _ _ _ _ _ us hl => match us, hl with | [_, _, _], _ => rfl
  obtain ⟨f_sWay, d_sWay, g_sWay⟩ := hsWay
  have m_sWay := PySem.W.mg_of X G g_sWay.a
  have b_sWay : Binds K d_sWay ["_law_stream_here", "_law_steps", "_law_ins", "_law_outs"] [] := g_sWay.F.binds fun _ _ _ _ _ _ us hl => match us, hl with | [_, _, _, _], _ => rfl
  obtain ⟨f_sLaw, d_sLaw, g_sLaw⟩ := hsLaw
  have m_sLaw := PySem.W.mg_of X G g_sLaw.a
  have b_sLaw : Binds K d_sLaw ["_law_script"] [] := g_sLaw.F.binds fun _ _ _ _ _ _ us hl => match us, hl with | [_], _ => rfl
  obtain ⟨f_PR, d_PR, c1, g_PR⟩ := hPR
  have m_PR := PySem.W.mg_of X G g_PR.a
  have b_PR : Binds K d_PR ["_law_stream_here", "_law_part_here", "_law_steps", "_law_ins", "_law_outs"] [] := g_PR.F.binds fun _ _ _ _ _ _ us hl => match us, hl with | [_, _, _, _, _], _ => rfl
  obtain ⟨f_CR, d_CR, c2, g_CR⟩ := hCR
  have m_CR := PySem.W.mg_of X G g_CR.a
  have b_CR : Binds K d_CR ["_law_stream_here", "_law_part_here", "_law_places", "_law_steps", "_law_ins", "_law_outs"] [] := g_CR.F.binds fun _ _ _ _ _ _ us hl => match us, hl with | [_, _, _, _, _, _], _ => rfl
  obtain ⟨f_wi, d_wi, g_wi⟩ := h_wi
  have b_wi : Binds K d_wi ["self", "places", "steps"] [] := g_wi.F.binds fun _ _ _ _ _ _ us hl => match us, hl with | [_, _, _], _ => rfl
  obtain ⟨f_wp, d_wp, g_wp⟩ := h_wp
  have b_wp : Binds K d_wp ["self"] [] := g_wp.F.binds fun _ _ _ _ _ _ us hl => match us, hl with | [_], _ => rfl
  obtain ⟨f_ws, d_ws, g_ws⟩ := h_ws
  have b_ws : Binds K d_ws ["self"] [] := g_ws.F.binds fun _ _ _ _ _ _ us hl => match us, hl with | [_], _ => rfl
  obtain ⟨f_we, d_we, g_we⟩ := h_we
  have b_we : Binds K d_we ["self", "other"] [] := g_we.F.binds fun _ _ _ _ _ _ us hl => match us, hl with | [_, _], _ => rfl
  obtain ⟨f_pi, d_pi, g_pi⟩ := h_pi
  have b_pi : Binds K d_pi ["self", "places", "steps", "ins", "outs"] [] := g_pi.F.binds fun _ _ _ _ _ _ us hl => match us, hl with | [_, _, _, _, _], _ => rfl
  obtain ⟨f_pw, d_pw, g_pw⟩ := h_pw
  have b_pw : Binds K d_pw ["self"] [] := g_pw.F.binds fun _ _ _ _ _ _ us hl => match us, hl with | [_], _ => rfl
  obtain ⟨f_pn, d_pn, g_pn⟩ := h_pn
  have b_pn : Binds K d_pn ["self"] [] := g_pn.F.binds fun _ _ _ _ _ _ us hl => match us, hl with | [_], _ => rfl
  obtain ⟨f_po, d_po, g_po⟩ := h_po
  have b_po : Binds K d_po ["self"] [] := g_po.F.binds fun _ _ _ _ _ _ us hl => match us, hl with | [_], _ => rfl
  obtain ⟨f_pe, d_pe, g_pe⟩ := h_pe
  have b_pe : Binds K d_pe ["self", "other"] [] := g_pe.F.binds fun _ _ _ _ _ _ us hl => match us, hl with | [_, _], _ => rfl
  obtain ⟨f_bp, d_bp, g_bp, k_bp⟩ := h_bp
  have b_bp : Binds K d_bp ["self", "places"] [] := g_bp.F.binds fun _ _ _ _ _ _ us hl => match us, hl with | [_, _], _ => rfl
  have T_bp : ExT K mg "BadPlaces" "places" CP f_bp := ⟨k_bp.ox, k_bp.xf, k_bp.no, PySem.W.mg_of X G k_bp.gC, g_bp.a, k_bp.tC⟩
  obtain ⟨f_bs, d_bs, g_bs, k_bs⟩ := h_bs
  have b_bs : Binds K d_bs ["self", "index"] [] := g_bs.F.binds fun _ _ _ _ _ _ us hl => match us, hl with | [_, _], _ => rfl
  have T_bs : ExT K mg "BadSteps" "index" CS f_bs := ⟨k_bs.ox, k_bs.xf, k_bs.no, PySem.W.mg_of X G k_bs.gC, g_bs.a, k_bs.tC⟩
  obtain ⟨f_bi, d_bi, g_bi, k_bi⟩ := h_bi
  have b_bi : Binds K d_bi ["self", "index"] [] := g_bi.F.binds fun _ _ _ _ _ _ us hl => match us, hl with | [_, _], _ => rfl
  have T_bi : ExT K mg "BadIns" "index" CI f_bi := ⟨k_bi.ox, k_bi.xf, k_bi.no, PySem.W.mg_of X G k_bi.gC, g_bi.a, k_bi.tC⟩
  obtain ⟨f_bo, d_bo, g_bo, k_bo⟩ := h_bo
  have b_bo : Binds K d_bo ["self", "index"] [] := g_bo.F.binds fun _ _ _ _ _ _ us hl => match us, hl with | [_, _], _ => rfl
  have T_bo : ExT K mg "BadOuts" "index" CO f_bo := ⟨k_bo.ox, k_bo.xf, k_bo.no, PySem.W.mg_of X G k_bo.gC, g_bo.a, k_bo.tC⟩
  obtain ⟨f_bd, d_bd, g_bd, k_bd⟩ := h_bd
  have b_bd : Binds K d_bd ["self", "number"] [] := g_bd.F.binds fun _ _ _ _ _ _ us hl => match us, hl with | [_, _], _ => rfl
  have T_bd : ExT K mg "BadDoor" "number" CD f_bd := ⟨k_bd.ox, k_bd.xf, k_bd.no, PySem.W.mg_of X G k_bd.gC, g_bd.a, k_bd.tC⟩
  obtain ⟨f_by, d_by, g_by, k_by⟩ := h_by
  have b_by : Binds K d_by ["self", "index"] [] := g_by.F.binds fun _ _ _ _ _ _ us hl => match us, hl with | [_, _], _ => rfl
  have T_by : ExT K mg "BadWays" "index" CY f_by := ⟨k_by.ox, k_by.xf, k_by.no, PySem.W.mg_of X G k_by.gC, g_by.a, k_by.tC⟩
  have e := hfa.symm.trans m_sLaw
  cases e
  have B : Bn mg := { abs := PySem.W.mg_none_of X G bk.abs, int := PySem.W.mg_none_of X G bk.int, len := PySem.W.mg_none_of X G bk.len, list := PySem.W.mg_none_of X G bk.list, tuple := PySem.W.mg_none_of X G bk.tuple, dict := PySem.W.mg_none_of X G bk.dict, bool := PySem.W.mg_none_of X G bk.bool, range := PySem.W.mg_none_of X G bk.range, enumerate := PySem.W.mg_none_of X G bk.enumerate, isinstance := PySem.W.mg_none_of X G bk.isinstance, all := PySem.W.mg_none_of X G bk.all, zip := PySem.W.mg_none_of X G bk.zip, sorted := PySem.W.mg_none_of X G bk.sorted, max := PySem.W.mg_none_of X G bk.max, sum := PySem.W.mg_none_of X G bk.sum, repr := PySem.W.mg_none_of X G bk.repr }
  have clW : Cls K CW := ⟨cw.pg, cw.hd, cw.po, cw.sa⟩
  have clP : Cls K C := ⟨cp.pg, cp.hd, cp.po, cp.sa⟩
  have T : WebTxt K mg CW := ⟨clW, wn.nP, wn.nS, wn.nK, PySem.W.mg_of X G cw.aC⟩
  have TPt : PtTxt K mg C := ⟨clP, pn.nW, pn.nI, pn.nO, pn.nK, PySem.W.mg_of X G cp.aC⟩
  have ICW : InsK K CW := ⟨clW, cw.ha, cw.hn, cw.ht, cw.hm, cw.n1, cw.n2, cw.n3, cw.n4⟩
  have ICP : InsK K C := ⟨clP, cp.ha, cp.hn, cp.ht, cp.hm, cp.n1, cp.n2, cp.n3, cp.n4⟩
  have kb_pass : KBinds K d_sIsPass ["part", "i", "j", "thing"] ["thing", "j", "i", "part"] revK revK := by
    obtain ⟨_, _, _, _, _, _, _, _, _, eL, _, _⟩ := id g_sIsPass.F.ex
    refine { to := fun s us ws _ hl => ?_, rel := fun h k => revK_rel h k }
    cases us with
    | cons u us => exact absurd (show (0 : Nat) = 4 from hl) (by decide)
    | nil =>
      have hw : ws.length = 4 := by
        rw [← List.length_reverse]
        exact hl
      match ws, hw with
      | [t1, j1, i1, p1], _ =>
        rw [eL]
        exact .of_eq rfl
  have kb_clo : KBinds K d_sClosed ["part", "ways"] ["ways", "part"] revK revK := by
    obtain ⟨_, _, _, _, _, _, _, _, _, eL, _, _⟩ := id g_sClosed.F.ex
    refine { to := fun s us ws _ hl => ?_, rel := fun h k => revK_rel h k }
    cases us with
    | cons u us => exact absurd (show (0 : Nat) = 2 from hl) (by decide)
    | nil =>
      have hw : ws.length = 2 := by
        rw [← List.length_reverse]
        exact hl
      match ws, hw with
      | [w1, p1], _ =>
        rw [eL]
        exact .of_eq rfl
  have bl : ∀ (s : Shared) (v : Value), BindsTo s d_sLaw ⟨[v], []⟩ [("_law_script", v)] := by
    obtain ⟨_, _, _, _, _, _, _, _, _, eL, _, _⟩ := id g_sLaw.F.ex
    intro s v
    rw [eL]
    exact .of_eq rfl
  have two : ∀ {Pr : Addr × Addr → Prop}, Pr (c1, P1) → Pr (c2, P2) → ∀ q ∈ [(c1, P1), (c2, P2)], Pr q := fun h1 h2 q hq => by
    simp only [List.mem_cons, List.not_mem_nil, or_false] at hq
    rcases hq with rfl | rfl
    · exact h1
    · exact h2
  refine ⟨d_sLaw, [(c1, P1), (c2, P2)], spLaw10 K [(P1, qP), (P2, qC)], ⟨two t1 t2, two n1 n2, two (PySem.W.codeHd_of_K X g_PR.hd) (PySem.W.codeHd_of_K X g_CR.hd)⟩, bl, ?_, fun base hb1 hb2 hTB => ?_⟩
  · intro H a ns hl hTab hS
    refine ⟨a, ns, rfl, hS, hl, fun p hp => ?_, fun _ => rfl⟩
    simp only [List.mem_cons, List.not_mem_nil, or_false] at hp
    rcases hp with rfl | rfl
    · exact LamX.TabS.nil (hTab (c1, P1) (by simp))
    · exact LamX.TabS.nil (hTab (c2, P2) (by simp))
  have TB1 := hTB (c1, P1) (by simp)
  have TB2 := hTB (c2, P2) (by simp)
  have c_sDraw := cal_of (P := l.prog) (w := w) (base := base) g_sDraw.F m_sDraw b_sDraw (ok_draw g_sDraw.F B)
  have c_sStream := cal_of (P := l.prog) (w := w) (base := base) g_sStream.F m_sStream b_sStream (ok_stream g_sStream.F B)
  have c_sPick := cal_of (P := l.prog) (w := w) (base := base) g_sPick.F m_sPick b_sPick (ok_pick g_sPick.F B c_sDraw)
  have c_sMixed := cal_of (P := l.prog) (w := w) (base := base) g_sMixed.F m_sMixed b_sMixed (ok_mixed g_sMixed.F B c_sDraw)
  have c_sAmounts := cal_of (P := l.prog) (w := w) (base := base) g_sAmounts.F m_sAmounts b_sAmounts (ok_amounts g_sAmounts.F B c_sDraw c_sPick)
  have c_sStep := cal_of (P := l.prog) (w := w) (base := base) g_sStep.F m_sStep b_sStep (ok_step g_sStep.F B c_sDraw c_sPick c_sAmounts)
  have c_sPart := cal_of (P := l.prog) (w := w) (base := base) g_sPart.F m_sPart b_sPart (ok_part g_sPart.F B (PySem.W.mg_none_of X G bk.min) c_sDraw c_sMixed c_sStep)
  have c_sLoose := cal_of (P := l.prog) (w := w) (base := base) g_sLoose.F m_sLoose b_sLoose (ok_looseB g_sLoose.F B m_sLoose b_sLoose c_sDraw 6)
  have c_sIsInteger := cal_of (P := l.prog) (w := w) (base := base) g_sIsInteger.F m_sIsInteger b_sIsInteger (ok_isIntegerV g_sIsInteger.F B)
  have c_sIsList := cal_of (P := l.prog) (w := w) (base := base) g_sIsList.F m_sIsList b_sIsList (ok_isList g_sIsList.F B)
  have c_sReadStep := cal_of (P := l.prog) (w := w) (base := base) g_sReadStep.F m_sReadStep b_sReadStep (ok_readStep g_sReadStep.F B c_sIsList)
  have c_sIsWhole := cal_of (P := l.prog) (w := w) (base := base) g_sIsWhole.F m_sIsWhole b_sIsWhole (ok_whole g_sIsWhole.F B)
  have c_sStepOf := cal_of (P := l.prog) (w := w) (base := base) g_sStepOf.F m_sStepOf b_sStepOf (ok_stepOf g_sStepOf.F B c_sIsWhole)
  have c_sLIsPass := cal_of (P := l.prog) (w := w) (base := base) g_sLIsPass.F m_sLIsPass b_sLIsPass (ok_lisPass g_sLIsPass.F B c_sStepOf)
  have c_sPasses := cal_of (P := l.prog) (w := w) (base := base) g_sPasses.F m_sPasses b_sPasses (ok_passes g_sPasses.F B)
  have c_sBent := cal_of (P := l.prog) (w := w) (base := base) g_sBent.F m_sBent b_sBent (ok_bent g_sBent.F B m_sDraw vD c_sPick)
  have c_sWay := cal_of (P := l.prog) (w := w) (base := base) g_sWay.F m_sWay b_sWay (ok_lway g_sWay.F B c_sDraw c_sPick)
  have GBP := ok_badPl (P := l.prog) (w := w) (base := base) g_bp.F T_bp
  have GBS := ok_badSt (P := l.prog) (w := w) (base := base) g_bs.F T_bs
  have GBI := ok_badIn (P := l.prog) (w := w) (base := base) g_bi.F T_bi
  have GBO := ok_badOu (P := l.prog) (w := w) (base := base) g_bo.F T_bo
  have GBD := ok_badDo (P := l.prog) (w := w) (base := base) g_bd.F T_bd
  have GBY := ok_badWa (P := l.prog) (w := w) (base := base) g_by.F T_by
  have GR := ok_readSteps (P := l.prog) (w := w) (base := base) g_sReadSteps.F B T_bs GBS b_bs c_sReadStep c_sIsList
  have GX := ok_webInit (fS := f_bs) (P := l.prog) (w := w) (base := base) g_wi.F B T T_bp GBP b_bp c_sIsInteger GR m_sReadSteps g_sReadSteps.F.kp b_sReadSteps
  have GE := ok_webEqV (P := l.prog) (w := w) (base := base) g_we.F B T ICW cw.cc
  have MW : Mk K CW f_wi := ⟨cw.mkc, g_wi.a, g_wi.i, cw.kc⟩
  have W : WbK l.prog w K mg base CW CP CS f_wi f_wp f_ws f_we d_wi d_wp d_ws d_we := { T := T, M := MW, GI := fn_calm GX, bI := b_wi, GP := ok_places g_wp.F T, bP := b_wp, mP := ⟨g_wp.a, g_wp.i, g_wp.F.kp⟩, GS := ok_steps g_ws.F B T, bS := b_ws, mS := ⟨g_ws.a, g_ws.i, g_ws.F.kp⟩, GE := GE, bE := b_we, hE := g_we.a, iE := g_we.i, hN := cw.ne, hm := cw.hm }
  have c_sFirstWrong := cal_of (P := l.prog) (w := w) (base := base) g_sFirstWrong.F m_sFirstWrong b_sFirstWrong (ok_first g_sFirstWrong.F B c_sIsList c_sIsInteger)
  have GP := ok_ptInit (P := l.prog) (w := w) (base := base) g_pi.F B TPt T.mgC MW GX b_wi T_bi GBI b_bi T_bo GBO b_bo c_sFirstWrong
  have Z : PtK l.prog w K mg base CW C CP CS CI CO f_pi f_pw f_pn f_po f_pe d_pi d_pw d_pn d_po d_pe := { T := TPt, M := ⟨cp.mkc, g_pi.a, g_pi.i, cp.kc⟩, GI := fn_calm GP, bI := b_pi, GW := ok_pweb g_pw.F TPt, bW := b_pw, mW := ⟨g_pw.a, g_pw.i, g_pw.F.kp⟩, GN := ok_pins g_pn.F B TPt, bN := b_pn, mN := ⟨g_pn.a, g_pn.i, g_pn.F.kp⟩, GO := ok_pouts g_po.F B TPt, bO := b_po, mO := ⟨g_po.a, g_po.i, g_po.F.kp⟩, GE := ok_peq g_pe.F B TPt ICP cp.cc GE b_we g_we.a g_we.i, bE := b_pe, hE := g_pe.a, iE := g_pe.i, hN := cp.ne, hm := cp.hm }
  have GE2 : FnOk l.prog w K mg base CX0 2 f_pe d_pe ["self", "other"] (spEq (PrtR K CW C)) := eq_prt Z.GE
  have c_sSame := cal_of (P := l.prog) (w := w) (base := base) g_sSame.F m_sSame b_sSame (ok_same g_sSame.F B m_sSame b_sSame ICP prtR_ex GE2 g_pe.a g_pe.i b_pe 7)
  have c_sReadWalk := cal_of (P := l.prog) (w := w) (base := base) g_sReadWalk.F m_sReadWalk b_sReadWalk (ok_readWalk g_sReadWalk.F B T c_sReadStep c_sIsList W.GP W.bP W.mP W.GS W.bS W.mS)
  have GD := ok_door (P := l.prog) (w := w) (base := base) g_sCheckDoor.F B T_bd GBD b_bd c_sIsInteger
  have GPa := ok_pass (P := l.prog) (w := w) (base := base) g_sIsPass.F B TPt Z.GW Z.bW Z.mW Z.GN Z.bN Z.mN Z.GO Z.bO Z.mO GD m_sCheckDoor g_sCheckDoor.F.kp b_sCheckDoor c_sReadWalk
  have c_sIsPass := cal_of (P := l.prog) (w := w) (base := base) g_sIsPass.F m_sIsPass b_sIsPass (fn_calm GPa)
  have c_sReadWay := cal_of (P := l.prog) (w := w) (base := base) g_sReadWay.F m_sReadWay b_sReadWay (ok_wayB g_sReadWay.F B c_sReadStep)
  have c_sReadWays := cal_of (P := l.prog) (w := w) (base := base) g_sReadWays.F m_sReadWays b_sReadWays (ok_ways g_sReadWays.F B c_sReadWay c_sIsList)
  have c_sClosedSteps := cal_of (P := l.prog) (w := w) (base := base) g_sClosedSteps.F m_sClosedSteps b_sClosedSteps (ok_csteps g_sClosedSteps.F B TPt T Z.GW Z.bW Z.mW Z.GN Z.bN Z.mN Z.GO Z.bO Z.mO W.GS W.bS W.mS)
  have GC := ok_closed (P := l.prog) (w := w) (base := base) g_sClosed.F B TPt W Z.GW Z.bW Z.mW Z.GN Z.bN Z.mN Z.GO Z.bO Z.mO T_by GBY b_by c_sReadWays c_sClosedSteps
  have TR : TrP K mg CD CY f_sTried f_bd f_by d_sTried := ⟨g_sTried.F, m_sTried, b_sTried, T_bd, T_by, ex⟩
  have one : ∀ p ∈ [(P1, qP), (P2, qC)], p.1 = P1 → p.2 = qP := fun p hp e => by
    simp only [List.mem_cons, List.not_mem_nil, or_false] at hp
    rcases hp with rfl | rfl
    · rfl
    · exact absurd e.symm n12
  have other : ∀ p ∈ [(P1, qP), (P2, qC)], p.1 = P2 → p.2 = qC := fun p hp e => by
    simp only [List.mem_cons, List.not_mem_nil, or_false] at hp
    rcases hp with rfl | rfl
    · exact absurd e n12
    · rfl
  have c_PR := cal_of (P := l.prog) (w := w) (base := base) g_PR.F m_PR b_PR (ok_pasR (T := [(P1, qP), (P2, qC)]) g_PR.L B TB1 (List.mem_cons_self ..) one TR ICP cp.ni cp.n3 GPa m_sIsPass g_sIsPass.F.kp b_sIsPass kb_pass c_sIsPass m_sDraw vD c_sMixed c_sPasses c_sBent c_sLoose c_sLIsPass c_sSame)
  have c_CR : GCal l.prog w K mg base 11 "_law_closed_right" (spCloR K CW C [(P1, qP), (P2, qC)]) := ⟨_, _, _, ok_cloR (T := [(P1, qP), (P2, qC)]) g_CR.L B (PySem.W.mg_none_of X G bk.st) TB2 (List.mem_cons_of_mem _ (List.mem_cons_self ..)) other TR W ICW cw.cc ICP GC (fn_calm GC) m_sClosed g_sClosed.F.kp b_sClosed kb_clo m_sDraw vD c_sDraw c_sMixed c_sWay c_sLoose c_sSame, m_CR, g_CR.F.kp, b_CR⟩
  exact ok_law10 g_sLaw.F B Z c_sStream c_sDraw c_sPart c_PR c_CR
end AA

set_option Elab.async false
set_option linter.all false
set_option maxRecDepth 100000
namespace AA
open PySem PySem.Spec PyProof.Rows L2 Evl
theorem bad_mk {K : PySem.W.Frag} {CB : Addr} {y m x q : Str} {st : Stmt} {f : Addr} {oc : Value} {od an : Option Addr} {osl : Array (Option Value)} {kV doc pm cdv ct : Value}
    {nm qn : Str} {N : Addr} {bs bm : List Value} {sn : List Str} {sub : List Value} {ab : Bool} {col : Option Bool} {dd : Option Addr} {k0 k1 k2 k3 k5 : Option Value}
    (a : PySem.W.findIn K (.ref CB) x = some (some (.ref f))) (i : PySem.W.isFn K (.ref f) = true)
    (l : K.lookup f = some ⟨oc, od, .func (PySem.W.fnOf x q (defArgs st) (defBody st) (defScope st) .none kV doc pm an cdv ct), osl⟩) (c : PySem.W.codeIn K cdv q = true) (k : PySem.W.keepIn K (.ref f) = true)
    (gC : PySem.W.nsIn K mainGlobals y = some (some (.ref CB)))
    (xL : K.lookup CB = some (excClassObj nm qn CB N bs bm true sn sub ab col dd k0 k1 k2 k3 k5 "ValueError.__new__")) (rv : PySem.HandSPX.refsVE bm = true)
    (sa : PySem.W.findIn K (.ref CB) "__setattr__" = some (some (.builtin "object.__setattr__")))
    (exC : PySem.W.subIn K (.ref CB) (.type "BaseException") = some true)
    (tyC : PySem.W.typeIn K (.ref CB) = some (.type "type")) (kC : PySem.W.keepIn K (.ref CB) = true)
    (ga : PySem.W.findIn K (.ref CB) "__getattribute__" = some (some (.builtin "BaseException.__getattribute__")))
    (gg : PySem.W.findIn K (.ref CB) "__getattr__" = some none) (hdC : PySem.W.hasDictIn K CB = true)
    (no : PySem.W.findIn K (.ref CB) m = some none) (tC : PySem.W.typeIn K (.ref f) = some (.type "function")) :
    ∃ f fd, MFn K CB x q st f fd ∧ BadK K y m CB f :=
  ⟨_, _, ⟨a, i, fun_mk (st := st) l c k⟩, ⟨gC, ⟨⟨_, _, _, _, _, _, _, _, _, _, _, _, _, _, _, xL, rv⟩, sa, exC, tyC, kC⟩, ⟨ga, gg, exC, hdC⟩, no, tC⟩⟩
end AA
open PySem PySem.W PyProof.Rows in
set_option maxRecDepth 100000 in
set_option maxHeartbeats 0 in
theorem PySem.Challenge.cw_anyaround_k10_closed_and_passes_holds : PySem.Challenge.rw_anyaround_k10_closed_and_passes.Holds := by
  w_on; o_law; km_head; (case hw => w_witness2)
  k_fill
  refine AA.gt_walk (l := PySem.Challenge.rw_anyaround_k10_closed_and_passes) (n := 63) (k := 12) (x := "_law_script") rfl (by decide) rfl ⟨rfl, by decide, by decide⟩ (fun w h Y => PySem.W.km_in_of Y) ?F
  case F =>
    intro w mg fa h Y KX G hmg
    refine' AA.all_mk (CP := ?CP) (CS := ?CS) (CI := ?CI) (CO := ?CO) (CD := ?CD) (CY := ?CY) (CW := ?CW) (C := ?C) (P1 := ?P1) (P2 := ?P2) KX G hmg ?t1 ?t2 ?n1 ?n2 ?n12 ?bk ?cw ?cp ?wn ?pn ?ex ?f1 ?f2 ?f3 ?f4 ?f5 ?f6 ?f7 ?f8 ?f9 ?f10 ?f11 ?f12 ?f13 ?f14 ?f15 ?f16 ?f17 ?f18 ?f19 ?f20 ?f21 ?f22 ?f23 ?f24 ?f25 ?f26 ?f27 ?f28 ?f29 ?l1 ?l2 ?m1 ?m2 ?m3 ?m4 ?m5 ?m6 ?m7 ?m8 ?m9 ?x1 ?x2 ?x3 ?x4 ?x5 ?x6
    (case t1 => exact PySem.W.km_tabs_of Y 407 (by simp))
    (case t2 => exact PySem.W.km_tabs_of Y 417 (by simp))
    (case n1 => kernel_rfl)
    (case n2 => kernel_rfl)
    (case n12 => decide)
    (case bk => refine' ⟨?_, ?_, ?_, ?_, ?_, ?_, ?_, ?_, ?_, ?_, ?_, ?_, ?_, ?_, ?_, ?_, ?_, ?_⟩ <;> k_is)
    (case cw => refine' ⟨?cw_aC, ?cw_pg, ?cw_hd, ?cw_po, ?cw_sa, ?cw_mk, ?cw_kc, ?cw_ha, ?cw_hn, ?cw_ht, ?cw_hm, ?cw_n1, ?cw_n2, ?cw_n3, ?cw_n4, ?cw_cc, ?cw_ne, ?cw_ni⟩; (case cw_aC => k_is); (case cw_pg => k_is); (case cw_hd => k_is); (case cw_po => k_is); (case cw_sa => k_is); (case cw_mk => k_is); (case cw_kc => k_is); (case cw_ha => k_is); (case cw_hn => k_is); (case cw_ht => k_is); (case cw_hm => k_is); (case cw_n1 => kit_is); (case cw_n2 => kit_is); (case cw_n3 => kit_is); (case cw_n4 => kit_is); (case cw_cc => kit_is); (case cw_ne => k_is); (case cw_ni => kit_is))
    (case cp => refine' ⟨?cp_aC, ?cp_pg, ?cp_hd, ?cp_po, ?cp_sa, ?cp_mk, ?cp_kc, ?cp_ha, ?cp_hn, ?cp_ht, ?cp_hm, ?cp_n1, ?cp_n2, ?cp_n3, ?cp_n4, ?cp_cc, ?cp_ne, ?cp_ni⟩; (case cp_aC => k_is); (case cp_pg => k_is); (case cp_hd => k_is); (case cp_po => k_is); (case cp_sa => k_is); (case cp_mk => k_is); (case cp_kc => k_is); (case cp_ha => k_is); (case cp_hn => k_is); (case cp_ht => k_is); (case cp_hm => k_is); (case cp_n1 => kit_is); (case cp_n2 => kit_is); (case cp_n3 => kit_is); (case cp_n4 => kit_is); (case cp_cc => kit_is); (case cp_ne => k_is); (case cp_ni => kit_is))
    (case wn => refine' ⟨?wn_nP, ?wn_nS, ?wn_nK⟩; (case wn_nP => k_is); (case wn_nS => k_is); (case wn_nK => k_is))
    (case pn => refine' ⟨?pn_nW, ?pn_nI, ?pn_nO, ?pn_nK⟩; (case pn_nW => k_is); (case pn_nI => k_is); (case pn_nO => k_is); (case pn_nK => k_is))
    (case f1 => refine' AA.gfn ?a ?l ?c ?k; (case a => k_is); (case l => k_is); (case c => k_is); (case k => k_is))
    (case f2 => refine' AA.gfn ?a ?l ?c ?k; (case a => k_is); (case l => k_is); (case c => k_is); (case k => k_is))
    (case f3 => refine' AA.gfn ?a ?l ?c ?k; (case a => k_is); (case l => k_is); (case c => k_is); (case k => k_is))
    (case f4 => refine' AA.gfn ?a ?l ?c ?k; (case a => k_is); (case l => k_is); (case c => k_is); (case k => k_is))
    (case f5 => refine' AA.gfn ?a ?l ?c ?k; (case a => k_is); (case l => k_is); (case c => k_is); (case k => k_is))
    (case f6 => refine' AA.gfn ?a ?l ?c ?k; (case a => k_is); (case l => k_is); (case c => k_is); (case k => k_is))
    (case f7 => refine' AA.gfn ?a ?l ?c ?k; (case a => k_is); (case l => k_is); (case c => k_is); (case k => k_is))
    (case f8 => refine' AA.gfn ?a ?l ?c ?k; (case a => k_is); (case l => k_is); (case c => k_is); (case k => k_is))
    (case f9 => refine' AA.gfn ?a ?l ?c ?k; (case a => k_is); (case l => k_is); (case c => k_is); (case k => k_is))
    (case f10 => refine' AA.gfn ?a ?l ?c ?k; (case a => k_is); (case l => k_is); (case c => k_is); (case k => k_is))
    (case f11 => refine' AA.gfn ?a ?l ?c ?k; (case a => k_is); (case l => k_is); (case c => k_is); (case k => k_is))
    (case f12 => refine' AA.gfn ?a ?l ?c ?k; (case a => k_is); (case l => k_is); (case c => k_is); (case k => k_is))
    (case f13 => refine' AA.gfn ?a ?l ?c ?k; (case a => k_is); (case l => k_is); (case c => k_is); (case k => k_is))
    (case f14 => refine' AA.gfnc ?a ?l ?c ?k; (case a => k_is); (case l => k_is); (case c => k_is); (case k => k_is))
    (case f15 => refine' AA.gfn ?a ?l ?c ?k; (case a => k_is); (case l => k_is); (case c => k_is); (case k => k_is))
    (case f16 => refine' AA.gfn ?a ?l ?c ?k; (case a => k_is); (case l => k_is); (case c => k_is); (case k => k_is))
    (case f17 => refine' AA.gfn ?a ?l ?c ?k; (case a => k_is); (case l => k_is); (case c => k_is); (case k => k_is))
    (case f18 => refine' AA.gfn ?a ?l ?c ?k; (case a => k_is); (case l => k_is); (case c => k_is); (case k => k_is))
    (case f19 => refine' AA.gfn ?a ?l ?c ?k; (case a => k_is); (case l => k_is); (case c => k_is); (case k => k_is))
    (case f20 => refine' AA.gfn ?a ?l ?c ?k; (case a => k_is); (case l => k_is); (case c => k_is); (case k => k_is))
    (case f21 => refine' AA.gfn ?a ?l ?c ?k; (case a => k_is); (case l => k_is); (case c => k_is); (case k => k_is))
    (case f22 => refine' AA.gfn ?a ?l ?c ?k; (case a => k_is); (case l => k_is); (case c => k_is); (case k => k_is))
    (case f23 => refine' AA.gfn ?a ?l ?c ?k; (case a => k_is); (case l => k_is); (case c => k_is); (case k => k_is))
    (case f24 => refine' AA.gfn ?a ?l ?c ?k; (case a => k_is); (case l => k_is); (case c => k_is); (case k => k_is))
    (case f25 => refine' AA.gfn ?a ?l ?c ?k; (case a => k_is); (case l => k_is); (case c => k_is); (case k => k_is))
    (case f26 => refine' AA.gfn ?a ?l ?c ?k; (case a => k_is); (case l => k_is); (case c => k_is); (case k => k_is))
    (case f27 => refine' AA.gfn ?a ?l ?c ?k; (case a => k_is); (case l => k_is); (case c => k_is); (case k => k_is))
    (case f28 => refine' AA.gfn ?a ?l ?c ?k; (case a => k_is); (case l => k_is); (case c => k_is); (case k => k_is))
    (case f29 => refine' AA.gfn ?a ?l ?c ?k; (case a => k_is); (case l => k_is); (case c => k_is); (case k => k_is))
    (case l1 => refine' AA.lfn ?a ?l ?c ?k ?hd; (case a => k_is); (case l => k_is); (case c => k_is); (case k => k_is); (case hd => kernel_rfl))
    (case l2 => refine' AA.lfn ?a ?l ?c ?k ?hd; (case a => k_is); (case l => k_is); (case c => k_is); (case k => k_is); (case hd => kernel_rfl))
    (case m1 => refine' AA.mfn ?a ?i ?l ?c ?k; (case a => k_is); (case i => k_is); (case l => k_is); (case c => k_is); (case k => k_is))
    (case m2 => refine' AA.mfn ?a ?i ?l ?c ?k; (case a => k_is); (case i => k_is); (case l => k_is); (case c => k_is); (case k => k_is))
    (case m3 => refine' AA.mfn ?a ?i ?l ?c ?k; (case a => k_is); (case i => k_is); (case l => k_is); (case c => k_is); (case k => k_is))
    (case m4 => refine' AA.mfn ?a ?i ?l ?c ?k; (case a => k_is); (case i => k_is); (case l => k_is); (case c => k_is); (case k => k_is))
    (case m5 => refine' AA.mfn ?a ?i ?l ?c ?k; (case a => k_is); (case i => k_is); (case l => k_is); (case c => k_is); (case k => k_is))
    (case m6 => refine' AA.mfn ?a ?i ?l ?c ?k; (case a => k_is); (case i => k_is); (case l => k_is); (case c => k_is); (case k => k_is))
    (case m7 => refine' AA.mfn ?a ?i ?l ?c ?k; (case a => k_is); (case i => k_is); (case l => k_is); (case c => k_is); (case k => k_is))
    (case m8 => refine' AA.mfn ?a ?i ?l ?c ?k; (case a => k_is); (case i => k_is); (case l => k_is); (case c => k_is); (case k => k_is))
    (case m9 => refine' AA.mfn ?a ?i ?l ?c ?k; (case a => k_is); (case i => k_is); (case l => k_is); (case c => k_is); (case k => k_is))
    (case x1 => refine' AA.bad_mk ?a ?i ?l ?c ?k ?gC ?xL ?rv ?sa ?exC ?tyC ?kC ?ga ?gg ?hdC ?no ?tC; (case gC => k_is); (case a => k_is); (case i => k_is); (case l => k_is); (case c => k_is); (case k => k_is); (case xL => k_is); (case rv => decide +kernel); (case sa => k_is); (case exC => k_is); (case tyC => k_is); (case kC => k_is); (case ga => k_is); (case gg => k_is); (case hdC => k_is); (case no => k_is); (case tC => k_is))
    (case x2 => refine' AA.bad_mk ?a ?i ?l ?c ?k ?gC ?xL ?rv ?sa ?exC ?tyC ?kC ?ga ?gg ?hdC ?no ?tC; (case gC => k_is); (case a => k_is); (case i => k_is); (case l => k_is); (case c => k_is); (case k => k_is); (case xL => k_is); (case rv => decide +kernel); (case sa => k_is); (case exC => k_is); (case tyC => k_is); (case kC => k_is); (case ga => k_is); (case gg => k_is); (case hdC => k_is); (case no => k_is); (case tC => k_is))
    (case x3 => refine' AA.bad_mk ?a ?i ?l ?c ?k ?gC ?xL ?rv ?sa ?exC ?tyC ?kC ?ga ?gg ?hdC ?no ?tC; (case gC => k_is); (case a => k_is); (case i => k_is); (case l => k_is); (case c => k_is); (case k => k_is); (case xL => k_is); (case rv => decide +kernel); (case sa => k_is); (case exC => k_is); (case tyC => k_is); (case kC => k_is); (case ga => k_is); (case gg => k_is); (case hdC => k_is); (case no => k_is); (case tC => k_is))
    (case x4 => refine' AA.bad_mk ?a ?i ?l ?c ?k ?gC ?xL ?rv ?sa ?exC ?tyC ?kC ?ga ?gg ?hdC ?no ?tC; (case gC => k_is); (case a => k_is); (case i => k_is); (case l => k_is); (case c => k_is); (case k => k_is); (case xL => k_is); (case rv => decide +kernel); (case sa => k_is); (case exC => k_is); (case tyC => k_is); (case kC => k_is); (case ga => k_is); (case gg => k_is); (case hdC => k_is); (case no => k_is); (case tC => k_is))
    (case x5 => refine' AA.bad_mk ?a ?i ?l ?c ?k ?gC ?xL ?rv ?sa ?exC ?tyC ?kC ?ga ?gg ?hdC ?no ?tC; (case gC => k_is); (case a => k_is); (case i => k_is); (case l => k_is); (case c => k_is); (case k => k_is); (case xL => k_is); (case rv => decide +kernel); (case sa => k_is); (case exC => k_is); (case tyC => k_is); (case kC => k_is); (case ga => k_is); (case gg => k_is); (case hdC => k_is); (case no => k_is); (case tC => k_is))
    (case x6 => refine' AA.bad_mk ?a ?i ?l ?c ?k ?gC ?xL ?rv ?sa ?exC ?tyC ?kC ?ga ?gg ?hdC ?no ?tC; (case gC => k_is); (case a => k_is); (case i => k_is); (case l => k_is); (case c => k_is); (case k => k_is); (case xL => k_is); (case rv => decide +kernel); (case sa => k_is); (case exC => k_is); (case tyC => k_is); (case kC => k_is); (case ga => k_is); (case gg => k_is); (case hdC => k_is); (case no => k_is); (case tC => k_is))
    (case ex => refine' ⟨?_, ?_, ?_⟩ <;> first | k_is | rfl)
