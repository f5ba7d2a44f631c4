import PyProof.Rows.All
import Wide.All
import OpenK.AllK
import Wide.FinOn
import HandS.ForMost
import HandS.Wide
import HandS.ExcInit
import HandS.IsInst
import HandS.Deep
import HandS.Evl
import HandS.Conv
import HandS.NoneIn
import HandS.Codes
import HandS.OwnEq
import HandS.DictComp
import HandS.SortOrd
import HandS.SortRule
import HandS.RaiseMore
import HandS.TryOnly
import HandS.Lambda
import HandS.Zip
import HandS.ListItems
import KE.DatumIndex
import PySem.Challenge.RW_anyaround_k22_needs_of_walks
import PyProof.IsiNone
import PyProof.IsiH_set
import PyProof.InstEq
import KE.KeyNested
import KE.GoesMore
import HandS.ExcField
import HandS.WordsExc
import HandS.MakeKwOnly
set_option Elab.async false
set_option linter.all false
set_option maxRecDepth 100000
namespace AA
open PySem PySem.Spec PyProof.Rows L2
def top (i : Nat) : Stmt := PySem.Challenge.pw_anyaround_k22_needs_of_walks.main.body.getD i (.Pass ⟨0, 0, 0, 0⟩)
abbrev sIsInteger : Stmt := top 6
abbrev sIsList : Stmt := top 7
abbrev sNeedGain : Stmt := top 11
abbrev sNeedSum : Stmt := top 9
abbrev sWebInit : Stmt := inClass (top 13) 0
abbrev sWebPlaces : Stmt := inClass (top 13) 1
abbrev sWebSteps : Stmt := inClass (top 13) 2
abbrev sWebEq : Stmt := inClass (top 13) 3
abbrev sReadStep : Stmt := top 14
abbrev sReadSteps : Stmt := top 15
abbrev sReadWalk : Stmt := top 16
abbrev sCheckedWalk : Stmt := top 17
abbrev sNeedOf : Stmt := top 19
abbrev sStream : Stmt := top 21
abbrev sDraw : Stmt := top 22
abbrev sPick : Stmt := top 23
abbrev sMixed : Stmt := top 24
abbrev sSame : Stmt := top 25
abbrev sLoose : Stmt := top 26
abbrev sAmounts : Stmt := top 27
abbrev sStep : Stmt := top 28
abbrev sWeb : Stmt := top 29
abbrev sWalk : Stmt := top 30
abbrev sCanGo : Stmt := top 31
abbrev sDue : Stmt := top 32
abbrev sRefused : Stmt := top 33
abbrev sWalkRight : Stmt := top 34
abbrev sRefusedRight : Stmt := top 35
abbrev sLaw : Stmt := top 36
end AA

set_option Elab.async false
set_option linter.all false
set_option maxRecDepth 100000
set_option maxHeartbeats 4000000
namespace AA
open PySem PySem.Spec PyProof.Rows L2 Evl

/-- built-in names that the program's top leaves alone -/
structure Bn (mg : Str → Option Value) : Prop where
  abs : mg "abs" = none
  int : mg "int" = none
  len : mg "len" = none
  list : mg "list" = none
  tuple : mg "tuple" = none
  dict : mg "dict" = none
  bool : mg "bool" = none
  range : mg "range" = none
  enumerate : mg "enumerate" = none
  isinstance : mg "isinstance" = none
  all : mg "all" = none
  zip : mg "zip" = none
  sorted : mg "sorted" = none
  max : mg "max" = none
  sum : mg "sum" = none
  repr : mg "repr" = none

theorem cal_of {P : Program} {w : World} {K : PySem.W.Frag} {mg : Str → Option Value} {base : Heap} {k : Nat} {x : Str} {st : Stmt} {f : Addr} {fd : FuncData} {ps : List Str} {sp : Sp}
    (F : L2.Fun K x x st f fd) (hm : mg x = some (.ref f)) (b : Binds K fd ps []) (G : FnOk P w K mg base CX0 k f fd ps sp) : C8.Cal P w K mg base k x sp [] := ⟨f, fd, ps, [], G, hm, F.kp, b, .nil⟩

/-! ### the heap without the stream's two lists -/
def hid (a b : Addr) (H : Hp) : Hp := fun x => if x = a ∨ x = b then none else H x
theorem hid_some {a b x : Addr} {H : Hp} {o : HO} (h : hid a b H x = some o) : H x = some o ∧ x ≠ a ∧ x ≠ b := by
  unfold hid at h
  by_cases e : x = a ∨ x = b
  · rw [if_pos e] at h
    cases h
  · rw [if_neg e] at h
    exact ⟨h, fun z => e (.inl z), fun z => e (.inr z)⟩
theorem hid_ne {a b x : Addr} {H : Hp} (ha : x ≠ a) (hb : x ≠ b) : hid a b H x = H x := by
  unfold hid
  rw [if_neg (fun z => z.elim ha hb)]
theorem hid_ex {a b : Addr} {H : Hp} : Ex (hid a b H) H := fun x o h => (hid_some h).1
theorem hid_upda {a b : Addr} {H : Hp} {o : HO} : hid a b (upd H a o) = hid a b H := by
  funext x
  unfold hid upd
  by_cases e : x = a ∨ x = b
  · rw [if_pos e, if_pos e]
  · rw [if_neg e, if_neg e, if_neg (fun z => e (.inl z))]
theorem hid_updb {a b : Addr} {H : Hp} {o : HO} : hid a b (upd H b o) = hid a b H := by
  funext x
  unfold hid upd
  by_cases e : x = a ∨ x = b
  · rw [if_pos e, if_pos e]
  · rw [if_neg e, if_neg e, if_neg (fun z => e (.inr z))]
theorem hid_upd {a b p : Addr} {H : Hp} {o : HO} (ha : p ≠ a) (hb : p ≠ b) : hid a b (upd H p o) = upd (hid a b H) p o := by
  funext x
  unfold hid upd
  by_cases e : x = a ∨ x = b
  · rw [if_pos e]
    by_cases q : x = p
    · rcases e with e | e
      · exact absurd (q.symm.trans e) ha
      · exact absurd (q.symm.trans e) hb
    · rw [if_neg q]
      exact (if_pos e).symm
  · rw [if_neg e]
    by_cases q : x = p
    · rw [if_pos q, if_pos q]
    · rw [if_neg q, if_neg q]
      exact (if_neg e).symm
theorem hid_none {a b p : Addr} {H : Hp} (h : H p = none) : hid a b H p = none := by
  unfold hid
  split
  · rfl
  · exact h
theorem hid_mono {a b : Addr} {H H' : Hp} (e : Ex H H') : Ex (hid a b H) (hid a b H') := fun x o h => by
  obtain ⟨h1, h2, h3⟩ := hid_some h
  rw [hid_ne h2 h3]
  exact e x o h1

/-- the stream: its list of four at a, the rest of the script at b; at most n draws so far -/
def SAt (H : Hp) (a b : Addr) (n : Nat) : Prop :=
  ∃ (ns : List Int) (c1 c2 c3 : Int), H a = some (.lst [.ref b, .int c1, .int c2, .int c3]) ∧ H b = some (.lst (ns.map V.int)) ∧ ns.length ≤ 63 ∧ 0 ≤ c1 ∧ 0 ≤ c2 ∧ c2 ≤ n ∧ 0 ≤ c3 ∧ c3 < 2147483647
theorem SAt.mono {H : Hp} {a b : Addr} {n m : Nat} (h : SAt H a b n) (l : n ≤ m) : SAt H a b m := by
  obtain ⟨ns, c1, c2, c3, h1, h2, h3, h4, h5, h6, h7⟩ := h
  exact ⟨ns, c1, c2, c3, h1, h2, h3, h4, h5, by omega, h7⟩
theorem SAt.ne {H : Hp} {a b : Addr} {n : Nat} (h : SAt H a b n) : a ≠ b := by
  obtain ⟨ns, c1, c2, c3, h1, h2, _⟩ := h
  intro e
  subst e
  rw [h1] at h2
  have := HO.lst.inj (Option.some.inj h2)
  cases ns with
  | nil => cases this
  | cons x r => cases (List.cons.inj this).1
theorem SAt.nea {H : Hp} {a b p : Addr} {n : Nat} (h : SAt H a b n) (hp : H p = none) : p ≠ a := fun e => by
  obtain ⟨ns, c1, c2, c3, h1, _⟩ := h
  rw [e, h1] at hp
  cases hp
theorem SAt.neb {H : Hp} {a b p : Addr} {n : Nat} (h : SAt H a b n) (hp : H p = none) : p ≠ b := fun e => by
  obtain ⟨ns, c1, c2, c3, _, h1, _⟩ := h
  rw [e, h1] at hp
  cases hp
theorem SAt.ex {H H' : Hp} {a b : Addr} {n : Nat} (h : SAt H a b n) (e : Ex H H') : SAt H' a b n := by
  obtain ⟨ns, c1, c2, c3, h1, h2, r⟩ := h
  exact ⟨ns, c1, c2, c3, e _ _ h1, e _ _ h2, r⟩
theorem SAt.upd {H : Hp} {a b p : Addr} {n : Nat} {o : HO} (h : SAt H a b n) (ha : p ≠ a) (hb : p ≠ b) : SAt (upd H p o) a b n := by
  obtain ⟨ns, c1, c2, c3, h1, h2, r⟩ := h
  exact ⟨ns, c1, c2, c3, by rw [upd_ne ha.symm]; exact h1, by rw [upd_ne hb.symm]; exact h2, r⟩

/-- the promise's heaps: all but the stream stands as it stood -/
abbrev ExS (a b : Addr) (H H' : Hp) : Prop := Ex (hid a b H) (hid a b H')
theorem ExS.at {a b p : Addr} {H H' : Hp} {o : HO} (e : ExS a b H H') (h : H p = some o) (ha : p ≠ a) (hb : p ≠ b) : H' p = some o :=
  hid_ex _ _ (e p o (by rw [hid_ne ha hb]; exact h))

theorem ExS.upda {a b : Addr} {H H1 : Hp} {o : HO} (p : ExS a b H H1) : ExS a b H (L2.upd H1 a o) := by
  show Ex _ (hid a b (L2.upd H1 a o))
  rw [hid_upda]
  exact p
theorem ExS.updb {a b : Addr} {H H1 : Hp} {o : HO} (p : ExS a b H H1) : ExS a b H (L2.upd H1 b o) := by
  show Ex _ (hid a b (L2.upd H1 b o))
  rw [hid_updb]
  exact p
theorem ExS.new {a b c : Addr} {H H1 : Hp} {o : HO} (p : ExS a b H H1) (n : H1 c = none) : ExS a b H (L2.upd H1 c o) := p.trans (hid_mono (Ex.new n))
theorem ExS.own {a b p : Addr} {H H1 : Hp} {o : HO} (e : ExS a b H H1) (hp : H p = none) (pa : p ≠ a) (pb : p ≠ b) : ExS a b H (L2.upd H1 p o) := by
  show Ex _ (hid a b (L2.upd H1 p o))
  rw [hid_upd pa pb]
  exact e.mut (hid_none hp)
theorem sz_m {n : Nat} (h : n ≤ 1000000) : n < sizeLine := Nat.lt_of_le_of_lt h (by decide)
theorem sz_le {n : Nat} (h : n ≤ 1000000) : n ≤ sizeLine := Nat.le_of_lt (sz_m h)
theorem ExS.back {a b p : Addr} {H H' : Hp} {n : Nat} (e : ExS a b H H') (S' : SAt H' a b n) (h : H' p = none) : H p = none := by
  cases q : H p with
  | none => rfl
  | some o =>
    rw [e.at q (S'.nea h) (S'.neb h)] at h
    cases h
theorem get_ints {ns : List Int} {i : Nat} {x : V} (h : (ns.map V.int)[i]? = some x) : ∃ c, ns[i]? = some c ∧ x = .int c := by
  rw [List.getElem?_map] at h
  cases e : ns[i]? with
  | none =>
    rw [e] at h
    cases h
  | some c =>
    rw [e] at h
    exact ⟨c, rfl, (Option.some.inj h).symm⟩
theorem mem_of_get {α : Type} {l : List α} {i : Nat} {x : α} (h : l[i]? = some x) : x ∈ l := by
  obtain ⟨h1, h2⟩ := List.getElem?_eq_some_iff.mp h
  rw [← h2]
  exact List.getElem_mem h1
theorem ExS.rfl {a b : Addr} {H : Hp} : ExS a b H H := Ex.refl _

/-! ### what is new since H -/
def nw (H H' : Hp) : Hp := fun z => match H z with
  | none => H' z
  | some _ => none
theorem nw_some {H H' : Hp} {z : Addr} {o : HO} (h : nw H H' z = some o) : H z = none ∧ H' z = some o := by
  unfold nw at h
  split at h
  · rename_i e
    exact ⟨e, h⟩
  · cases h
theorem nw_of {H H' : Hp} {z : Addr} {o : HO} (h : H z = none) (h' : H' z = some o) : nw H H' z = some o := by
  unfold nw
  rw [h]
  exact h'
theorem nw_le {H H' : Hp} : Ex (nw H H') H' := fun z o h => (nw_some h).2
theorem nw_hid {a b : Addr} {n : Nat} {H H' : Hp} (s : SAt H a b n) : Ex (nw H H') (hid a b H') := fun z o h => by
  obtain ⟨h1, h2⟩ := nw_some h
  rw [hid_ne (s.nea h1) (s.neb h1)]
  exact h2
theorem nw_step {a b : Addr} {n : Nat} {H H1 H2 : Hp} (s : SAt H a b n) (e : ExS a b H1 H2) : Ex (nw H H1) (nw H H2) := fun z o h => by
  obtain ⟨h1, h2⟩ := nw_some h
  exact nw_of h1 (e.at h2 (s.nea h1) (s.neb h1))
/-- what is new since a later heap is new since the earlier one -/
theorem nw_base {a b : Addr} {m : Nat} {H H1 H2 : Hp} (e : ExS a b H H1) (s : SAt H1 a b m) : Ex (nw H1 H2) (nw H H2) := fun z o h => by
  obtain ⟨h1, h2⟩ := nw_some h
  exact nw_of (e.back s h1) h2

/-! ### the heap's tuples: they never change -/
def tps (H : Hp) : Hp := fun x => match H x with
  | some (.tup xs) => some (.tup xs)
  | _ => none
theorem tps_some {H : Hp} {x : Addr} {o : HO} (h : tps H x = some o) : H x = some o ∧ ∃ xs, o = .tup xs := by
  unfold tps at h
  split at h
  · rename_i xs e
    cases h
    exact ⟨e, xs, rfl⟩
  · cases h
theorem tps_of {H : Hp} {x : Addr} {xs : List V} (h : H x = some (.tup xs)) : tps H x = some (.tup xs) := by
  unfold tps
  rw [h]
theorem tps_le {H : Hp} : Ex (tps H) H := fun x o h => (tps_some h).1
theorem tps_mono {H H' : Hp} (e : Ex H H') : Ex (tps H) (tps H') := fun x o h => by
  obtain ⟨h1, xs, rfl⟩ := tps_some h
  exact tps_of (e _ _ h1)
theorem tps_hid {a b : Addr} {n : Nat} {H H' : Hp} (e : ExS a b H H') (s : SAt H a b n) : Ex (tps H) (tps H') := fun x o h => by
  obtain ⟨h1, xs, rfl⟩ := tps_some h
  obtain ⟨ns, c1, c2, c3, ha, hb, _⟩ := s
  have xa : x ≠ a := fun z => by
    rw [z, ha] at h1
    cases h1
  have xb : x ≠ b := fun z => by
    rw [z, hb] at h1
    cases h1
  exact tps_of (e.at h1 xa xb)
/-- no tuple stands at p -/
def NoTup (H : Hp) (p : Addr) : Prop := ∀ xs, H p ≠ some (.tup xs)
theorem NoTup.lst {H : Hp} {p : Addr} {xs : List V} (h : H p = some (.lst xs)) : NoTup H p := fun ys z => by
  rw [h] at z
  cases z
theorem NoTup.none {H : Hp} {p : Addr} (h : H p = none) : NoTup H p := fun ys z => by
  rw [h] at z
  cases z
theorem tps_upd {H : Hp} {p : Addr} {o : HO} (h : NoTup H p) : Ex (tps H) (tps (L2.upd H p o)) := fun x u hx => by
  obtain ⟨h1, xs, rfl⟩ := tps_some hx
  have xp : x ≠ p := fun z => h xs (by rw [← z]; exact h1)
  exact tps_of (by rw [upd_ne xp]; exact h1)
theorem tps_tup {H : Hp} {p : Addr} {xs : List V} : tps (L2.upd H p (.tup xs)) p = some (.tup xs) := tps_of upd_same

/-! ### data on the heap -/
mutual
theorem dp_ex {K : PySem.W.Frag} {H H' : Hp} (e : Ex H H') : ∀ (d : PyData) (v : V), Dp K H v d → Dp K H' v d
  | .none, _, h => by cases h; exact .non
  | .bool b, _, h => by cases h; exact .bl _
  | .int i, _, h => by cases h; exact .int _
  | .str x, _, h => by cases h; exact .str _
  | .list ds, _, h => by
    cases h with
    | lst h1 h2 => exact .lst (ex_l e h1) (dpa_ex e ds _ h2)
  | .tuple ds, _, h => by
    cases h with
    | tup h1 h2 => exact .tup (ex_t e h1) (dpa_ex e ds _ h2)
  | .dict _, _, h => by cases h
theorem dpa_ex {K : PySem.W.Frag} {H H' : Hp} (e : Ex H H') : ∀ (ds : List PyData) (vs : List V), DpAll K H vs ds → DpAll K H' vs ds
  | [], _, h => by cases h; exact .nil
  | d :: ds, _, h => by
    cases h with
    | cons h1 h2 => exact .cons (dp_ex e d _ h1) (dpa_ex e ds _ h2)
end
theorem dp_ints {K : PySem.W.Frag} {H : Hp} : ∀ ns : List Int, DpAll K H (ns.map V.int) (ns.map PyData.int)
  | [] => .nil
  | n :: r => .cons (.int n) (dp_ints r)
theorem lay_ints : ∀ ns : List Int, PyData.canLayAll0 (ns.map PyData.int) = true
  | [] => rfl
  | n :: r => by
    show (PyData.canLay0 (.int n) && PyData.canLayAll0 (r.map PyData.int)) = true
    rw [lay_ints r]
    rfl
theorem dep_ints : ∀ ns : List Int, PyData.depthAll (ns.map PyData.int) = 0
  | [] => rfl
  | n :: r => by
    show max (PyData.depth (.int n)) (PyData.depthAll (r.map PyData.int)) = 0
    rw [dep_ints r]
    rfl
theorem shaped_ints (ns : List Int) : SeqAt.shaped (.list (ns.map PyData.int)) = true := by
  show (PyData.canLayAll0 (ns.map PyData.int) && decide (PyData.depthAll (ns.map PyData.int) + 1 ≤ 64)) = true
  rw [lay_ints, dep_ints]
  rfl
theorem eqv_ints_nil : ∀ ns : List Int, PyData.eqv (.list (ns.map PyData.int)) (.list []) = ns.isEmpty
  | [] => rfl
  | n :: r => rfl
theorem dpa_len {K : PySem.W.Frag} {H : Hp} : ∀ {vs : List V} {ds : List PyData}, DpAll K H vs ds → vs.length = ds.length
  | [], _, h => by cases h; rfl
  | v :: vs, _, h => by
    cases h with
    | cons h1 h2 => rw [List.length_cons, List.length_cons, dpa_len h2]
theorem dpa_get {K : PySem.W.Frag} {H : Hp} : ∀ {vs : List V} {ds : List PyData} {i : Nat} {v : V}, DpAll K H vs ds → vs[i]? = some v → ∃ d, ds[i]? = some d ∧ Dp K H v d
  | [], _, _, _, _, e => by simp at e
  | v :: vs, _, 0, x, h, e => by
    cases h with
    | cons h1 h2 =>
      cases (Option.some.inj e)
      exact ⟨_, rfl, h1⟩
  | v :: vs, _, i + 1, x, h, e => by
    cases h with
    | cons h1 h2 => exact dpa_get (i := i) h2 e
theorem dpa_app {K : PySem.W.Frag} {H : Hp} : ∀ {vs ws : List V} {ds es : List PyData}, DpAll K H vs ds → DpAll K H ws es → DpAll K H (vs ++ ws) (ds ++ es)
  | [], _, _, _, h, k => by cases h; exact k
  | v :: vs, _, _, _, h, k => by
    cases h with
    | cons h1 h2 => exact .cons h1 (dpa_app h2 k)

theorem Room.u65 {k : Nat} {A : Around} (r : Room k A) : A.units + 65 < cLine := by
  have := r.un
  omega
/-! ### steps -/
structure St5 where
  one : Int
  other : Int
  p : Int
  q : Int
  ticks : Int
  change : Int
  deriving DecidableEq
def stD (s : St5) : PyData := .tuple [.int s.one, .int s.other, .tuple [.int s.p, .int s.q], .int s.ticks, .int s.change]
theorem stD_inv {K : PySem.W.Frag} {H : Hp} {v : V} {s : St5} (h : Dp K H v (stD s)) : ∃ t u : Addr, v = .ref t ∧ SqT K H t [.int s.one, .int s.other, .ref u, .int s.ticks, .int s.change] ∧ SqT K H u [.int s.p, .int s.q] := by
  unfold stD at h
  cases h with
  | tup h1 h2 =>
    cases h2 with
    | cons a1 h2 =>
      cases h2 with
      | cons a2 h2 =>
        cases h2 with
        | cons a3 h2 =>
          cases h2 with
          | cons a4 h2 =>
            cases h2 with
            | cons a5 h2 =>
              cases h2
              cases a1
              cases a2
              cases a4
              cases a5
              cases a3 with
              | tup b1 b2 =>
                cases b2 with
                | cons c1 b2 =>
                  cases b2 with
                  | cons c2 b2 =>
                    cases b2
                    cases c1
                    cases c2
                    exact ⟨_, _, rfl, h1, b1⟩
theorem stD_mk {K : PySem.W.Frag} {H : Hp} {t u : Addr} {s : St5} (h1 : SqT K H t [.int s.one, .int s.other, .ref u, .int s.ticks, .int s.change]) (h2 : SqT K H u [.int s.p, .int s.q]) : Dp K H (.ref t) (stD s) :=
  .tup h1 (.cons (.int _) (.cons (.int _) (.cons (.tup h2 (.cons (.int _) (.cons (.int _) .nil))) (.cons (.int _) (.cons (.int _) .nil)))))
theorem stD_eqv (s t : St5) : PyData.eqv (stD s) (stD t) = decide (s = t) := by
  have : PyData.eqv (stD s) (stD t) = ((s.one == t.one) && ((s.other == t.other) && (((s.p == t.p) && ((s.q == t.q) && true)) && ((s.ticks == t.ticks) && ((s.change == t.change) && true))))) := rfl
  rw [this]
  cases s
  cases t
  simp only [St5.mk.injEq]
  rw [Bool.eq_iff_iff]
  simp [and_assoc]
theorem stD_lay (s : St5) : (stD s).canLay0 = true := rfl
theorem stD_depth (s : St5) : (stD s).depth = 2 := rfl
theorem stDs_lay : ∀ ss : List St5, PyData.canLayAll0 (ss.map stD) = true
  | [] => rfl
  | s :: r => by
    show (PyData.canLay0 (stD s) && PyData.canLayAll0 (r.map stD)) = true
    rw [stDs_lay r]
    rfl
theorem stDs_depth : ∀ ss : List St5, PyData.depthAll (ss.map stD) ≤ 2
  | [] => by decide
  | s :: r => by
    have := stDs_depth r
    show max (PyData.depth (stD s)) (PyData.depthAll (r.map stD)) ≤ 2
    rw [stD_depth]
    omega
theorem stD_shaped (s : St5) : SeqAt.shaped (stD s) = true := rfl
theorem stDs_shaped (ss : List St5) : SeqAt.shaped (.list (ss.map stD)) = true := by
  have h : PyData.depth (.list (ss.map stD)) ≤ 64 := by
    have := stDs_depth ss
    show PyData.depthAll (ss.map stD) + 1 ≤ 64
    omega
  show (PyData.canLayAll0 (ss.map stD) && decide (PyData.depth (.list (ss.map stD)) ≤ 64)) = true
  rw [stDs_lay, decide_eq_true h]
  rfl
/-- a step between so many places -/
structure StOk (n : Int) (s : St5) : Prop where
  o0 : 0 ≤ s.one
  o1 : s.one < n
  t0 : 0 ≤ s.other
  t1 : s.other < n
  k : 1 ≤ s.ticks
/-- and small -/
structure StSm (s : St5) : Prop where
  p0 : -9 ≤ s.p
  p1 : s.p ≤ 9
  q0 : -9 ≤ s.q
  q1 : s.q ≤ 9
  k1 : s.ticks ≤ 6
  c0 : -9 ≤ s.change
  c1 : s.change ≤ 9
/-! ### loops over enumerate(list) -/
theorem for_enumL {K : PySem.W.Frag} {a : Addr} {xs : List V} {g : TG} {tb : TS} {D : Ends} {σ : L2.St} {H : Hp} (Pv : Nat → L2.St → Hp → Prop) (h0 : Pv 0 σ H) (hl : ∀ i σ H, i ≤ xs.length → Pv i σ H → SqL K H a xs)
    (hs : ∀ (i : Nat) (x : V) (σ : L2.St) (H : Hp) (T : Addr), xs[i]? = some x → Pv i σ H → H T = none → g (.ref T) σ (upd H T (.tup [.int (i : Nat), x])) fun σ2 H2 => tb { D with nx := Pv (i + 1), ct := Pv (i + 1), bk := D.nx } σ2 H2) (hd : ∀ σ H, Pv xs.length σ H → D.nx σ H) :
    ∃ W : Nat → Nat → L2.St → Hp → Prop, (∃ m, W 0 m σ H) ∧ ∀ i m σ H, W i m σ H →
      ((Ite K a).stop i H ∧ D.nx σ H) ∨ ((Ite K a).go i H ∧ ∃ N : L2.St → Hp → Prop, (∀ σ' H', N σ' H' → ∃ m', m' < m ∧ W (i + 1) m' σ' H') ∧ ∀ x H', (Ite K a).yld i H x H' → g x σ H' fun σ2 H2 => tb { D with nx := N, ct := N, bk := D.nx } σ2 H2) := by
  refine ⟨fun i m σ H => m = xs.length - i ∧ i ≤ xs.length ∧ Pv i σ H, ⟨xs.length, by simp, Nat.zero_le _, h0⟩, ?_⟩
  rintro i m σ H ⟨rfl, hi, p⟩
  have q := hl i σ H hi p
  by_cases hlt : i < xs.length
  · refine .inr ⟨⟨xs, xs[i], q, by simp [hlt]⟩, Pv (i + 1), fun σ' H' p' => ⟨xs.length - (i + 1), by omega, rfl, hlt, p'⟩, fun x H' y => ?_⟩
    obtain ⟨T, z, rfl, hT, rfl, e⟩ := y
    exact hs i z σ _ T (e xs q) p hT
  · have e : i = xs.length := by omega
    subst e
    exact .inl ⟨⟨xs, q, Nat.le_refl _⟩, hd σ H p⟩
theorem atI_back {α : Type} {xs : List α} {i : Nat} (h : i < xs.length) : ∃ y, atI xs ((i : Int) - 1) = some y ∧ y ∈ xs := by
  cases i with
  | zero =>
    have e : ixN xs.length (((0 : Nat) : Int) - 1) = some (xs.length - 1) := by
      unfold ixN
      rw [if_neg (by omega), if_pos (by omega)]
      congr 1
      omega
    have hl : xs.length - 1 < xs.length := by omega
    refine ⟨xs[xs.length - 1], ?_, List.getElem_mem hl⟩
    unfold atI
    rw [e]
    exact List.getElem?_eq_getElem hl
  | succ i =>
    have e : ((i + 1 : Nat) : Int) - 1 = (i : Int) := by omega
    rw [e]
    have hl : i < xs.length := by omega
    exact ⟨xs[i], atI_nat (List.getElem?_eq_getElem hl), List.getElem_mem hl⟩
end AA

set_option Elab.async false
set_option linter.all false
set_option maxRecDepth 100000
set_option maxHeartbeats 4000000
namespace AA
open PySem PySem.Spec PyProof.Rows L2 Evl

section
variable {P : Program} {w : World} {K : PySem.W.Frag} {mg : Str → Option Value} {base : Heap}
def spDraw : Sp := fun vs H Q _ => ∃ (a b : Addr) (n : Nat) (m : Int), vs = [.ref a, .int m] ∧ SAt H a b n ∧ n < 1000000000 ∧ 0 < m ∧ m < 1000000000 ∧
  ∀ (H' : Hp) (i : Int), ExS a b H H' → SAt H' a b (n + 1) → 0 ≤ i → i < m → Q (.int i) H'
theorem scDraw : FnScope ["_law_stream_here", "_law_many", "_law_cell", "_law_digit", "_law_mixed_here"] ["_law_stream_here", "_law_many"] (defScope sDraw) := ⟨rfl, rfl, rfl, by decide +kernel, rfl, by decide +kernel, by decide +kernel⟩

theorem ok_draw {f : Addr} {fd : FuncData} (F : L2.Fun K "_law_draw" "_law_draw" sDraw f fd) (T : Bn mg) : FnOk P w K mg base CX0 1 f fd ["_law_stream_here", "_law_many"] spDraw := by
  refine F.ok scDraw (fun vs H Q E h => ?_) (fun cdv A outer s H vs Q E hr h => ?_)
  · obtain ⟨a, b, n, m, rfl, _⟩ := h
    rfl
  · obtain ⟨a, b, n, m, rfl, hS, hn, hm0, hm1, k⟩ := h
    refine ⟨_, pss_cons (ps_asg (pe_op op_add (pe_ix ix_list (pv 0) pe_int (fun _ _ => rfl)) pe_int) (pg_sub (pv 0) pe_int set_list))
      (Evl.pss_cut (ps_while PassesOwn.never (PW.pt (pw_and (pt_cmpR op_eq (pe_ix ix_list (pv 0) pe_int (fun _ _ => rfl)) pe_int (nomark _))
            (pw_and1 (pt_cmpR (op_neD hr.units) (pe_ix ix_list (pv 0) pe_int (fun _ _ => rfl)) (pe_lst pa_nil) (nomark _)))))
          (pss_cons (ps_set (i := 2) scDraw.nd rfl (Or.inl rfl) (pe_callB call_abs (by rfl) T.abs boot_abs (pa_cons (pe_bm PySem.F.plainAttrs_list PySem.F.slot_list_pop PySem.F.type_list_pop mt_popAt (pe_ix ix_list (pv 0) pe_int (fun _ _ => rfl)) (pa_cons pe_int pa_nil)) pa_nil)))
          (pss_cons (ps_asg (pe_op op_mod (pe_callTy call_int1 (by rfl) T.int boot_int (pa_cons (pe_op op_add (pe_op op_add (pe_op op_mul (pe_ix ix_list (pv 0) pe_int (fun _ _ => rfl)) pe_int) (pv 2)) pe_int) pa_nil)) pe_int) (pg_sub (pv 0) pe_int set_list))
          (pss_one (ps_asg (pe_ifExp (pt_cmpR op_ge (pv 2) (pe_op op_pow pe_int pe_int) (nomark _)) (pv 2) pe_int) (pg_sub (pv 0) pe_int set_list))))))
      (pss_cons (ps_if (pt_cmpR op_gt (pe_ix ix_list (pv 0) pe_int (fun _ _ => rfl)) pe_int (nomark _))
          (pss_cons (ps_set (i := 3) scDraw.nd rfl (Or.inl rfl) (pe_op op_mod (pe_callTy call_int1 (by rfl) T.int boot_int (pa_cons (pe_ix ix_list (pv 0) pe_int (fun _ _ => rfl)) pa_nil)) (pv 1)))
          (pss_cons (ps_asg (pe_op op_fdiv (pe_ix ix_list (pv 0) pe_int (fun _ _ => rfl)) (pv 1)) (pg_sub (pv 0) pe_int set_list))
          (pss_one (ps_ret (pv 3)))))
          pss_nil)
      (pss_cons (ps_set (i := 4) scDraw.nd rfl (Or.inl rfl) (pe_op op_mod (pe_callTy call_int1 (by rfl) T.int boot_int (pa_cons (pe_op op_pow (pe_op op_add (pe_op op_add (pe_ix ix_list (pv 0) pe_int (fun _ _ => rfl)) (pe_op op_mul pe_int (pe_ix ix_list (pv 0) pe_int (fun _ _ => rfl)))) pe_int) pe_int) pa_nil)) pe_int))
      (pss_one (ps_ret (pe_op op_mod (pe_op op_mod (pe_callTy call_int1 (by rfl) T.int boot_int (pa_cons (pe_op op_pow (pe_op op_add (pe_op op_add (pe_op op_mul (pv 4) pe_int) (pe_op op_mul pe_int (pe_ix ix_list (pv 0) pe_int (fun _ _ => rfl)))) pe_int) pe_int) pa_nil)) pe_int) (pv 1))))))), ?_⟩
    have hab := hS.ne
    obtain ⟨ns, c1, c2, c3, hA, hB, hl, p1, p2, p2', p3, p3'⟩ := hS
    -- stream[2] = stream[2] + 1
    refine ⟨_, rfl, a, _, 2, .int c2, rfl, rfl, SqL.of hA, rfl, _, _, rfl, rfl, _, rfl, a, _, 2, 2, rfl, rfl, hA, rfl, ?_⟩
    have eA : upd H a (.lst [.ref b, .int c1, .int (c2 + 1), .int c3]) a = some (.lst [.ref b, .int c1, .int (c2 + 1), .int c3]) := upd_same
    refine ⟨fun σ H2 => ∃ (ms : List Int) (d1 d3 : Int) (x2 : Option V), σ = [some (.ref a), some (.int m), x2, none, none] ∧ ExS a b H H2 ∧ H2 a = some (.lst [.ref b, .int d1, .int (c2 + 1), .int d3]) ∧
        H2 b = some (.lst (ms.map V.int)) ∧ ms.length ≤ 63 ∧ 0 ≤ d1 ∧ 0 ≤ d3 ∧ d3 < 2147483647, ?_, ?_⟩
    · refine ⟨fun mm σ H1 => ∃ (ms : List Int) (d1 d3 : Int) (x2 : Option V), σ = [some (.ref a), some (.int m), x2, none, none] ∧ ExS a b H H1 ∧ H1 a = some (.lst [.ref b, .int d1, .int (c2 + 1), .int d3]) ∧
          H1 b = some (.lst (ms.map V.int)) ∧ ms.length ≤ 63 ∧ ms.length = mm ∧ 0 ≤ d1 ∧ 0 ≤ d3 ∧ d3 < 2147483647, ⟨ns.length, ns, c1, c3, none, rfl, (ExS.rfl (H := H)).upda, eA, by rw [upd_ne hab.symm]; exact hB, hl, rfl, p1, p3, p3'⟩, ?_⟩
      rintro mm σ H1 ⟨ms, d1, d3, x2, rfl, hX, hA1, hB1, hl1, rfl, q1, q3, q3'⟩
      refine ⟨_, rfl, a, _, 1, .int d1, rfl, rfl, SqL.of hA1, rfl, rfl, _, rfl, ?_⟩
      by_cases hd : d1 = 0
      · subst hd
        refine iteT ?_
        refine ⟨_, rfl, a, _, 0, .ref b, rfl, rfl, SqL.of hA1, rfl, Nat.zero_le _, fun l hl0 => ?_⟩
        have hbl : b ≠ l := ne_of_none hB1 hl0
        have hal : a ≠ l := ne_of_none hA1 hl0
        have hB2 : upd H1 l (.lst []) b = some (.lst (ms.map V.int)) := by rw [upd_ne hbl]; exact hB1
        have hA2 : upd H1 l (.lst []) a = some (.lst [.ref b, .int 0, .int (c2 + 1), .int d3]) := by rw [upd_ne hal]; exact hA1
        refine ⟨.list (ms.map PyData.int), .list [], .lst (SqL.of hB2) (dp_ints ms), .lst (SqL.of upd_same) .nil, shaped_ints ms, rfl, _, rfl, ?_⟩
        rw [eqv_ints_nil]
        cases ms with
        | nil =>
          refine iteF ?_
          exact ⟨[], 0, d3, x2, rfl, hX.new hl0, hA2, hB2, hl1, q1, q3, q3'⟩
        | cons c ms =>
          refine iteT ?_
          refine ⟨fun σ H3 => ∃ (d1 d3 : Int) (x2 : Option V), σ = [some (.ref a), some (.int m), x2, none, none] ∧ ExS a b H H3 ∧ H3 a = some (.lst [.ref b, .int d1, .int (c2 + 1), .int d3]) ∧
            H3 b = some (.lst (ms.map V.int)) ∧ 0 ≤ d1 ∧ 0 ≤ d3 ∧ d3 < 2147483647, ?_, ?_⟩
          · rintro σ' H' ⟨d1, d3, x2, e, z1, z2, z3, z4, z5, z6⟩
            exact ⟨ms.length, Nat.lt_succ_self _, ms, d1, d3, x2, e, z1, z2, z3, by have : (c :: ms).length ≤ 63 := hl1; rw [List.length_cons] at this; omega, rfl, z4, z5, z6⟩
          · -- cell = abs(stream[0].pop(0))
            refine ⟨_, rfl, a, _, 0, .ref b, rfl, rfl, SqL.of hA2, rfl, .inl ⟨rfl, _, SqL.of hB2⟩, b, _, 0, 0, .int c, rfl, rfl, hB2, by decide, by decide, seqIndex_of (k := 0) (by decide) (by show (0 : Int) < (((c :: ms).map V.int).length : Int); rw [List.length_map, List.length_cons]; omega), rfl, _, rfl, ?_⟩
            have hA3 : upd (upd H1 l (.lst [])) b (.lst (ms.map V.int)) a = some (.lst [.ref b, .int 0, .int (c2 + 1), .int d3]) := by rw [upd_ne hab]; exact hA2
            -- stream[3] = int(stream[3] * 8191 + cell + 3) % 2147483647
            generalize hcell : (if c < 0 then -c else c) = cell
            have hc0 : 0 ≤ cell := by rw [← hcell]; split <;> omega
            refine ⟨_, rfl, a, _, 3, .int d3, rfl, rfl, SqL.of hA3, rfl, _, _, rfl, rfl, .inr ⟨by decide, by decide⟩, _, rfl, _, _, rfl, rfl, _, _, rfl, rfl, .inl ⟨_, rfl, ?_⟩⟩
            refine ⟨_, _, rfl, rfl, (by show (0 : Int) < 2147483647; decide), _, rfl, a, _, 3, 3, rfl, rfl, hA3, rfl, ?_⟩
            -- stream[1] = cell if cell >= 10 ** 18 else 0
            refine ⟨_, rfl, _, _, rfl, rfl, ⟨by decide, by decide, by decide⟩, _, _, rfl, rfl, _, rfl, ?_⟩
            refine ite2 (fun _ => ?_) (fun _ => ?_)
            · refine ⟨_, rfl, _, rfl, a, _, 1, 1, rfl, rfl, upd_same, rfl, ?_⟩
              exact ⟨cell, _, _, rfl, (((hX.new hl0).updb).upda).upda, upd_same, by rw [upd_ne hab.symm, upd_ne hab.symm, upd_same]; rfl, hc0, Int.emod_nonneg _ (by decide), Int.emod_lt_of_pos _ (by decide)⟩
            · refine ⟨_, rfl, a, _, 1, 1, rfl, rfl, upd_same, rfl, ?_⟩
              exact ⟨0, _, _, rfl, (((hX.new hl0).updb).upda).upda, upd_same, by rw [upd_ne hab.symm, upd_ne hab.symm, upd_same]; rfl, Int.le_refl _, Int.emod_nonneg _ (by decide), Int.emod_lt_of_pos _ (by decide)⟩
      · have e : decide (V.int d1 = V.int 0) = false := decide_eq_false (fun e => hd (V.int.inj e))
        rw [e]
        refine iteF ?_
        refine iteF ?_
        exact ⟨ms, d1, d3, x2, rfl, hX, hA1, hB1, hl1, q1, q3, q3'⟩
    · rintro σ H2 ⟨ms, d1, d3, x2, rfl, hX, hA2, hB2, hl2, q1, q3, q3'⟩
      refine ⟨_, rfl, a, _, 1, .int d1, rfl, rfl, SqL.of hA2, rfl, _, _, rfl, rfl, _, rfl, ?_⟩
      refine ite2 (fun hp => ?_) (fun hp => ?_)
      · refine ⟨_, rfl, a, _, 1, .int d1, rfl, rfl, SqL.of hA2, rfl, .inl ⟨_, rfl, _, rfl, _, _, rfl, rfl, hm0, ?_⟩⟩
        refine ⟨_, rfl, a, _, 1, .int d1, rfl, rfl, SqL.of hA2, rfl, _, rfl, _, _, rfl, rfl, ⟨hm0, by omega⟩, _, rfl, a, _, 1, 1, rfl, rfl, hA2, rfl, ?_⟩
        refine ⟨_, rfl, ?_⟩
        refine k _ _ hX.upda ⟨ms, d1 / m, c2 + 1, d3, upd_same, by rw [upd_ne hab.symm]; exact hB2, hl2, Int.ediv_nonneg q1 (by omega), by omega, by omega, q3, q3'⟩ (Int.emod_nonneg _ (by omega)) (Int.emod_lt_of_pos _ hm0)
      · refine ⟨_, rfl, a, _, 3, .int d3, rfl, rfl, SqL.of hA2, rfl, _, rfl, a, _, 2, .int (c2 + 1), rfl, rfl, SqL.of hA2, rfl, _, _, rfl, rfl, .inl ⟨by decide, by decide⟩, _, _, rfl, rfl, _, _, rfl, rfl, _, _, rfl, rfl, ⟨by decide, by decide, ?_⟩, .inl ⟨_, rfl, ?_⟩⟩
        · have : (2:Nat) ^ 64 = 18446744073709551616 := by decide
          rw [this]
          omega
        refine ⟨_, _, rfl, rfl, (by show (0 : Int) < 2147483629; decide), ?_⟩
        generalize hmx : ((d3 + 7919 * (c2 + 1) + 104729) ^ (5 : Int).toNat % 2147483629 : Int) = mx
        have hx0 : 0 ≤ mx := by rw [← hmx]; exact Int.emod_nonneg _ (by decide)
        have hx1 : mx < 2147483629 := by rw [← hmx]; exact Int.emod_lt_of_pos _ (by decide)
        refine ⟨_, rfl, _, _, rfl, rfl, .inr ⟨by decide, by decide⟩, _, rfl, a, _, 2, .int (c2 + 1), rfl, rfl, SqL.of hA2, rfl, _, _, rfl, rfl, .inl ⟨by decide, by decide⟩, _, _, rfl, rfl, _, _, rfl, rfl, _, _, rfl, rfl, ⟨by decide, by decide, ?_⟩, .inl ⟨_, rfl, ?_⟩⟩
        · have : (2:Nat) ^ 64 = 18446744073709551616 := by decide
          rw [this]
          omega
        refine ⟨_, _, rfl, rfl, (by show (0 : Int) < 1000000007; decide), _, rfl, _, _, rfl, rfl, hm0, ?_⟩
        exact k _ _ hX ⟨ms, d1, c2 + 1, d3, hA2, hB2, hl2, q1, by omega, by omega, q3, q3'⟩ (Int.emod_nonneg _ (by omega)) (Int.emod_lt_of_pos _ hm0)
end
end AA

set_option Elab.async false
set_option linter.all false
set_option maxRecDepth 100000
set_option maxHeartbeats 4000000
namespace AA
open PySem PySem.Spec PyProof.Rows L2 Evl
section
variable {P : Program} {w : World} {K : PySem.W.Frag} {mg : Str → Option Value} {base : Heap}
/-! ### _law_stream -/
def spStream (K : PySem.W.Frag) : Sp := fun vs H Q _ => ∃ (s : Addr) (ns : List Int), vs = [.ref s] ∧ SqL K H s (ns.map V.int) ∧ ns.length ≤ 63 ∧
  ∀ (H' : Hp) (a b : Addr), Ex H H' → H a = none → H b = none → SAt H' a b 0 → Q (.ref a) H'
theorem scStream : FnScope ["_law_script"] ["_law_script"] (defScope sStream) := ⟨rfl, rfl, rfl, by decide +kernel, rfl, by decide +kernel, by decide +kernel⟩
theorem ok_stream {f : Addr} {fd : FuncData} (F : L2.Fun K "_law_stream" "_law_stream" sStream f fd) (T : Bn mg) : FnOk P w K mg base CX0 1 f fd ["_law_script"] (spStream K) := by
  refine F.ok scStream (fun vs H Q E h => ?_) (fun cdv A outer s H vs Q E hr h => ?_)
  · obtain ⟨a, ns, rfl, _⟩ := h
    rfl
  · obtain ⟨s0, ns, rfl, hS, hl, k⟩ := h
    refine ⟨_, pss_one (ps_ret (pe_lst (pa_cons (pe_callTy call_list_of (by rfl) T.list boot_list (pa_cons (pv 0) pa_nil)) (pa_cons pe_int (pa_cons pe_int (pa_cons pe_int pa_nil)))))), ?_⟩
    refine ⟨_, rfl, s0, _, rfl, .inl hS, fun b hb => ⟨by show 4 ≤ sizeLine; decide, fun a ha => ?_⟩⟩
    have hba : b ≠ a := ne_of_none upd_same ha
    have ha0 : H a = none := fresh_back (Ex.new hb) ha
    exact k _ a b ((Ex.new hb).trans (Ex.new ha)) ha0 hb ⟨ns, 0, 0, 17, upd_same, by rw [upd_ne hba]; exact upd_same, hl, by decide, by decide, by decide, by decide, by decide⟩

/-! ### _law_pick -/
def spPick (K : PySem.W.Frag) : Sp := fun vs H Q _ => ∃ (a b : Addr) (n : Nat) (t : Addr) (xs : List V), vs = [.ref a, .ref t] ∧ SAt H a b n ∧ n < 1000000000 ∧ SqL K (hid a b H) t xs ∧ 0 < xs.length ∧ xs.length < 1000000 ∧
  ∀ (H' : Hp) (i : Nat) (x : V), ExS a b H H' → SAt H' a b (n + 1) → xs[i]? = some x → Q x H'
theorem scPick : FnScope ["_law_stream_here", "_law_things"] ["_law_stream_here", "_law_things"] (defScope sPick) := ⟨rfl, rfl, rfl, by decide +kernel, rfl, by decide +kernel, by decide +kernel⟩
theorem ok_pick {f : Addr} {fd : FuncData} (F : L2.Fun K "_law_pick" "_law_pick" sPick f fd) (T : Bn mg) (cD : C8.Cal P w K mg base 1 "_law_draw" spDraw []) : FnOk P w K mg base CX0 2 f fd ["_law_stream_here", "_law_things"] (spPick K) := by
  refine F.ok scPick (fun vs H Q E h => ?_) (fun cdv A outer s H vs Q E hr h => ?_)
  · obtain ⟨a, b, n, t, xs, rfl, _⟩ := h
    rfl
  · obtain ⟨a, b, n, t, xs, rfl, hS, hn, hX, h0, h1, k⟩ := h
    refine ⟨_, pss_one (ps_ret (pe_ix ix_list (pv 1) (C8.pe_c cD hr (by decide) (by rfl) (pa_cons (pv 0) (pa_cons (pe_callB call_len_seq (by rfl) T.len PySem.boot_len (pa_cons (pv 1) pa_nil)) pa_nil))) (fun _ _ => rfl))), ?_⟩
    refine ⟨_, rfl, _, rfl, _, rfl, t, xs, rfl, .inl (ex_l hid_ex hX), a, b, n, _, rfl, hS, hn, by omega, by omega, fun H' i hE hS' i0 i1 => ?_⟩
    obtain ⟨j, rfl⟩ : ∃ j : Nat, i = (j : Int) := ⟨i.toNat, by omega⟩
    have hj : j < xs.length := by omega
    refine ⟨t, xs, (j : Int), xs[j], rfl, rfl, ex_l (hid_ex) (ex_l hE hX), atI_nat (List.getElem?_eq_getElem hj), ?_⟩
    exact k H' j _ hE hS' (List.getElem?_eq_getElem hj)

/-! ### _law_mixed -/
def spMixed (K : PySem.W.Frag) : Sp := fun vs H Q _ => ∃ (a b : Addr) (n : Nat) (t : Addr) (xs : List V), vs = [.ref a, .ref t] ∧ SAt H a b n ∧ SqL K (hid a b H) t xs ∧ n + xs.length < 1000000000 ∧ xs.length < 1000000 ∧
  ∀ (H' : Hp) (p : Addr) (ys : List V), ExS a b H H' → SAt H' a b (n + xs.length) → H p = none → H' p = some (.lst ys) → ys.Perm xs → Q (.ref p) H'
theorem scMixed : FnScope ["_law_stream_here", "_law_things", "_law_left", "_law_found", "_law_k"] ["_law_stream_here", "_law_things"] (defScope sMixed) := ⟨rfl, rfl, rfl, by decide +kernel, rfl, by decide +kernel, by decide +kernel⟩
theorem perm_erase {α : Type} : ∀ {l : List α} {i : Nat} {x : α}, l[i]? = some x → (x :: l.eraseIdx i).Perm l
  | [], _, _, h => by simp at h
  | y :: r, 0, x, h => by
    cases (Option.some.inj h)
    exact List.Perm.refl _
  | y :: r, i + 1, x, h => by
    have h' : r[i]? = some x := h
    have ih := perm_erase h'
    exact (List.Perm.swap y x _).trans (ih.cons y)
theorem ok_mixed {f : Addr} {fd : FuncData} (F : L2.Fun K "_law_mixed" "_law_mixed" sMixed f fd) (T : Bn mg) (cD : C8.Cal P w K mg base 1 "_law_draw" spDraw []) : FnOk P w K mg base CX0 2 f fd ["_law_stream_here", "_law_things"] (spMixed K) := by
  refine F.ok scMixed (fun vs H Q E h => ?_) (fun cdv A outer s H vs Q E hr h => ?_)
  · obtain ⟨a, b, n, t, xs, rfl, _⟩ := h
    rfl
  · obtain ⟨a, b, n, t, xs, rfl, hS, hX, hn, h1, k⟩ := h
    refine ⟨_, pss_cons (ps_par (i := 2) (j := 3) (by rfl) scMixed.nd rfl rfl (by decide) rfl rfl (pa_cons (pe_callTy call_list_of (by rfl) T.list boot_list (pa_cons (pv 1) pa_nil)) (pa_cons (pe_lst pa_nil) pa_nil)) (by rfl))
      (pss_cons (ps_for PassesOwn.never rfl (pi_range1 rfl T.range (pa_cons (pe_callB call_len_seq (by rfl) T.len PySem.boot_len (pa_cons (pv 2) pa_nil)) pa_nil)) (pg_name (i := 4) scMixed.nd rfl (Or.inl rfl))
        (pss_one (ps_expr (pe_bm PySem.F.plainAttrs_list PySem.F.slot_list_append PySem.F.type_list_append mt_append (pv 3)
          (pa_cons (pe_bm PySem.F.plainAttrs_list PySem.F.slot_list_pop PySem.F.type_list_pop mt_popAt (pv 2) (pa_cons (C8.pe_c cD hr (by decide) (by rfl) (pa_cons (pv 0) (pa_cons (pe_callB call_len_seq (by rfl) T.len PySem.boot_len (pa_cons (pv 2) pa_nil)) pa_nil))) pa_nil)) pa_nil)))))
      (pss_one (ps_ret (pv 3)))), ?_⟩
    refine ⟨_, rfl, t, xs, rfl, .inl (ex_l hid_ex hX), fun l hl => ⟨Nat.zero_le _, fun g hg => ?_⟩⟩
    have hlg : l ≠ g := ne_of_none upd_same hg
    have hg0 : H g = none := fresh_back (Ex.new hl) hg
    have ee : Ex H (upd (upd H l (.lst xs)) g (.lst [])) := (Ex.new hl).trans (Ex.new hg)
    have hL : upd (upd H l (.lst xs)) g (.lst []) l = some (.lst xs) := by rw [upd_ne hlg]; exact upd_same
    refine ⟨_, _, rfl, ?_⟩
    refine ⟨_, rfl, l, xs, rfl, .inl (SqL.of hL), (xs.length : Int), rfl, ?_, ?_, for_range (lo := 0) (n := ((xs.length : Int)).toNat) (fun i σ H1 => ∃ (zs ys : List V) (x4 : Option V), σ = [some (.ref a), some (.ref t), some (.ref l), some (.ref g), x4] ∧
        ExS a b H H1 ∧ SAt H1 a b (n + i) ∧ H1 l = some (.lst zs) ∧ H1 g = some (.lst ys) ∧ (ys ++ zs).Perm xs ∧ ys.length = i) ?_ ?_ ?_⟩
    · omega
    · omega
    · exact ⟨xs, [], none, rfl, hid_mono ee, hS.ex ee, hL, upd_same, List.Perm.refl _, rfl⟩
    · rintro i σ H1 hi ⟨zs, ys, x4, rfl, hE, hS1, hL1, hG1, hp, hy⟩
      have hlen := hp.length_eq
      rw [List.length_append] at hlen
      have hz : 0 < zs.length := by omega
      refine ⟨_, rfl, .inl ⟨rfl, _, SqL.of hG1⟩, _, rfl, .inl ⟨rfl, _, SqL.of hL1⟩, _, rfl, _, rfl, l, zs, rfl, .inl (SqL.of hL1), a, b, n + i, _, rfl, hS1, by omega, by omega, by omega, fun H2 j hE2 hS2 j0 j1 => ?_⟩
      obtain ⟨j, rfl⟩ : ∃ m : Nat, j = (m : Int) := ⟨j.toNat, by omega⟩
      have hj : j < zs.length := by omega
      have la := hS.nea hl
      have lb := hS.neb hl
      have ga := hS.nea hg0
      have gb := hS.neb hg0
      have hL2 := hE2.at hL1 la lb
      have hG2 := hE2.at hG1 ga gb
      refine ⟨l, zs, (j : Int), j, zs[j], rfl, rfl, hL2, by omega, by omega, by rw [seqIndex_of (by omega) (by omega)]; rfl, List.getElem?_eq_getElem hj, ?_⟩
      have hG3 : upd H2 l (.lst (zs.eraseIdx j)) g = some (.lst ys) := by rw [upd_ne hlg.symm]; exact hG2
      refine ⟨g, ys, _, rfl, rfl, hG3, by rw [hy]; exact sz_m (by omega), ?_⟩
      refine ⟨zs.eraseIdx j, ys ++ [zs[j]], _, rfl, ?_, ((hS2.upd la lb).upd ga gb), by rw [upd_ne hlg]; exact upd_same, upd_same, ?_, by rw [List.length_append, hy]; rfl⟩
      · exact ExS.own (ExS.own (hE.trans hE2) hl la lb) hg0 ga gb
      · have q := perm_erase (List.getElem?_eq_getElem hj)
        rw [List.append_assoc]
        exact (List.Perm.append_left ys q).trans hp
    · rintro σ H1 ⟨zs, ys, x4, rfl, hE, hS1, hL1, hG1, hp, hy⟩
      have e : (xs.length : Int).toNat = xs.length := by omega
      have hz : zs = [] := by
        have hlen := hp.length_eq
        rw [List.length_append] at hlen
        exact List.eq_nil_of_length_eq_zero (by omega)
      subst hz
      rw [List.append_nil] at hp
      rw [e] at hS1
      exact ⟨_, rfl, k H1 g ys hE hS1 hg0 hG1 hp⟩
end
end AA

set_option Elab.async false
set_option linter.all false
set_option maxRecDepth 100000
set_option maxHeartbeats 4000000
namespace AA
open PySem PySem.Spec PyProof.Rows L2 Evl
section
variable {P : Program} {w : World} {K : PySem.W.Frag} {mg : Str → Option Value} {base : Heap}
/-! ### _law_amounts -/
def spAmounts : Sp := fun vs H Q _ => ∃ (a b : Addr) (n : Nat) (m : Int), vs = [.ref a, .int m] ∧ SAt H a b n ∧ n < 900000000 ∧
  ∀ (H' : Hp) (p : Addr) (x y : Int), ExS a b H H' → SAt H' a b (n + 2) → H p = none → H' p = some (.tup [.int x, .int y]) → -9 ≤ x → x ≤ 9 → -9 ≤ y → y ≤ 9 → Q (.ref p) H'
theorem scAmounts : FnScope ["_law_stream_here", "_law_way"] ["_law_stream_here", "_law_way"] (defScope sAmounts) := ⟨rfl, rfl, rfl, by decide +kernel, rfl, by decide +kernel, by decide +kernel⟩
theorem dec_int {x y : Int} : decide (V.int x = V.int y) = decide (x = y) := by
  by_cases h : x = y
  · subst h
    rw [decide_eq_true rfl, decide_eq_true rfl]
  · rw [decide_eq_false h, decide_eq_false (fun e => h (V.int.inj e))]
theorem dec_ite {A B : Prop} {p : Prop} [Decidable p] (h1 : p → A) (h2 : ¬ p → B) : if decide p = true then A else B := by
  by_cases h : p
  · rw [if_pos (decide_eq_true h)]
    exact h1 h
  · rw [if_neg (by rw [decide_eq_false h]; exact Bool.false_ne_true)]
    exact h2 h
theorem ok_amounts {f : Addr} {fd : FuncData} (F : L2.Fun K "_law_amounts" "_law_amounts" sAmounts f fd) (T : Bn mg) (cD : C8.Cal P w K mg base 1 "_law_draw" spDraw []) (cP : C8.Cal P w K mg base 2 "_law_pick" (spPick K) []) :
    FnOk P w K mg base CX0 3 f fd ["_law_stream_here", "_law_way"] spAmounts := by
  refine F.ok scAmounts (fun vs H Q E h => ?_) (fun cdv A outer s H vs Q E hr h => ?_)
  · obtain ⟨a, b, n, m, rfl, _⟩ := h
    rfl
  · obtain ⟨a, b, n, m, rfl, hS, hn, k⟩ := h
    refine ⟨_, pss_cons (ps_if (pt_cmpR op_eq (pv 1) pe_int (nomark _)) (pss_one (ps_ret (pe_tup (pa_cons (C8.pe_c cD hr (by decide) (by rfl) (pa_cons (pv 0) (pa_cons pe_int pa_nil))) (pa_cons (C8.pe_c cD hr (by decide) (by rfl) (pa_cons (pv 0) (pa_cons pe_int pa_nil))) pa_nil))))) pss_nil)
      (pss_cons (ps_if (pt_cmpR op_eq (pv 1) pe_int (nomark _)) (pss_one (ps_ret (pe_tup (pa_cons (pe_op op_sub (C8.pe_c cD hr (by decide) (by rfl) (pa_cons (pv 0) (pa_cons pe_int pa_nil))) pe_int) (pa_cons (pe_op op_sub (C8.pe_c cD hr (by decide) (by rfl) (pa_cons (pv 0) (pa_cons pe_int pa_nil))) pe_int) pa_nil))))) pss_nil)
      (pss_cons (ps_if (pt_cmpR op_eq (pv 1) pe_int (nomark _)) (pss_one (ps_ret (pe_tup (pa_cons (pe_op op_sub (C8.pe_c cD hr (by decide) (by rfl) (pa_cons (pv 0) (pa_cons pe_int pa_nil))) pe_int) (pa_cons (pe_op op_sub (C8.pe_c cD hr (by decide) (by rfl) (pa_cons (pv 0) (pa_cons pe_int pa_nil))) pe_int) pa_nil))))) pss_nil)
      (pss_one (ps_ret (pe_tup (pa_cons (C8.pe_c cP hr (by decide) (by rfl) (pa_cons (pv 0) (pa_cons (pe_lst (pa_cons pe_int (pa_cons pe_int (pa_cons pe_int (pa_cons pe_int (pa_cons pe_int pa_nil)))))) pa_nil)))
        (pa_cons (C8.pe_c cP hr (by decide) (by rfl) (pa_cons (pv 0) (pa_cons (pe_lst (pa_cons pe_int (pa_cons pe_int (pa_cons pe_int (pa_cons pe_int (pa_cons pe_int pa_nil)))))) pa_nil))) pa_nil))))))), ?_⟩
    refine ⟨_, rfl, rfl, _, rfl, ?_⟩
    refine ite2 (fun _ => ?_) (fun _ => ?_)
    · refine ⟨_, rfl, a, b, n, _, rfl, hS, by omega, by decide, by decide, fun H1 x e1 s1 x0 x1 => ?_⟩
      refine ⟨_, rfl, a, b, n + 1, _, rfl, s1, by omega, by decide, by decide, fun H2 y e2 s2 y0 y1 => ?_⟩
      refine ⟨by show 2 ≤ sizeLine; decide, fun p hp => ?_⟩
      exact k _ p x y (ExS.new (e1.trans e2) hp) (s2.ex (Ex.new hp)) (ExS.back (e1.trans e2) s2 hp) upd_same (by omega) (by omega) (by omega) (by omega)
    · refine ⟨_, rfl, rfl, _, rfl, ?_⟩
      refine ite2 (fun _ => ?_) (fun _ => ?_)
      · refine ⟨_, rfl, a, b, n, _, rfl, hS, by omega, by decide, by decide, fun H1 x e1 s1 x0 x1 => ?_⟩
        refine ⟨_, _, rfl, rfl, _, rfl, a, b, n + 1, _, rfl, s1, by omega, by decide, by decide, fun H2 y e2 s2 y0 y1 => ?_⟩
        refine ⟨_, _, rfl, rfl, by show 2 ≤ sizeLine; decide, fun p hp => ?_⟩
        exact k _ p (x - 4) (y - 4) (ExS.new (e1.trans e2) hp) (s2.ex (Ex.new hp)) (ExS.back (e1.trans e2) s2 hp) upd_same (by omega) (by omega) (by omega) (by omega)
      · refine ⟨_, rfl, rfl, _, rfl, ?_⟩
        refine ite2 (fun _ => ?_) (fun _ => ?_)
        · refine ⟨_, rfl, a, b, n, _, rfl, hS, by omega, by decide, by decide, fun H1 x e1 s1 x0 x1 => ?_⟩
          refine ⟨_, _, rfl, rfl, _, rfl, a, b, n + 1, _, rfl, s1, by omega, by decide, by decide, fun H2 y e2 s2 y0 y1 => ?_⟩
          refine ⟨_, _, rfl, rfl, by show 2 ≤ sizeLine; decide, fun p hp => ?_⟩
          exact k _ p (x - 9) (y - 9) (ExS.new (e1.trans e2) hp) (s2.ex (Ex.new hp)) (ExS.back (e1.trans e2) s2 hp) upd_same (by omega) (by omega) (by omega) (by omega)
        · refine ⟨_, rfl, by show 5 ≤ sizeLine; decide, fun l hl => ?_⟩
          have la := hS.nea hl
          have lb := hS.neb hl
          refine ⟨a, b, n, l, _, rfl, hS.upd la lb, by omega, SqL.of (by rw [hid_ne la lb]; exact upd_same), by decide, by decide, fun H1 i x e1 s1 hi => ?_⟩
          obtain ⟨c, hc, rfl⟩ := get_ints (ns := [0, 0, 0, 1, 3]) hi
          have hc1 : ∀ z ∈ ([0, 0, 0, 1, 3] : List Int), -9 ≤ z ∧ z ≤ 9 := by decide
          have hcb := hc1 c (mem_of_get hc)
          refine ⟨_, rfl, by show 5 ≤ sizeLine; decide, fun l2 hl2 => ?_⟩
          have la2 := s1.nea hl2
          have lb2 := s1.neb hl2
          refine ⟨a, b, n + 1, l2, _, rfl, s1.upd la2 lb2, by omega, SqL.of (by rw [hid_ne la2 lb2]; exact upd_same), by decide, by decide, fun H2 i2 y e2 s2 hi2 => ?_⟩
          obtain ⟨d, hd, rfl⟩ := get_ints (ns := [0, 0, 0, 1, 2]) hi2
          have hd1 : ∀ z ∈ ([0, 0, 0, 1, 2] : List Int), -9 ≤ z ∧ z ≤ 9 := by decide
          have hdb := hd1 d (mem_of_get hd)
          have ee : ExS a b H H2 := (hid_mono (Ex.new hl)).trans (e1.trans ((hid_mono (Ex.new hl2)).trans e2))
          refine ⟨by show 2 ≤ sizeLine; decide, fun p hp => ?_⟩
          exact k _ p c d (ExS.new ee hp) (s2.ex (Ex.new hp)) (ExS.back ee s2 hp) upd_same hcb.1 hcb.2 hdb.1 hdb.2
end
end AA

set_option Elab.async false
set_option linter.all false
set_option maxRecDepth 100000
set_option maxHeartbeats 4000000
namespace AA
open PySem PySem.Spec PyProof.Rows L2 Evl
section
variable {P : Program} {w : World} {K : PySem.W.Frag} {mg : Str → Option Value} {base : Heap}
/-! ### _law_step -/
def spStep (K : PySem.W.Frag) : Sp := fun vs H Q _ => ∃ (a b : Addr) (n : Nat) (o t m : Int), vs = [.ref a, .int o, .int t, .int m] ∧ SAt H a b n ∧ n < 800000000 ∧
  ∀ (H' : Hp) (p : Addr) (s : St5), ExS a b H H' → SAt H' a b (n + 5) → H p = none → Dp K (tps H') (.ref p) (stD s) → s.one = o → s.other = t → 1 ≤ s.ticks → StSm s → Q (.ref p) H'
theorem scStep : FnScope ["_law_stream_here", "_law_one", "_law_other", "_law_way", "_law_ticks", "_law_change"] ["_law_stream_here", "_law_one", "_law_other", "_law_way"] (defScope sStep) := ⟨rfl, rfl, rfl, by decide +kernel, rfl, by decide +kernel, by decide +kernel⟩
theorem ok_step {f : Addr} {fd : FuncData} (F : L2.Fun K "_law_step" "_law_step" sStep f fd) (T : Bn mg) (cD : C8.Cal P w K mg base 1 "_law_draw" spDraw []) (cP : C8.Cal P w K mg base 2 "_law_pick" (spPick K) []) (cA : C8.Cal P w K mg base 3 "_law_amounts" spAmounts []) :
    FnOk P w K mg base CX0 4 f fd ["_law_stream_here", "_law_one", "_law_other", "_law_way"] (spStep K) := by
  refine F.ok scStep (fun vs H Q E h => ?_) (fun cdv A outer s H vs Q E hr h => ?_)
  · obtain ⟨a, b, n, o, t, m, rfl, _⟩ := h
    rfl
  · obtain ⟨a, b, n, o, t, m, rfl, hS, hn, k⟩ := h
    refine ⟨_, pss_cons (ps_set (i := 4) scStep.nd rfl (Or.inl rfl) (pe_op op_add pe_int (C8.pe_c cD hr (by decide) (by rfl) (pa_cons (pv 0) (pa_cons (C8.pe_c cP hr (by decide) (by rfl) (pa_cons (pv 0) (pa_cons (pe_lst (pa_cons pe_int (pa_cons pe_int (pa_cons pe_int pa_nil)))) pa_nil))) pa_nil)))))
      (pss_cons (ps_set (i := 5) scStep.nd rfl (Or.inl rfl) (C8.pe_c cP hr (by decide) (by rfl) (pa_cons (pv 0) (pa_cons (pe_lst (pa_cons pe_int (pa_cons pe_int (pa_cons pe_int (pa_cons (pe_un un_neg pe_int) (pa_cons pe_int (pa_cons (pe_un un_neg pe_int) (pa_cons pe_int (pa_cons (pe_un un_neg pe_int) (pa_cons pe_int pa_nil)))))))))) pa_nil))))
      (pss_one (ps_ret (pe_tup (pa_cons (pv 1) (pa_cons (pv 2) (pa_cons (C8.pe_c cA hr (by decide) (by rfl) (pa_cons (pv 0) (pa_cons (pv 3) pa_nil))) (pa_cons (pv 4) (pa_cons (pv 5) pa_nil))))))))), ?_⟩
    -- ticks
    refine ⟨_, rfl, _, rfl, by show 3 ≤ sizeLine; decide, fun l hl => ?_⟩
    have la := hS.nea hl
    have lb := hS.neb hl
    refine ⟨a, b, n, l, _, rfl, hS.upd la lb, by omega, SqL.of (by rw [hid_ne la lb]; exact upd_same), by decide, by decide, fun H1 i x e1 s1 hi => ?_⟩
    obtain ⟨c, hc, rfl⟩ := get_ints (ns := [1, 2, 6]) hi
    have hc1 : ∀ z ∈ ([1, 2, 6] : List Int), 1 ≤ z ∧ z ≤ 6 := by decide
    have hcb := hc1 c (mem_of_get hc)
    refine ⟨a, b, n + 1, c, rfl, s1, by omega, by omega, by omega, fun H2 d e2 s2 d0 d1 => ?_⟩
    refine ⟨_, _, rfl, rfl, ?_⟩
    -- change
    refine ⟨_, rfl, _, rfl, _, rfl, _, rfl, by show 9 ≤ sizeLine; decide, fun l2 hl2 => ?_⟩
    have la2 := s2.nea hl2
    have lb2 := s2.neb hl2
    refine ⟨a, b, n + 2, l2, _, rfl, s2.upd la2 lb2, by omega, SqL.of (by rw [hid_ne la2 lb2]; exact upd_same), by decide, by decide, fun H3 j y e3 s3 hj => ?_⟩
    obtain ⟨g, hg, rfl⟩ := get_ints (ns := [0, 0, 1, -1, 2, -3, 5, -9, 9]) hj
    have hg1 : ∀ z ∈ ([0, 0, 1, -1, 2, -3, 5, -9, 9] : List Int), -9 ≤ z ∧ z ≤ 9 := by decide
    have hgb := hg1 g (mem_of_get hg)
    have ee : ExS a b H H3 := (hid_mono (Ex.new hl)).trans (e1.trans (e2.trans ((hid_mono (Ex.new hl2)).trans e3)))
    refine ⟨_, rfl, _, rfl, _, rfl, _, rfl, a, b, n + 3, m, rfl, s3, by omega, fun H4 u x y e4 s4 hu hu4 x0 x1 y0 y1 => ?_⟩
    refine ⟨_, rfl, _, rfl, by show 5 ≤ sizeLine; decide, fun p hp => ?_⟩
    have hpu : u ≠ p := ne_of_none hu4 hp
    have hu0 := ExS.back ee s3 hu
    have ua := s3.nea hu
    have ub := s3.neb hu
    have hp0 := ExS.back (ee.trans e4) s4 hp
    have pa := s4.nea hp
    have pb := s4.neb hp
    refine k _ p ⟨o, t, x, y, 1 + d, g⟩ (ExS.new (ee.trans e4) hp) (s4.ex (Ex.new hp)) hp0 (stD_mk (u := u) (SqT.of tps_tup) (SqT.of (tps_of ?_))) rfl rfl (by show 1 ≤ 1 + d; omega) ⟨x0, x1, y0, y1, by show 1 + d ≤ 6; omega, hgb.1, hgb.2⟩
    rw [upd_ne hpu]
    exact hu4
end
end AA

set_option Elab.async false
set_option linter.all false
set_option maxRecDepth 100000
set_option maxHeartbeats 4000000
namespace AA
open PySem PySem.Spec PyProof.Rows L2 Evl
theorem cut_to (xs : List V) (j : Nat) : cutV xs none (some (j : Int)) = xs.take j := by
  unfold cutV
  rw [HT.sIx_none, HT.sIx_nat, List.drop_zero, Nat.sub_zero]
  by_cases h : j ≤ xs.length
  · rw [Nat.min_eq_left h]
  · rw [Nat.min_eq_right (by omega), List.take_of_length_le (by omega), List.take_of_length_le (by omega)]
theorem perm_ints {ys : List V} {ns : List Int} (h : ys.Perm (ns.map V.int)) : ∃ ms : List Int, ys = ms.map V.int ∧ ms.Perm ns := by
  have all : ∀ (ys : List V), (∀ y ∈ ys, ∃ i, y = V.int i) → ∃ ms : List Int, ys = ms.map V.int := by
    intro ys
    induction ys with
    | nil => exact fun _ => ⟨[], rfl⟩
    | cons y r ih =>
      intro q
      obtain ⟨i, rfl⟩ := q y List.mem_cons_self
      obtain ⟨ms, rfl⟩ := ih fun z hz => q z (List.mem_cons_of_mem _ hz)
      exact ⟨i :: ms, rfl⟩
  obtain ⟨ms, rfl⟩ := all ys fun y hy => by
    obtain ⟨i, _, e⟩ := List.mem_map.mp (h.mem_iff.mp hy)
    exact ⟨i, e.symm⟩
  refine ⟨ms, rfl, ?_⟩
  have key := h.map (fun v => match v with | V.int i => i | _ => 0)
  rw [List.map_map, List.map_map] at key
  have e : (fun v => match v with | V.int i => i | _ => (0 : Int)) ∘ V.int = id := rfl
  rw [e, List.map_id, List.map_id] at key
  exact key
theorem rgV_ints (n : Int) : rgV 0 n = ((List.range n.toNat).map (fun i : Nat => (i : Int))).map V.int := by
  unfold rgV
  rw [List.map_map]
  have e : (n - 0).toNat = n.toNat := by congr 1; omega
  rw [e]
  apply List.map_congr_left
  intro i _
  show V.int (0 + (i : Int)) = V.int (i : Int)
  rw [Int.zero_add]
theorem range_nodup (n : Nat) : ((List.range n).map (fun i : Nat => (i : Int))).Nodup := by
  have h : (List.range n).Nodup := List.nodup_range
  rw [List.Nodup, List.pairwise_map]
  exact h.imp fun {x y} q z => q (by omega)
/-- a web as the laws draw it: places, unlike steps between them, small -/
structure WbOk (n : Int) (ss : List St5) : Prop where
  n1 : 1 ≤ n
  ok : ∀ s ∈ ss, StOk n s
  sm : ∀ s ∈ ss, StSm s
  nd : ss.Nodup
theorem WbOk.perm {n : Int} {ss ts : List St5} (h : WbOk n ss) (p : ts.Perm ss) : WbOk n ts := ⟨h.n1, fun s hs => h.ok s (p.mem_iff.mp hs), fun s hs => h.sm s (p.mem_iff.mp hs), p.symm.nodup h.nd⟩
theorem any_eqv (ss : List St5) (s : St5) : ((ss.map stD).any fun z => PyData.eqv z (stD s)) = decide (s ∈ ss) := by
  induction ss with
  | nil => rfl
  | cons t r ih =>
    rw [List.map_cons, List.any_cons, ih, stD_eqv]
    by_cases h : t = s
    · subst h
      rw [decide_eq_true rfl, decide_eq_true List.mem_cons_self]
      rfl
    · rw [decide_eq_false h]
      by_cases q : s ∈ r
      · rw [decide_eq_true q, decide_eq_true (List.mem_cons_of_mem _ q)]
        rfl
      · rw [decide_eq_false q, decide_eq_false (fun z => (List.mem_cons.mp z).elim (fun e => h e.symm) q)]
        rfl
/-- a permutation of items goes with one of what they say -/
theorem dpa_perm {K : PySem.W.Frag} {H : Hp} {xs ys : List V} (p : ys.Perm xs) : ∀ {ss : List St5}, DpAll K H xs (ss.map stD) → ∃ ts : List St5, ts.Perm ss ∧ DpAll K H ys (ts.map stD) := by
  induction p with
  | nil => exact fun {ss} h => ⟨ss, List.Perm.refl _, h⟩
  | @cons x l1 l2 _ ih =>
    intro ss h
    cases ss with
    | nil => cases h
    | cons s r =>
      cases h with
      | cons h1 h2 =>
        obtain ⟨ts, q, k⟩ := ih h2
        exact ⟨s :: ts, q.cons s, .cons h1 k⟩
  | swap x y l =>
    intro ss h
    cases ss with
    | nil => cases h
    | cons s r =>
      cases r with
      | nil =>
        cases h with
        | cons h1 h2 => cases h2
      | cons t r =>
        cases h with
        | cons h1 h2 =>
          cases h2 with
          | cons h2 h3 => exact ⟨t :: s :: r, List.Perm.swap s t r, .cons h2 (.cons h1 h3)⟩
  | trans _ _ ih1 ih2 =>
    intro ss h
    obtain ⟨ts, q, k⟩ := ih2 h
    obtain ⟨us, q2, k2⟩ := ih1 k
    exact ⟨us, q2.trans q, k2⟩
section
variable {P : Program} {w : World} {K : PySem.W.Frag} {mg : Str → Option Value} {base : Heap}
/-! ### _law_web -/
def spWeb (K : PySem.W.Frag) : Sp := fun vs H Q _ => ∃ (a b : Addr) (n : Nat) (o m : Int), vs = [.ref a, .int o, .int m] ∧ SAt H a b n ∧ n < 700000000 ∧ 1 ≤ o ∧ o ≤ 100 ∧ o ≤ m ∧ m ≤ 1000 ∧
  ∀ (H' : Hp) (p l : Addr) (k : Int) (vs : List V) (ss : List St5), ExS a b H H' → SAt H' a b (n + 20000) → H p = none → H l = none → H' p = some (.tup [.int k, .ref l]) → H' l = some (.lst vs) → DpAll K (tps H') vs (ss.map stD) → WbOk k ss → k ≤ o → (ss.length : Int) ≤ m → Q (.ref p) H'
theorem scWeb : FnScope ["_law_stream_here", "_law_most", "_law_many", "_law_places", "_law_way", "_law_found", "_law_ring", "_law_at", "_law_place", "_law_k", "_law_step_here"] ["_law_stream_here", "_law_most", "_law_many"] (defScope sWeb) := ⟨rfl, rfl, rfl, by decide +kernel, rfl, by decide +kernel, by decide +kernel⟩
theorem ok_web {f : Addr} {fd : FuncData} (F : L2.Fun K "_law_web" "_law_web" sWeb f fd) (T : Bn mg) (cD : C8.Cal P w K mg base 1 "_law_draw" spDraw []) (cM : C8.Cal P w K mg base 2 "_law_mixed" (spMixed K) []) (cS : C8.Cal P w K mg base 4 "_law_step" (spStep K) []) :
    FnOk P w K mg base CX0 5 f fd ["_law_stream_here", "_law_most", "_law_many"] (spWeb K) := by
  refine F.ok scWeb (fun vs H Q E h => ?_) (fun cdv A outer s H vs Q E hr h => ?_)
  · obtain ⟨a, b, n, o, m, rfl, _⟩ := h
    rfl
  · obtain ⟨a, b, n, o, m, rfl, hS, hn, o1, o2, om, m2, k⟩ := h
    refine ⟨_, Evl.pss_cut (ps_asg (pe_tup (pa_cons (pe_op op_add pe_int (C8.pe_c cD hr (by decide) (by rfl) (pa_cons (pv 0) (pa_cons (pv 1) pa_nil)))) (pa_cons (C8.pe_c cD hr (by decide) (by rfl) (pa_cons (pv 0) (pa_cons pe_int pa_nil))) (pa_cons (pe_lst pa_nil) (pa_cons (pe_lst pa_nil) pa_nil)))))
        (pg_tup rfl (pgs_cons (pg_name (i := 3) scWeb.nd rfl (.inl rfl)) (pgs_cons (pg_name (i := 4) scWeb.nd rfl (.inl rfl)) (pgs_cons (pg_name (i := 5) scWeb.nd rfl (.inl rfl)) (pgs_cons (pg_name (i := 6) scWeb.nd rfl (.inl rfl)) pgs_nil))))))
      (Evl.pss_cut (ps_if (pt_cmpR op_gt (C8.pe_c cD hr (by decide) (by rfl) (pa_cons (pv 0) (pa_cons pe_int pa_nil))) pe_int (nomark _))
          (pss_one (ps_set (i := 6) scWeb.nd rfl (Or.inl rfl) (pe_slice sl_list (C8.pe_c cM hr (by decide) (by rfl) (pa_cons (pv 0) (pa_cons (pe_listRg (by rfl) (by rfl) T.list (prg_1 (by rfl) T.range (pv 3))) pa_nil))) po_none (po_some (pe_op op_add pe_int (C8.pe_c cD hr (by decide) (by rfl) (pa_cons (pv 0) (pa_cons (pv 3) pa_nil)))))))) pss_nil)
      (Evl.pss_cut (ps_for PassesOwn.never rfl (pi_enum (by rfl) T.enumerate (pa_cons (pv 6) pa_nil)) (pg_tup rfl (pgs_cons (pg_name (i := 7) scWeb.nd rfl (.inl rfl)) (pgs_cons (pg_name (i := 8) scWeb.nd rfl (.inl rfl)) pgs_nil)))
          (pss_one (ps_expr (pe_bm PySem.F.plainAttrs_list PySem.F.slot_list_append PySem.F.type_list_append mt_append (pv 5) (pa_cons (C8.pe_c cS hr (by decide) (by rfl) (pa_cons (pv 0) (pa_cons (pe_ix ix_list (pv 6) (pe_op op_sub (pv 7) pe_int) (fun _ _ => rfl)) (pa_cons (pv 8) (pa_cons (pv 4) pa_nil))))) pa_nil)))))
      (Evl.pss_cut (ps_for PassesOwn.never rfl (pi_range1 rfl T.range (pa_cons (C8.pe_c cD hr (by decide) (by rfl) (pa_cons (pv 0) (pa_cons (pe_op op_add (pe_op op_sub (pv 2) (pe_callB call_len_seq (by rfl) T.len PySem.boot_len (pa_cons (pv 5) pa_nil))) pe_int) pa_nil))) pa_nil)) (pg_name (i := 9) scWeb.nd rfl (Or.inl rfl))
          (pss_cons (ps_set (i := 10) scWeb.nd rfl (Or.inl rfl) (C8.pe_c cS hr (by decide) (by rfl) (pa_cons (pv 0) (pa_cons (C8.pe_c cD hr (by decide) (by rfl) (pa_cons (pv 0) (pa_cons (pv 3) pa_nil))) (pa_cons (C8.pe_c cD hr (by decide) (by rfl) (pa_cons (pv 0) (pa_cons (pv 3) pa_nil))) (pa_cons (pv 4) pa_nil))))))
          (pss_one (ps_expr (pe_bm PySem.F.plainAttrs_list PySem.F.slot_list_extend PySem.F.type_list_extend mt_extend (pv 5) (pa_cons (pe_ifExp (pt_cmpR (op_notInD (Room.u65 hr)) (pv 10) (pv 5) (by rfl)) (pe_lst (pa_cons (pv 10) pa_nil)) (pe_lst pa_nil)) pa_nil))))))
      (pss_one (ps_ret (pe_tup (pa_cons (pv 3) (pa_cons (C8.pe_c cM hr (by decide) (by rfl) (pa_cons (pv 0) (pa_cons (pv 5) pa_nil))) pa_nil)))))))), ?_⟩
    -- places, way, found, ring
    refine ⟨fun σ H1 => ∃ (k y : Int) (g r : Addr), σ = [some (.ref a), some (.int o), some (.int m), some (.int k), some (.int y), some (.ref g), some (.ref r), none, none, none, none] ∧ ExS a b H H1 ∧ SAt H1 a b (n + 2) ∧
      H g = none ∧ H r = none ∧ g ≠ r ∧ H1 g = some (.lst []) ∧ H1 r = some (.lst []) ∧ 1 ≤ k ∧ k ≤ o, ?_, ?_⟩
    · refine ⟨_, rfl, _, rfl, a, b, n, o, rfl, hS, by omega, by omega, by omega, fun H1 d e1 s1 d0 d1 => ?_⟩
      refine ⟨_, _, rfl, rfl, _, rfl, a, b, n + 1, _, rfl, s1, by omega, by decide, by decide, fun H2 y e2 s2 y0 y1 => ?_⟩
      refine ⟨Nat.zero_le _, fun g hg => ⟨Nat.zero_le _, fun r hr0 => ?_⟩⟩
      have hgr : g ≠ r := ne_of_none upd_same hr0
      have hr1 : H2 r = none := by
        rw [upd_ne hgr.symm] at hr0
        exact hr0
      refine ⟨by show 4 ≤ sizeLine; decide, fun T hT => ?_⟩
      have hTr : r ≠ T := ne_of_none upd_same hT
      have hT1 : upd H2 g (.lst []) T = none := by
        rw [upd_ne hTr.symm] at hT
        exact hT
      have hTg : g ≠ T := ne_of_none upd_same hT1
      refine ⟨T, _, rfl, SqT.of upd_same, rfl, _, _, rfl, _, _, rfl, _, _, rfl, _, _, rfl, rfl, ?_⟩
      have e3 : ExS a b H H2 := e1.trans e2
      refine ⟨1 + d, y, g, r, rfl, ExS.new (ExS.new (ExS.new e3 hg) hr0) hT, ((s2.ex (Ex.new hg)).ex (Ex.new hr0)).ex (Ex.new hT), ExS.back e3 s2 hg, ExS.back e3 s2 hr1, hgr, ?_, ?_, by omega, by omega⟩
      · rw [upd_ne hTg, upd_ne hgr]
        exact upd_same
      · rw [upd_ne hTr]
        exact upd_same
    rintro σ H1 ⟨c, y, g, r, rfl, hE1, hS1, hg, hr1, hgr, hG1, hR1, c1, c2⟩
    have ga := hS.nea hg
    have gb := hS.neb hg
    -- ring
    refine ⟨fun σ H2 => ∃ (r : Addr) (ms : List Int), σ = [some (.ref a), some (.int o), some (.int m), some (.int c), some (.int y), some (.ref g), some (.ref r), none, none, none, none] ∧ ExS a b H H2 ∧ SAt H2 a b (n + 200) ∧
      H r = none ∧ g ≠ r ∧ H2 g = some (.lst []) ∧ H2 r = some (.lst (ms.map V.int)) ∧ ms.Nodup ∧ (∀ x ∈ ms, 0 ≤ x ∧ x < c) ∧ (ms.length : Int) ≤ c, ?_, ?_⟩
    · refine ⟨_, rfl, a, b, n + 2, _, rfl, hS1, by omega, by decide, by decide, fun H2 d e2 s2 d0 d1 => ?_⟩
      refine ⟨_, _, rfl, rfl, _, rfl, ?_⟩
      have hE2 : ExS a b H H2 := hE1.trans e2
      have hG2 : H2 g = some (.lst []) := e2.at hG1 ga gb
      have ra := hS.nea hr1
      have rb := hS.neb hr1
      have hR2 : H2 r = some (.lst []) := e2.at hR1 ra rb
      refine ite2 (fun _ => ?_) (fun _ => ?_)
      · refine ⟨_, rfl, _, rfl, _, rfl, RgOk.of_le (by omega) (by omega) (by omega) (by omega), fun q hq => ?_⟩
        have qa := s2.nea hq
        have qb := s2.neb hq
        have hqg : g ≠ q := ne_of_none hG2 hq
        have hlen : (rgV 0 c).length = c.toNat := by
          rw [rgV_length]
          congr 1
          omega
        refine ⟨a, b, n + 3, q, rgV 0 c, rfl, s2.upd qa qb, SqL.of (by rw [hid_ne qa qb]; exact upd_same), by omega, by omega, fun H3 p zs e3 s3 hp hP hperm => ?_⟩
        rw [rgV_ints] at hperm
        obtain ⟨ms, rfl, hms⟩ := perm_ints hperm
        have hnd : ms.Nodup := hms.symm.nodup (range_nodup _)
        have hml : ms.length = c.toNat := by rw [hms.length_eq, List.length_map, List.length_range]
        have hmb : ∀ x ∈ ms, 0 ≤ x ∧ x < c := fun x hx => by
          obtain ⟨i, hi, rfl⟩ := List.mem_map.mp (hms.mem_iff.mp hx)
          have := List.mem_range.mp hi
          omega
        have hE3 : ExS a b H H3 := hE2.trans ((hid_mono (Ex.new hq)).trans e3)
        have hG3 : H3 g = some (.lst []) := e3.at (by rw [upd_ne hqg]; exact hG2) ga gb
        -- [: 1 + draw]
        refine ⟨_, rfl, _, rfl, a, b, n + 3 + (rgV 0 c).length, c, rfl, s3, by omega, by omega, by omega, fun H4 d2 e4 s4 d20 d21 => ?_⟩
        refine ⟨_, _, rfl, rfl, _, rfl, ?_⟩
        have hq0 : H2 p = none := by
          have : upd H2 q (.lst (rgV 0 c)) p = none := hp
          by_cases hpq : p = q
          · rw [hpq]
            exact hq
          · rw [upd_ne hpq] at this
            exact this
        have hp0 : H p = none := ExS.back hE2 s2 hq0
        have hpa := hS.nea hp0
        have hpb := hS.neb hp0
        have hP4 : H4 p = some (.lst (ms.map V.int)) := e4.at hP hpa hpb
        have hG4 : H4 g = some (.lst []) := e4.at hG3 ga gb
        obtain ⟨j, hj⟩ : ∃ j : Nat, 1 + d2 = (j : Int) := ⟨(1 + d2).toNat, by omega⟩
        refine ⟨p, _, rfl, SqL.of hP4, fun u hu => ?_⟩
        rw [hj, cut_to, ← List.map_take]
        have hug : g ≠ u := ne_of_none hG4 hu
        refine ⟨u, ms.take j, rfl, ExS.new (hE3.trans e4) hu, (s4.ex (Ex.new hu)).mono (by omega), ExS.back (hE3.trans e4) s4 hu, hug, by rw [upd_ne hug]; exact hG4, upd_same, ?_, fun x hx => hmb x (List.mem_of_mem_take hx), ?_⟩
        · exact hnd.sublist (List.take_sublist _ _)
        · rw [List.length_take]
          omega
      · refine ⟨r, [], rfl, hE2, s2.mono (by omega), hr1, hgr, hG2, hR2, List.nodup_nil, fun x hx => absurd hx (by simp), by show (0 : Int) ≤ c; omega⟩
    rintro σ H2 ⟨r, ms, rfl, hE2, hS2, hr1, hgr, hG2, hR2, hnd, hmb, hml⟩
    have ra := hS.nea hr1
    have rb := hS.neb hr1
    have hmn : ms.length ≤ 100 := by omega
    -- the ring's steps
    refine ⟨fun σ H3 => ∃ (x7 x8 : Option V) (vs : List V) (ss : List St5), σ = [some (.ref a), some (.int o), some (.int m), some (.int c), some (.int y), some (.ref g), some (.ref r), x7, x8, none, none] ∧ ExS a b H H3 ∧ SAt H3 a b (n + 1000) ∧
      H3 g = some (.lst vs) ∧ DpAll K (tps H3) vs (ss.map stD) ∧ WbOk c ss ∧ (ss.length : Int) ≤ c, ?_, ?_⟩
    · refine ⟨_, rfl, r, _, rfl, SqL.of hR2, for_enumL (K := K) (a := r) (xs := ms.map V.int) (fun i σ H3 => ∃ (x7 x8 : Option V) (vs : List V) (ss : List St5), σ = [some (.ref a), some (.int o), some (.int m), some (.int c), some (.int y), some (.ref g), some (.ref r), x7, x8, none, none] ∧
        ExS a b H H3 ∧ SAt H3 a b (n + 200 + 5 * i) ∧ H3 g = some (.lst vs) ∧ H3 r = some (.lst (ms.map V.int)) ∧ DpAll K (tps H3) vs (ss.map stD) ∧ WbOk c ss ∧ ss.length = i ∧ ss.map (·.other) = ms.take i) ?_ ?_ ?_ ?_⟩
      · exact ⟨none, none, [], [], rfl, hE2, hS2, hG2, hR2, .nil, ⟨c1, fun s hs => absurd hs (by simp), fun s hs => absurd hs (by simp), List.nodup_nil⟩, rfl, rfl⟩
      · rintro i σ H3 _ ⟨x7, x8, vs, ss, rfl, _, _, _, hR3, _⟩
        exact SqL.of hR3
      · rintro i x σ H3 T hi ⟨x7, x8, vs, ss, rfl, hE3, hS3, hG3, hR3, hD3, hW, hlen, hot⟩ hT
        obtain ⟨z, hz, rfl⟩ := get_ints hi
        have hil : i < ms.length := (List.getElem?_eq_some_iff.mp hz).1
        have hgT : g ≠ T := ne_of_none hG3 hT
        have hrT : r ≠ T := ne_of_none hR3 hT
        refine ⟨T, _, rfl, SqT.of upd_same, rfl, _, _, rfl, _, _, rfl, rfl, ?_⟩
        have hG4 : upd H3 T (.tup [.int (i : Nat), .int z]) g = some (.lst vs) := by rw [upd_ne hgT]; exact hG3
        have hR4 : upd H3 T (.tup [.int (i : Nat), .int z]) r = some (.lst (ms.map V.int)) := by rw [upd_ne hrT]; exact hR3
        obtain ⟨u, hu, hum⟩ := atI_back (xs := ms.map V.int) (i := i) (by rw [List.length_map]; exact hil)
        obtain ⟨ui, hui, rfl⟩ := List.mem_map.mp hum
        refine ⟨_, rfl, .inl ⟨rfl, _, SqL.of hG4⟩, _, rfl, _, rfl, _, rfl, _, _, rfl, rfl, r, _, _, V.int ui, rfl, rfl, SqL.of hR4, hu, _, rfl, _, rfl, ?_⟩
        have s4 := hS3.ex (Ex.new (o := .tup [.int (i : Nat), .int z]) hT)
        refine ⟨a, b, n + 200 + 5 * i, ui, z, y, rfl, s4, by omega, fun H4 p st e4 s5 hp hd so st' k1 sm => ?_⟩
        have hG5 := e4.at hG4 ga gb
        have hR5 := e4.at hR4 ra rb
        refine ⟨g, vs, .ref p, rfl, rfl, hG5, ?_, ?_⟩
        · rw [dpa_len hD3, List.length_map, hlen]
          exact sz_m (by omega)
        · have hEE : ExS a b H H4 := Ex.trans (ExS.new hE3 hT) e4
          have tp : Ex (tps H3) (tps (upd H4 g (.lst (vs ++ [.ref p])))) := ((tps_mono (Ex.new hT)).trans (tps_hid e4 s4)).trans (tps_upd (NoTup.lst hG5))
          refine ⟨_, _, vs ++ [.ref p], ss ++ [st], rfl, ExS.own hEE hg ga gb, (s5.upd ga gb).mono (by omega), upd_same, by rw [upd_ne hgr.symm]; exact hR5, ?_, ?_, by rw [List.length_append, hlen]; rfl, ?_⟩
          · rw [List.map_append]
            exact dpa_app (dpa_ex tp _ _ hD3) (.cons (dp_ex (tps_upd (NoTup.lst hG5)) _ _ hd) .nil)
          · have hzm := hmb z (mem_of_get hz)
            have hum2 := hmb ui hui
            refine ⟨c1, fun s hs => ?_, fun s hs => ?_, ?_⟩
            · rcases List.mem_append.mp hs with hs | hs
              · exact hW.ok s hs
              · obtain rfl := List.mem_singleton.mp hs
                exact ⟨by omega, by omega, by omega, by omega, k1⟩
            · rcases List.mem_append.mp hs with hs | hs
              · exact hW.sm s hs
              · obtain rfl := List.mem_singleton.mp hs
                exact sm
            · refine List.nodup_append.mpr ⟨hW.nd, List.nodup_cons.mpr ⟨by simp, List.nodup_nil⟩, fun x hx y2 hy e => ?_⟩
              obtain rfl := List.mem_singleton.mp hy
              subst e
              have h1 : x.other ∈ ms.take i := by
                rw [← hot]
                exact List.mem_map.mpr ⟨x, hx, rfl⟩
              rw [st'] at h1
              obtain ⟨j, hj, e⟩ := List.mem_iff_getElem.mp h1
              rw [List.getElem_take] at e
              rw [List.length_take] at hj
              have := (List.getElem?_eq_some_iff.mp hz).2
              rw [← this] at e
              have := (List.getElem_inj hnd).mp e
              omega
          · rw [List.map_append, hot, List.take_add_one, hz]
            show _ ++ [st.other] = _ ++ [z]
            rw [st']
      · rintro σ H3 ⟨x7, x8, vs, ss, rfl, hE3, hS3, hG3, hR3, hD3, hW, hlen, hot⟩
        rw [List.length_map] at hlen hS3
        exact ⟨x7, x8, vs, ss, rfl, hE3, hS3.mono (by omega), hG3, hD3, hW, by omega⟩
    rintro σ H3 ⟨x7, x8, vs, ss, rfl, hE3, hS3, hG3, hD3, hW, hlen⟩
    -- more steps
    refine ⟨fun σ H4 => ∃ (x7 x8 x9 x10 : Option V) (vs : List V) (ss : List St5), σ = [some (.ref a), some (.int o), some (.int m), some (.int c), some (.int y), some (.ref g), some (.ref r), x7, x8, x9, x10] ∧ ExS a b H H4 ∧ SAt H4 a b (n + 10000) ∧
      H4 g = some (.lst vs) ∧ DpAll K (tps H4) vs (ss.map stD) ∧ WbOk c ss ∧ (ss.length : Int) ≤ m, ?_, ?_⟩
    · have hvl := dpa_len hD3
      rw [List.length_map] at hvl
      refine ⟨_, rfl, _, rfl, _, rfl, g, vs, rfl, .inl (SqL.of hG3), _, _, rfl, rfl, _, _, rfl, rfl, a, b, n + 1000, _, rfl, hS3, by omega, by rw [hvl]; omega, by rw [hvl]; omega, fun H4 t e4 s4 t0 t1 => ?_⟩
      rw [hvl] at t1
      refine ⟨t, rfl, by omega, by omega, for_range (lo := 0) (n := t.toNat) (fun i σ H4 => ∃ (x9 x10 : Option V) (vs : List V) (ss : List St5), σ = [some (.ref a), some (.int o), some (.int m), some (.int c), some (.int y), some (.ref g), some (.ref r), x7, x8, x9, x10] ∧
        ExS a b H H4 ∧ SAt H4 a b (n + 1001 + 7 * i) ∧ H4 g = some (.lst vs) ∧ DpAll K (tps H4) vs (ss.map stD) ∧ WbOk c ss ∧ (ss.length : Int) + (t - i) ≤ m) ?_ ?_ ?_⟩
      · exact ⟨none, none, vs, ss, rfl, hE3.trans e4, s4, e4.at hG3 ga gb, dpa_ex (tps_hid e4 hS3) _ _ hD3, hW, by omega⟩
      · rintro i σ H5 hi ⟨x9, x10, vs, ss, rfl, hE5, hS5, hG5, hD5, hW5, hl5⟩
        have hvl := dpa_len hD5
        rw [List.length_map] at hvl
        -- step_here
        refine ⟨_, rfl, _, rfl, _, rfl, a, b, n + 1001 + 7 * i, c, rfl, hS5, by omega, by omega, by omega, fun H6 d1 e6 s6 d10 d11 => ?_⟩
        refine ⟨_, rfl, _, rfl, a, b, n + 1001 + 7 * i + 1, c, rfl, s6, by omega, by omega, by omega, fun H7 d2 e7 s7 d20 d21 => ?_⟩
        refine ⟨_, rfl, a, b, n + 1001 + 7 * i + 2, d1, d2, y, rfl, s7, by omega, fun H8 p st e8 s8 hp hd so st' k1 sm => ?_⟩
        have hE8 : ExS a b H H8 := hE5.trans (e6.trans (e7.trans e8))
        have hG8 : H8 g = some (.lst vs) := e8.at (e7.at (e6.at hG5 ga gb) ga gb) ga gb
        have hD8 : DpAll K (tps H8) vs (ss.map stD) := dpa_ex (((tps_hid e6 hS5).trans (tps_hid e7 s6)).trans (tps_hid e8 s7)) _ _ hD5
        refine ⟨_, rfl, .inl ⟨rfl, _, SqL.of hG8⟩, _, rfl, _, rfl, stD st, ss.map stD, dp_ex tps_le _ _ hd, .lst (SqL.of hG8) (dpa_ex tps_le _ _ hD8), stD_shaped st, stDs_shaped ss, _, rfl, ?_⟩
        rw [any_eqv]
        have stok : StOk c st := ⟨by omega, by omega, by omega, by omega, k1⟩
        by_cases hin : st ∈ ss
        · rw [decide_eq_true hin]
          refine iteF ?_
          refine ⟨Nat.zero_le _, fun u hu => ?_⟩
          have hgu : g ≠ u := ne_of_none hG8 hu
          have hG9 : upd H8 u (.lst []) g = some (.lst vs) := by rw [upd_ne hgu]; exact hG8
          refine ⟨g, u, vs, [], rfl, rfl, hG9, upd_same, by rw [hvl, List.length_nil, Nat.add_zero]; exact sz_le (by omega), ?_⟩
          rw [List.append_nil]
          refine ⟨_, _, vs, ss, rfl, ExS.own (ExS.new hE8 hu) hg ga gb, ((s8.ex (Ex.new hu)).upd ga gb).mono (by omega), upd_same, dpa_ex ((tps_mono (Ex.new hu)).trans (tps_upd (NoTup.lst hG9))) _ _ hD8, hW5, by omega⟩
        · rw [decide_eq_false hin]
          refine iteT ?_
          refine ⟨_, rfl, by show 1 ≤ sizeLine; decide, fun u hu => ?_⟩
          have hgu : g ≠ u := ne_of_none hG8 hu
          have hG9 : upd H8 u (.lst [.ref p]) g = some (.lst vs) := by rw [upd_ne hgu]; exact hG8
          refine ⟨g, u, vs, [.ref p], rfl, rfl, hG9, upd_same, by rw [hvl, List.length_singleton]; exact sz_le (by omega), ?_⟩
          have tp : Ex (tps H8) (tps (upd (upd H8 u (.lst [.ref p])) g (.lst (vs ++ [.ref p])))) := (tps_mono (Ex.new hu)).trans (tps_upd (NoTup.lst hG9))
          refine ⟨_, _, vs ++ [.ref p], ss ++ [st], rfl, ExS.own (ExS.new hE8 hu) hg ga gb, ((s8.ex (Ex.new hu)).upd ga gb).mono (by omega), upd_same, ?_, ?_, by rw [List.length_append, List.length_singleton]; omega⟩
          · rw [List.map_append]
            exact dpa_app (dpa_ex tp _ _ hD8) (.cons (dp_ex tp _ _ hd) .nil)
          · refine ⟨c1, fun s hs => ?_, fun s hs => ?_, ?_⟩
            · rcases List.mem_append.mp hs with hs | hs
              · exact hW5.ok s hs
              · obtain rfl := List.mem_singleton.mp hs
                exact stok
            · rcases List.mem_append.mp hs with hs | hs
              · exact hW5.sm s hs
              · obtain rfl := List.mem_singleton.mp hs
                exact sm
            · refine List.nodup_append.mpr ⟨hW5.nd, List.nodup_cons.mpr ⟨by simp, List.nodup_nil⟩, fun x hx y2 hy e => ?_⟩
              obtain rfl := List.mem_singleton.mp hy
              subst e
              exact hin hx
      · rintro σ H5 ⟨x9, x10, vs, ss, rfl, hE5, hS5, hG5, hD5, hW5, hl5⟩
        exact ⟨x7, x8, x9, x10, vs, ss, rfl, hE5, hS5.mono (by omega), hG5, hD5, hW5, by omega⟩
    rintro σ H4 ⟨x7, x8, x9, x10, vs, ss, rfl, hE4, hS4, hG4, hD4, hW4, hl4⟩
    have hvl := dpa_len hD4
    rw [List.length_map] at hvl
    refine ⟨_, rfl, _, rfl, _, rfl, a, b, n + 10000, g, vs, rfl, hS4, SqL.of (by rw [hid_ne ga gb]; exact hG4), by omega, by omega, fun H5 p ys e5 s5 hp hP hperm => ?_⟩
    obtain ⟨ts, hts, hD5⟩ := dpa_perm hperm (dpa_ex (tps_hid e5 hS4) _ _ hD4)
    refine ⟨by show 2 ≤ sizeLine; decide, fun q hq => ?_⟩
    have hpq : p ≠ q := ne_of_none hP hq
    refine k _ q p c ys ts (ExS.new (hE4.trans e5) hq) ((s5.ex (Ex.new hq)).mono (by omega)) (ExS.back (hE4.trans e5) s5 hq) (ExS.back hE4 hS4 hp) upd_same (by rw [upd_ne hpq]; exact hP) (dpa_ex (tps_mono (Ex.new hq)) _ _ hD5) (hW4.perm hts) c2 (by rw [hts.length_eq]; exact hl4)
end
end AA

set_option Elab.async false
set_option linter.all false
set_option maxRecDepth 100000
set_option maxHeartbeats 4000000
/-! Defs that show things: they are called where nothing is being shown. -/
namespace AA
open PySem PySem.Spec PyProof.Rows L2 Evl
structure GOk (P : Program) (w : World) (K : PySem.W.Frag) (mg : Str → Option Value) (base : Heap)
    (k : Nat) (f : Addr) (fd : FuncData) (ps : List Str) (sp : Sp) : Prop where
  len : ∀ vs H Q E, sp vs H Q E → vs.length = ps.length
  run : ∀ (A : Around) (outer : List Env) (s : Shared) (H : Hp) (args : Args) (us : List Value) (vs : List V) (Q : VK),
    A.guards = some [] → Room k A → Env0 P w K mg base A outer s H → BindsTo s fd args (ps.zip us) → Vals vs us →
    sp vs H Q E0 → codeAny (model P w) A (.call (.ref f) args) (CR CX0 outer P w H s Q E0) s
section
variable {P : Program} {w : World} {K : PySem.W.Frag} {mg : Str → Option Value} {base : Heap}
theorem gok_of {x qual : Str} {st : Stmt} {f : Addr} {fd : FuncData} {N ps : List Str} {k : Nat} {sp : Sp}
    (F : L2.Fun K x qual st f fd) (S : FnScope N ps (defScope st)) (len : ∀ vs H Q E, sp vs H Q E → vs.length = ps.length)
    (body : ∀ (cdv : Value) (A : Around) (outer : List Env) (s : Shared) (H : Hp) (vs : List V) (Q : VK),
      A.guards = some [] → Room k (A.deeper (envOfC qual (defScope st) s.heap.objs.size f cdv)) → sp vs H Q E0 →
      ∃ t, PSs (cxOf CX0 P w K mg base N qual (defScope st) f cdv A outer s H E0) (defBody st) t ∧
        t { nx := fun _ H' => Q .non H', rt := Q } (start N vs) H) : GOk P w K mg base (k + 1) f fd ps sp := by
  obtain ⟨oc, od, kV, doc, pm, an, cdv, ct, osl, rfl, lk, hcd⟩ := F.ex
  refine ⟨len, fun A outer s H args us vs Q hg hr e0 hb r hs => ?_⟩
  exact LamX.run_ofS lk hcd S hr e0 hb r (len _ _ _ _ hs) fun hr' => body cdv A outer s H vs Q hg hr' hs
/-- what may be called so by its name -/
structure GCal (P : Program) (w : World) (K : PySem.W.Frag) (mg : Str → Option Value) (base : Heap) (k : Nat) (x : Str) (sp : Sp) : Prop where
  ex : ∃ (f : Addr) (fd : FuncData) (ps : List Str), GOk P w K mg base k f fd ps sp ∧ mg x = some (.ref f) ∧
    PySem.W.keepIn K (.ref f) = true ∧ Binds K fd ps []
end
section
variable {X : Cx} {k j : Nat} {x : Str} {sp : Sp} {p pos : Pos} {e : Expr} {es : List Expr} {t : TA}
theorem pe_g (c : GCal X.prog X.w X.K X.mg X.base k x sp) (hgd : X.A.guards = some []) (hr : Room j X.A) (hk : k ≤ j) (hg : Gl X x)
    (ha : PA X (e :: es) t) (hdb : (x == ("__debug__" : Str)) = false := by decide)
    (he : starEach (e :: es) X.env = (false, eval e X.env) :: starEach es X.env := by rfl)
    (hpl : (backTo pos (starEach es X.env)).any (·.1) = false := by rfl) :
    PE X (.Call (.Name x p) (e :: es) [] pos) (tCall sp [] E0 t) := by
  obtain ⟨f, fd, ps, G, hm, kp, b⟩ := c.ex
  refine ⟨fun pins s σ H Q I h => wpAny_Call_Name_kw (ld_glob I hg hm ?_ hdb)⟩
  refine PySem.W.callWith_K (h₀ := X.base) I.ok.mod.kin kp (thn (ha.run pos pins s σ H _ I h) fun us s1 z => ?_) he hpl
  obtain ⟨vs, H1, I1, r, q⟩ := z
  refine ⟨I1.kIn, ?_⟩
  rw [List.append_nil] at q
  have hl : us.length = ps.length := r.length.symm.trans (G.len _ _ _ _ q)
  have bb : BindsTo s1 fd ⟨us, []⟩ (ps.zip us) := by
    have z := b s1 us I1.kIn (by rw [List.append_nil]; exact hl)
    rw [List.append_nil] at z
    exact z
  refine wpAny_call (codeAny_mono (G.run X.A X.stack s1 H1 _ us vs Q hgd (hr.mono hk) I1.env0 bb r q) fun r' s' hq => ?_)
  cases r' with
  | error e => exact False.elim hq
  | ok fl =>
    cases fl with
    | ret u => exact I1.after hq
    | next => exact False.elim hq
    | brk => exact False.elim hq
    | cont => exact False.elim hq
/-- repr of data without dicts -/
def rRep (K : PySem.W.Frag) : List V → Hp → VK → Prop := fun xs H Q => ∃ (a : Addr) (d : PyData), xs = [.ref a] ∧ Dp K H (.ref a) d ∧
  d.showable = true ∧ d.hasDict = false ∧ d.depth ≤ 60 ∧ d.shown.length ≤ sizeLine ∧ Q (.str d.shown) H
theorem call_rep (hgd : X.A.guards = some []) (hr : Room j X.A) : CallR X (.builtin "repr") (rRep X.K) := by
  intro pins s σ H xs us Q I r h
  obtain ⟨a, d, rfl, hd, h1, h2, h3, h4, q⟩ := h
  obtain ⟨u, rfl, rx⟩ := vals1 r
  obtain ⟨as, rd⟩ := Dp.reads I d _ u hd rx
  obtain rfl : u = Value.ref a := rx
  have := hr.un
  refine repr_of_reads' rd h1 (PyData.noDict_hsm h2) hgd (by omega) (fun _ _ e => e) (fun h' v tk kp => ?_) h4
  exact ⟨.str d.shown, H, I.kept kp, ⟨v, rfl⟩, q⟩
end
/-! ### the law's own call -/
section
variable {P : Program} {w : World} {K : PySem.W.Frag} {mg mb : Str → Option Value} {k : Nat} {fa a : Addr} {fd : FuncData} {x : Str} {sp : Sp}
theorem g_core {s₁ : Shared} {vs : List Value} {H : Hp} (KX : K.In s₁.heap) (hns : s₁.heap.Ns mainGlobals mg) (hb : s₁.heap.Ns builtinsNs mb)
    (hbb : ∀ y : Str, y ≠ "__name__" → mb y = bootBuiltins y) (hlim : s₁.heap.NoLimit) (hg : s₁.gens = #[])
    (ha : s₁.heap.get? a = some { cls := .type "list", data := .seq vs.toArray }) (hr : Room k callerA)
    (F : ∀ bs : Heap, K.In bs → bs.Ns mainGlobals mg → GOk P w K mg bs k fa fd [x] sp)
    (hbind : ∀ (s : Shared) (u : Value), BindsTo s fd ⟨[u], []⟩ [(x, u)])
    (hO : Only H) (hok : HOk P w H s₁.heap) (hA : ∀ b, H b ≠ none → b = a) (hK : H a ≠ none → K.lookup a = none)
    (hsp : sp [.ref a] H (fun v _ => v = .bl true) E0) :
    codeAny (model P w) callerA (.call (.ref fa) ⟨[.ref a], []⟩)
      (fun r s' => r = .ok (.ret (.bool true)) ∧ OldK s₁.heap s'.heap ∧ s'.os = s₁.os ∧ AllBare s'.gens) s₁ := by
  have free : ∀ {b : Addr} {o : Obj}, s₁.heap.get? b = some o → o ≠ { cls := .type "list", data := .seq vs.toArray } → H b = none := by
    intro b o e ne
    cases q : H b with
    | none => rfl
    | some u =>
      have e' := hA b (by rw [q]; exact fun z => nomatch z)
      rw [e', ha] at e
      exact absurd (Option.some.inj e).symm ne
  have kin : K.In (hidT s₁.heap H) := by
    intro b o e
    refine hidT_get (KX b o e) ?_
    cases q : H b with
    | none => rfl
    | some u =>
      have e' := hA b (by rw [q]; exact fun z => nomatch z)
      rw [e', hK (by rw [← e', q]; exact fun z => nomatch z)] at e
      cases e
  have nsK : ∀ {b : Addr} {m : Str → Option Value}, s₁.heap.Ns b m → (hidT s₁.heap H).Ns b m := by
    rintro b m ⟨o, es, ep, e, d, r⟩
    refine ⟨o, es, ep, hidT_get e (free e fun z => ?_), d, r⟩
    rw [z] at d
    cases d
  have hM : Mod K mg (hidT s₁.heap H) := by
    obtain ⟨mc, h1, h2⟩ := hlim
    exact ⟨kin, nsK hns, ⟨mb, nsK hb, hbb⟩, ⟨mc, nsK h1, h2⟩⟩
  have none_in : ∀ b : Addr, b ∉ ([] : List Addr) := fun b z => nomatch z
  have e0 : Env0 P w K mg (hidT s₁.heap H) callerA [] s₁ H :=
    ⟨rfl, hM, fun b o e => of_hidT e, Nat.le_of_eq (hidT_size _ _), trivial, fun b z => absurd z (none_in b), hok, .of_eq hg⟩
  have G := F _ kin (nsK hns)
  refine codeAny_mono (G.run callerA [] s₁ H ⟨[.ref a], []⟩ [.ref a] [.ref a] _ rfl hr e0 (hbind s₁ (.ref a)) (.cons rfl .nil) hsp) ?_
  intro r s' h
  cases r with
  | error e => exact False.elim h
  | ok fl =>
    cases fl with
    | next => exact False.elim h
    | brk => exact False.elim h
    | cont => exact False.elim h
    | ret u =>
      obtain ⟨v, H', os, bare, un, hok', r', q⟩ := h
      cases (show v = .bl true from q)
      cases (show u = Value.bool true from r')
      refine ⟨rfl, OldK.of_keep fun b o e => ?_, os, bare⟩
      cases q : H b with
      | none => exact un.keep b o e q (none_in b) (none_in b)
      | some u =>
        rcases hO b with z | ⟨ob, xs, z⟩
        · rw [q] at z
          cases z
        · have e1 := (hok b _ z).1
          have e2 := (hok' b _ (un.frzs b ob _ z)).1
          rw [e] at e1
          cases e1
          exact e2
theorem g_call {s₁ : Shared} {vs : List Value} {ns : List Int} (KX : K.In s₁.heap) (hns : s₁.heap.Ns mainGlobals mg) (hb : s₁.heap.Ns builtinsNs mb)
    (hbb : ∀ y : Str, y ≠ "__name__" → mb y = bootBuiltins y) (hlim : s₁.heap.NoLimit) (hg : s₁.gens = #[])
    (ha : s₁.heap.get? a = some { cls := .type "list", data := .seq vs.toArray }) (hi : IntsAre vs ns) (hl : ns.length ≤ sizeLine) (hr : Room k callerA)
    (F : ∀ bs : Heap, K.In bs → bs.Ns mainGlobals mg → GOk P w K mg bs k fa fd [x] sp)
    (hbind : ∀ (s : Shared) (u : Value), BindsTo s fd ⟨[u], []⟩ [(x, u)])
    (hsp : ∀ H : Hp, Only H → SqL K H a (ns.map V.int) → sp [.ref a] H (fun v _ => v = .bl true) E0) :
    codeAny (model P w) callerA (.call (.ref fa) ⟨[.ref a], []⟩)
      (fun r s' => r = .ok (.ret (.bool true)) ∧ OldK s₁.heap s'.heap ∧ s'.os = s₁.os ∧ AllBare s'.gens) s₁ := by
  have rv := vals_ints hi
  have lv := hi.length
  have lm : (ns.map V.int).length ≤ sizeLine := by
    rw [List.length_map]
    exact hl
  cases hk : K.lookup a with
  | some o =>
    have e := KX a o hk
    rw [ha] at e
    cases e
    have hO : Only fun _ => none := fun _ => .inl rfl
    refine g_core (H := fun _ => none) KX hns hb hbb hlim hg ha hr F hbind hO (fun b u z => nomatch (show (none : Option HO) = some u from z)) (fun b z => absurd rfl z) (fun z => absurd rfl z) (hsp _ hO (.inr ?_))
    exact ⟨_, vs.toArray, _, hk, rfl, rfl, rfl, by rw [List.size_toArray, lv]; exact hl, by simpa using rv⟩
  | none =>
    let H1 : Hp := fun b => if b = a then some (.frz { cls := .type "list", data := .seq vs.toArray } (.lst (ns.map V.int))) else none
    have at1 : H1 a = some (.frz { cls := .type "list", data := .seq vs.toArray } (.lst (ns.map V.int))) := if_pos rfl
    have at2 : ∀ b, b ≠ a → H1 b = none := fun b h => if_neg h
    have hO : Only H1 := fun b => by
      by_cases h : b = a
      · exact .inr ⟨_, _, by rw [h]; exact at1⟩
      · exact .inl (at2 b h)
    refine g_core (H := H1) KX hns hb hbb hlim hg ha hr F hbind hO (fun b u z => ?_) (fun b z => ?_) (fun _ => hk) (hsp _ hO (.inl (.inr ⟨_, at1⟩)))
    · by_cases h : b = a
      · rw [h, at1] at z
        cases z
        rw [h]
        exact ⟨ha, lm, vs, _, rv, ha⟩
      · rw [at2 b h] at z
        cases z
    · by_cases h : b = a
      · exact h
      · exact absurd (at2 b h) z
theorem g_walk {l : PySem.W.OpenLaw} {n : Nat} {q : Program} {loose : List Str} {XP : (Str → Option Value) → Heap → Prop} {YP : World → Heap → Prop} {d : DefRec}
    {KK : Params → PySem.W.Frag} {spk : PySem.W.Frag → Sp} (hn : l.most = some n) (hn2 : n ≤ sizeLine) (hdf : d.params.defaults = []) (hr : Room k callerA)
    (hY : ∀ (w : World) (h : Heap), YP w h → (KK w.params).In h)
    (F : ∀ (w : World) (mg : Str → Option Value) (fa : Addr) (h : Heap), (KK w.params).In h → h.Ns mainGlobals mg → mg d.name = some (.ref fa) →
      ∃ fd : FuncData, (∀ (s : Shared) (u : Value), BindsTo s fd ⟨[u], []⟩ [(x, u)]) ∧
        ∀ bs : Heap, (KK w.params).In bs → bs.Ns mainGlobals mg → GOk l.prog w (KK w.params) mg bs k fa fd [x] (spk (KK w.params)))
    (hsp : ∀ (K : PySem.W.Frag) (H : Hp) (a : Addr) (ns : List Int), ns.length ≤ n → Only H → SqL K H a (ns.map V.int) → spk K [.ref a] H (fun v _ => v = .bl true) E0) :
    PySem.W.WalkO q loose XP YP l.row.toRowW d [] (fun f vs => PySem.call f vs) := by
  refine Att.attach_call hn hdf fun w s₀ s₁ mg mb fa o pm cd doc a vs ns G Y ho hd hcd hmg hobj hints hlen hg => ?_
  have KX := hY w _ Y
  obtain ⟨fd, hb, hF⟩ := F w mg fa _ KX G.T.g hmg
  exact g_call KX G.T.g G.T.b G.T.builtins G.T.nolimit hg hobj hints (Nat.le_trans hlen hn2) hr hF hb fun H hO hS => hsp _ H a ns hlen hO hS
end
end AA

set_option Elab.async false
set_option linter.all false
set_option maxRecDepth 100000
set_option maxHeartbeats 4000000
namespace AA
open PySem PySem.Spec PyProof.Rows L2 Evl
/-! ### lists for tuples, tuples for lists -/
mutual
inductive Ls : PyData → PyData → Prop
  | int (i : Int) : Ls (.int i) (.int i)
  | ll {xs ys : List PyData} : LsA xs ys → Ls (.list xs) (.list ys)
  | lt {xs ys : List PyData} : LsA xs ys → Ls (.list xs) (.tuple ys)
  | tl {xs ys : List PyData} : LsA xs ys → Ls (.tuple xs) (.list ys)
  | tt {xs ys : List PyData} : LsA xs ys → Ls (.tuple xs) (.tuple ys)
inductive LsA : List PyData → List PyData → Prop
  | nil : LsA [] []
  | cons {x y : PyData} {xs ys : List PyData} : Ls x y → LsA xs ys → LsA (x :: xs) (y :: ys)
end
theorem LsA.app : ∀ {xs ys us vs : List PyData}, LsA xs ys → LsA us vs → LsA (xs ++ us) (ys ++ vs)
  | [], _, _, _, h, k => by
    cases h
    exact k
  | x :: xs, _, _, _, h, k => by
    cases h with
    | cons h1 h2 => exact .cons h1 (LsA.app h2 k)
mutual
/-- allI in lists and tuples alone -/
def allI : PyData → Bool
  | .int _ => true
  | .list xs => allIA xs
  | .tuple xs => allIA xs
  | _ => false
def allIA : List PyData → Bool
  | [] => true
  | x :: xs => allI x && allIA xs
end
mutual
def cnt : PyData → Nat
  | .list xs => cntA xs + 1
  | .tuple xs => cntA xs + 1
  | _ => 1
def cntA : List PyData → Nat
  | [] => 0
  | x :: xs => cnt x + cntA xs
end
theorem cnt_pos : ∀ d : PyData, 1 ≤ cnt d
  | .none => Nat.le_refl _
  | .bool _ => Nat.le_refl _
  | .int _ => Nat.le_refl _
  | .str _ => Nat.le_refl _
  | .list xs => Nat.le_add_left _ _
  | .tuple xs => Nat.le_add_left _ _
  | .dict _ => Nat.le_refl _
theorem cntA_len : ∀ ds : List PyData, ds.length ≤ cntA ds
  | [] => Nat.le_refl _
  | d :: r => by
    have h1 := cnt_pos d
    have h2 := cntA_len r
    show r.length + 1 ≤ cnt d + cntA r
    omega
theorem cntA_app : ∀ (ds es : List PyData), cntA (ds ++ es) = cntA ds + cntA es
  | [], es => (Nat.zero_add _).symm
  | d :: r, es => by
    show cnt d + cntA (r ++ es) = cnt d + cntA r + cntA es
    rw [cntA_app r es, Nat.add_assoc]
theorem cntA_get {ds : List PyData} {i : Nat} {d : PyData} (h : ds[i]? = some d) : cntA (ds.take (i + 1)) = cntA (ds.take i) + cnt d := by
  rw [List.take_add_one, h]
  show cntA (ds.take i ++ [d]) = _
  rw [cntA_app]
  rfl
theorem cntA_take_le (ds : List PyData) (i : Nat) : cntA (ds.take i) ≤ cntA ds := by
  have : cntA ds = cntA (ds.take i ++ ds.drop i) := by rw [List.take_append_drop]
  rw [this, cntA_app]
  omega
theorem allIA_get : ∀ {ds : List PyData} {i : Nat} {d : PyData}, allIA ds = true → ds[i]? = some d → allI d = true
  | [], _, _, _, e => by simp at e
  | x :: xs, 0, d, h, e => by
    cases (Option.some.inj e)
    exact (Bool.and_eq_true_iff.mp h).1
  | x :: xs, i + 1, d, h, e => allIA_get (i := i) (Bool.and_eq_true_iff.mp h).2 e
theorem depthA_get : ∀ {ds : List PyData} {i : Nat} {d : PyData}, ds[i]? = some d → d.depth ≤ PyData.depthAll ds
  | [], _, _, e => by simp at e
  | x :: xs, 0, d, e => by
    cases (Option.some.inj e)
    show _ ≤ max _ _
    omega
  | x :: xs, i + 1, d, e => by
    have := depthA_get (ds := xs) (i := i) e
    show _ ≤ max _ _
    omega
theorem LsA.len : ∀ {xs ys : List PyData}, LsA xs ys → xs.length = ys.length
  | [], _, h => by
    cases h
    rfl
  | x :: xs, _, h => by
    cases h with
    | cons h1 h2 =>
      rw [List.length_cons, List.length_cons, LsA.len h2]
/-- a walk that is a list's or a tuple's -/
theorem pi_or {X : Cx} {tg l : Expr} {t1 t2 : TI} (h1 : PI X tg l t1) (h2 : PI X tg l t2) : PI X tg l (fun σ H R => t1 σ H R ∨ t2 σ H R) :=
  ⟨fun pins s σ H R I h => h.elim (h1.run pins s σ H R I) (h2.run pins s σ H R I)⟩
theorem ty_l {K : PySem.W.Frag} {H : Hp} {a : Addr} {xs : List V} (h : SqL K H a xs) : TyX K H (.ref a) (.type "list") := by
  rcases h with (h | ⟨o, h⟩) | ⟨o, its, n, h1, h2, _⟩
  · exact .base (.lst h)
  · exact .base (.frz h)
  · exact .kList h1 h2
theorem ty_t {K : PySem.W.Frag} {H : Hp} {a : Addr} {xs : List V} (h : SqT K H a xs) : TyX K H (.ref a) (.type "tuple") := by
  rcases h with (h | ⟨o, h⟩) | ⟨o, its, n, h1, h2, _⟩
  · exact .base (.tup h)
  · exact .fTuple h
  · exact .kTuple h1 h2
theorem seq_yes_l {K : PySem.W.Frag} : PySem.W.kitAny K (.type "list") [.type "list", .type "tuple"] = some true := kitAny_cons (b := true) (kit_ty (by decide +kernel)) (fun z => nomatch z) (fun _ => rfl)
theorem seq_yes_t {K : PySem.W.Frag} : PySem.W.kitAny K (.type "tuple") [.type "list", .type "tuple"] = some true :=
  kitAny_cons (b := false) (kit_ty (by decide +kernel)) (fun _ => kitAny_cons (b := true) (kit_ty (by decide +kernel)) (fun z => nomatch z) (fun _ => rfl)) (fun z => nomatch z)
theorem seq_no_i {K : PySem.W.Frag} : PySem.W.kitAny K (.type "int") [.type "list", .type "tuple"] = some false :=
  kitAny_cons (b := false) (kit_ty (by decide +kernel)) (fun _ => kitAny_cons (b := false) (kit_ty (by decide +kernel)) (fun _ => kitAny_nil) (fun z => nomatch z)) (fun z => nomatch z)
section
variable {P : Program} {w : World} {K : PySem.W.Frag} {mg : Str → Option Value} {base : Heap}
/-! ### _law_loose -/
def spLoose (K : PySem.W.Frag) (D : Nat) : Sp := fun vs H Q _ => ∃ (a b : Addr) (n : Nat) (v : V) (d : PyData), vs = [.ref a, v] ∧ SAt H a b n ∧ Dp K (hid a b H) v d ∧ allI d = true ∧ d.depth < D ∧ n + cnt d < 900000000 ∧ cnt d < 1000000 ∧
  ∀ (H' : Hp) (v' : V) (d' : PyData), ExS a b H H' → SAt H' a b (n + cnt d) → Dp K (nw H H') v' d' → Ls d d' → Q v' H'
theorem scLoose : FnScope ["_law_stream_here", "_law_thing", "_law_some", "_law_one"] ["_law_stream_here", "_law_thing"] (defScope sLoose) := ⟨rfl, rfl, rfl, by decide +kernel, rfl, by decide +kernel, by decide +kernel⟩
theorem ok_loose {f : Addr} {fd : FuncData} (F : L2.Fun K "_law_loose" "_law_loose" sLoose f fd) (T : Bn mg) (hm : mg "_law_loose" = some (.ref f)) (bL : Binds K fd ["_law_stream_here", "_law_thing"] []) (cD : C8.Cal P w K mg base 1 "_law_draw" spDraw []) :
    ∀ D : Nat, FnOk P w K mg base CX0 (D + 2) f fd ["_law_stream_here", "_law_thing"] (spLoose K D)
  | 0 => ⟨fun vs H Q E h => by
      obtain ⟨a, b, n, v, d, rfl, _⟩ := h
      rfl, fun A outer s H args us vs Q E _ _ _ _ h => by
      obtain ⟨a, b, n, v, d, _, _, _, _, h, _⟩ := h
      exact absurd h (Nat.not_lt_zero _)⟩
  | D + 1 => by
    have cL : C8.Cal P w K mg base (D + 2) "_law_loose" (spLoose K D) [] := cal_of F hm bL (ok_loose F T hm bL cD D)
    refine F.ok scLoose (fun vs H Q E h => ?_) (fun cdv A outer s H vs Q E hr h => ?_)
    · obtain ⟨a, b, n, v, d, rfl, _⟩ := h
      rfl
    · obtain ⟨a, b, n, v, d, rfl, hS, hd, hi, hdp, hn, hc, k⟩ := h
      refine ⟨_, pss_cons (ps_if (pt_val (pe_callB call_isiT (by rfl) T.isinstance boot_isinstance (pa_cons (pv 1) (pa_cons (pe_tup (pa_cons (pe_bltn (v := .ty "list") (by rfl) T.list boot_list rfl) (pa_cons (pe_bltn (v := .ty "tuple") (by rfl) T.tuple boot_tuple rfl) pa_nil))) pa_nil))))
          (pss_cons (ps_setLc (i := 2) (own := [("_law_one", 3)]) (g := gName 3) (tt := tYes) (by rfl) scLoose.nd rfl rfl (sw_true rfl rfl rfl (by decide +kernel)) (pi_or (pi_list (pv 1)) (pi_tup (pv 1))) (blkOk_by (N := ["_law_stream_here", "_law_thing", "_law_some", "_law_one"]) (sc := defScope sLoose) (by decide +kernel))
              (fun _ _ _ _ _ => pg_name (i := 3) scLoose.nd rfl (Or.inl rfl)) (fun _ _ _ _ _ => pts_nil) (fun _ _ _ _ _ => C8.pe_c cL hr (by omega) (by rfl) (pa_cons (pv 0) (pa_cons (pv 3) pa_nil))))
            (pss_one (ps_ret (pe_ifExp (pt_cmpR op_eq (C8.pe_c cD hr (by omega) (by rfl) (pa_cons (pv 0) (pa_cons pe_int pa_nil))) pe_int (nomark _)) (pv 2) (pe_callTy call_tuple_of (by rfl) T.tuple boot_tuple (pa_cons (pv 2) pa_nil)))))) pss_nil)
        (pss_one (ps_ret (pv 1))), ?_⟩
      refine ⟨_, rfl, by show 2 ≤ sizeLine; decide, fun p hp => ?_⟩
      have pa := hS.nea hp
      have pb := hS.neb hp
      have e1 : ExS a b H (upd H p (.tup [.ty "list", .ty "tuple"])) := ExS.new ExS.rfl hp
      have s1 := hS.ex (Ex.new (o := .tup [.ty "list", .ty "tuple"]) hp)
      -- the items, whatever they stand in
      have turn : ∀ (c : Addr) (xs : List V) (ds : List PyData) (L : Addr), DpAll K (hid a b H) xs ds → allIA ds = true → PyData.depthAll ds < D → n + cntA ds + 1 < 900000000 → cntA ds < 1000000 → H L = none →
          ∀ (i : Nat) (x : V) (H1 : Hp), xs[i]? = some x →
            (∃ (ys : List V) (es : List PyData), ExS a b H H1 ∧ SAt H1 a b (n + cntA (ds.take i)) ∧ H1 L = some (.lst ys) ∧ DpAll K (hid L L (nw H H1)) ys es ∧ LsA (ds.take i) es ∧ ys.length = i) →
            spLoose K D [.ref a, x] H1 (fun y H4 => ∃ acc, H4 L = some (.lst acc) ∧ acc.length < sizeLine ∧
              ∃ (ys : List V) (es : List PyData), ExS a b H (upd H4 L (.lst (acc ++ [y]))) ∧ SAt (upd H4 L (.lst (acc ++ [y]))) a b (n + cntA (ds.take (i + 1))) ∧ upd H4 L (.lst (acc ++ [y])) L = some (.lst ys) ∧
                DpAll K (hid L L (nw H (upd H4 L (.lst (acc ++ [y]))))) ys es ∧ LsA (ds.take (i + 1)) es ∧ ys.length = i + 1) E := by
        rintro c xs ds L hD hA hdep hn hc hL i x H1 hi ⟨ys, es, hE, hS1, hL1, hY, hLs, hyl⟩
        obtain ⟨di, hdi, hx⟩ := dpa_get hD hi
        have h1 := cntA_take_le ds (i + 1)
        rw [cntA_get hdi] at h1
        have hlen := cntA_len ds
        have hil : i < ds.length := (List.getElem?_eq_some_iff.mp hdi).1
        have la := hS.nea hL
        have lb := hS.neb hL
        refine ⟨a, b, n + cntA (ds.take i), x, di, rfl, hS1, dp_ex hE _ _ hx, allIA_get hA hdi, Nat.lt_of_le_of_lt (depthA_get hdi) hdep, by omega, by omega, fun H2 v' d' e2 s2 hv' hls => ?_⟩
        have hL2 : H2 L = some (.lst ys) := e2.at hL1 la lb
        have ups : Ex (hid L L (nw H H2)) (hid L L (nw H (upd H2 L (.lst (ys ++ [v']))))) := fun z o hz => by
          obtain ⟨z1, z2, _⟩ := hid_some hz
          obtain ⟨z3, z4⟩ := nw_some z1
          rw [hid_ne z2 z2]
          exact nw_of z3 (by rw [upd_ne z2]; exact z4)
        refine ⟨ys, hL2, by rw [hyl]; exact sz_m (by omega), ys ++ [v'], es ++ [d'], ExS.own (hE.trans e2) hL la lb, ?_, upd_same, ?_, ?_, by rw [List.length_append, hyl]; rfl⟩
        · rw [cntA_get hdi, ← Nat.add_assoc]
          exact s2.upd la lb
        · refine dpa_app (dpa_ex ((hid_mono (nw_step hS e2)).trans ups) _ _ hY) (.cons (dp_ex (Ex.trans (fun z o hz => ?_) ups) _ _ hv') .nil)
          obtain ⟨z1, z2⟩ := nw_some hz
          have zL : z ≠ L := fun q => by
            rw [q, hL1] at z1
            cases z1
          rw [hid_ne zL zL]
          exact nw_of (hE.back hS1 z1) z2
        · rw [List.take_add_one, hdi]
          exact LsA.app hLs (.cons hls .nil)
      -- behind the comprehension: what is handed back
      have fin1 : ∀ (ds : List PyData) (L : Addr) (ys : List V) (es : List PyData) (H1 H2 : Hp), H L = none → ExS a b H H1 → SAt H1 a b (n + cntA ds) → H1 L = some (.lst ys) → DpAll K (hid L L (nw H H1)) ys es → (Ls d (.list es) ∧ Ls d (.tuple es)) → cnt d = cntA ds + 1 →
          ExS a b H1 H2 → SAt H2 a b (n + cntA ds + 1) → Q (.ref L) H2 ∧ SqL K H2 L ys ∧ ∀ u, H2 u = none → Q (.ref u) (upd H2 u (.tup ys)) := by
        intro ds L ys es H1 H2 hL hE hS1 hL1 hY hls hcd e2 s2
        have la := hS.nea hL
        have lb := hS.neb hL
        have hL2 : H2 L = some (.lst ys) := e2.at hL1 la lb
        have hY2 := dpa_ex ((hid_mono (nw_step hS e2)).trans hid_ex) _ _ hY
        refine ⟨k H2 (.ref L) (.list es) (hE.trans e2) (s2.mono (by omega)) (.lst (SqL.of (nw_of hL hL2)) hY2) hls.1, SqL.of hL2, fun u hu => ?_⟩
        have hu0 : H u = none := ExS.back (hE.trans e2) s2 hu
        refine k _ (.ref u) (.tuple es) (ExS.new (hE.trans e2) hu) ((s2.ex (Ex.new hu)).mono (by omega)) (.tup (SqT.of (nw_of hu0 upd_same)) (dpa_ex (fun z o hz => ?_) _ _ hY2)) hls.2
        obtain ⟨z1, z2⟩ := nw_some hz
        exact nw_of z1 (Ex.new hu z o z2)
      rcases d with _ | b0 | i0 | x0 | ds | ds | kvs
      · cases hi
      · cases hi
      · cases hd
        refine ⟨.int i0, p, _, _, [.type "list", .type "tuple"], false, rfl, upd_same, .cons (.ty _) (.cons (.ty _) .nil), .base (.int i0), seq_no_i, false, rfl, ?_⟩
        refine iteF ?_
        refine ⟨_, rfl, k _ (.int i0) (.int i0) e1 (s1.mono (by omega)) (.int i0) (.int i0)⟩
      · cases hi
      · cases hd with
        | lst hx hD =>
          rename_i c xs
          have hA : allIA ds = true := hi
          have hdep : PyData.depthAll ds < D := Nat.lt_of_succ_lt_succ hdp
          have hcn : cnt (.list ds) = cntA ds + 1 := rfl
          rw [hcn] at hn hc
          have hxl := dpa_len hD
          refine ⟨_, p, _, _, [.type "list", .type "tuple"], true, rfl, upd_same, .cons (.ty _) (.cons (.ty _) .nil), ty_l (ex_l (e1.trans hid_ex) hx), seq_yes_l, true, rfl, ?_⟩
          refine iteT ?_
          refine Or.inl ⟨_, rfl, c, rfl, ⟨xs, ex_l (e1.trans hid_ex) hx⟩, fun L hL => ?_⟩
          have hL0 : H L = none := fresh_back (Ex.new hp) hL
          have la := hS.nea hL0
          have lb := hS.neb hL0
          refine lc_list (xs := xs) (fun i H1 => ∃ (ys : List V) (es : List PyData), ExS a b H H1 ∧ SAt H1 a b (n + cntA (ds.take i)) ∧ H1 L = some (.lst ys) ∧ DpAll K (hid L L (nw H H1)) ys es ∧ LsA (ds.take i) es ∧ ys.length = i) ?_ ?_ ?_ ?_
          · exact ⟨[], [], ExS.own e1 hL0 la lb, s1.upd la lb, upd_same, .nil, .nil, rfl⟩
          · rintro i H1 _ ⟨ys, es, q⟩
            exact ex_l (q.1.trans hid_ex) hx
          · rintro i x H1 hxi q
            refine ⟨rfl, ?_⟩
            exact ⟨_, rfl, _, rfl, turn c xs ds L hD hA hdep (by omega) (by omega) hL0 i x H1 hxi q⟩
          · rintro H1 ⟨ys, es, hE, hS1, hL1, hY, hls, hyl⟩
            rw [hxl, List.take_of_length_le (Nat.le_refl _)] at hls hS1
            refine ⟨_, rfl, a, b, n + cntA ds, 2, rfl, hS1, by omega, by decide, by decide, fun H2 x e2 s2 x0 x1 => ⟨rfl, _, rfl, ?_⟩⟩
            obtain ⟨f1, f2, f3⟩ := fin1 ds L ys es H1 H2 hL0 hE hS1 hL1 hY ⟨.ll hls, .lt hls⟩ hcn e2 s2
            refine dec_ite (fun _ => ?_) (fun _ => ?_)
            · exact ⟨_, rfl, f1⟩
            · exact ⟨_, rfl, L, ys, rfl, .inl ⟨f2, f3⟩⟩
      · cases hd with
        | tup hx hD =>
          rename_i c xs
          have hA : allIA ds = true := hi
          have hdep : PyData.depthAll ds < D := Nat.lt_of_succ_lt_succ hdp
          have hcn : cnt (.tuple ds) = cntA ds + 1 := rfl
          rw [hcn] at hn hc
          have hxl := dpa_len hD
          refine ⟨_, p, _, _, [.type "list", .type "tuple"], true, rfl, upd_same, .cons (.ty _) (.cons (.ty _) .nil), ty_t (ex_t (e1.trans hid_ex) hx), seq_yes_t, true, rfl, ?_⟩
          refine iteT ?_
          refine Or.inr ⟨_, rfl, c, rfl, ⟨xs, ex_t (e1.trans hid_ex) hx⟩, fun L hL => ?_⟩
          have hL0 : H L = none := fresh_back (Ex.new hp) hL
          have la := hS.nea hL0
          have lb := hS.neb hL0
          refine lc_tup (xs := xs) (fun i H1 => ∃ (ys : List V) (es : List PyData), ExS a b H H1 ∧ SAt H1 a b (n + cntA (ds.take i)) ∧ H1 L = some (.lst ys) ∧ DpAll K (hid L L (nw H H1)) ys es ∧ LsA (ds.take i) es ∧ ys.length = i) ?_ ?_ ?_ ?_
          · exact ⟨[], [], ExS.own e1 hL0 la lb, s1.upd la lb, upd_same, .nil, .nil, rfl⟩
          · rintro i H1 _ ⟨ys, es, q⟩
            exact ex_t (q.1.trans hid_ex) hx
          · rintro i x H1 hxi q
            refine ⟨rfl, ?_⟩
            exact ⟨_, rfl, _, rfl, turn c xs ds L hD hA hdep (by omega) (by omega) hL0 i x H1 hxi q⟩
          · rintro H1 ⟨ys, es, hE, hS1, hL1, hY, hls, hyl⟩
            rw [hxl, List.take_of_length_le (Nat.le_refl _)] at hls hS1
            refine ⟨_, rfl, a, b, n + cntA ds, 2, rfl, hS1, by omega, by decide, by decide, fun H2 x e2 s2 x0 x1 => ⟨rfl, _, rfl, ?_⟩⟩
            obtain ⟨f1, f2, f3⟩ := fin1 ds L ys es H1 H2 hL0 hE hS1 hL1 hY ⟨.tl hls, .tt hls⟩ hcn e2 s2
            refine dec_ite (fun _ => ?_) (fun _ => ?_)
            · exact ⟨_, rfl, f1⟩
            · exact ⟨_, rfl, L, ys, rfl, .inl ⟨f2, f3⟩⟩
      · cases hi
end
end AA

set_option Elab.async false
set_option linter.all false
set_option maxRecDepth 100000
set_option maxHeartbeats 4000000
/-! A function of the module, held as a value: isinstance of it. -/
namespace AA
open PySem PySem.Spec PyProof.Rows
theorem fl_lk : typeLookup (.type "function") "__class__" = pure (some (.builtin "object.__class__")) := by
  rw [typeLookup_type, builtinLookup_eq_fast]
  kernel_rfl
theorem fl_sub : isSubtype (.type "function") (.type (".".intercalate ("object.__class__".cutAt '.').dropLast)) = pure true := by
  rw [F.owner_object_class, isSubtype_type]
  kernel_rfl
theorem fl_ga : Slot "function" "__getattribute__" "object.__getattribute__" :=
  .of (owner := "object") (n := "__getattribute__") (by rw [typeLookup_type, builtinLookup_eq_fast]; kernel_rfl)
    (by decide +kernel) (by decide +kernel) (by decide +kernel) (by first | exact .inl (by decide +kernel) | exact .inr (by decide +kernel))
    (by rw [isSubtype_type]; kernel_rfl)
section
variable {prog : Program} {w : World} {A : Around} {E : Value → Shared → Prop} {h : Heap} {g : Array GenState} {d : Drawn} {t : Nat} {os : OsState} {a : Addr} {o : Obj}
theorem fl_get {R : Result → Shared → Prop} (hx : h.get? a = some o) (hc : o.cls = .type "function") (hq : R (.ok (.ret (.type "function"))) ⟨h, g, d, t, os⟩) :
    codeAny (model prog w) A (.call (.builtin "getset_descriptor.__get__") ⟨[.builtin "object.__class__", .ref a, .type "function"], []⟩) R ⟨h, g, d, t, os⟩ := by
  have hT : (⟨h, g, d, t, os⟩ : Shared).TypeIs (.ref a) "function" := ⟨_, hx, hc⟩
  have hT5 : (⟨h, g, d, t, os⟩ : Shared).TypeIs (.builtin "object.__class__") "getset_descriptor" := F.typeOf_object_class
  have f8 := fl_sub
  refine codeAny_call_builtin F.slot_gs_get.plain F.entry_gs_get (F.slot_gs_get.check _ _ _ _ _ _ _ _ hT5 (F.args_gs_get _ _ _) ?_)
  repeat (any_goals (first | assumption | wp_step))
  refine ⟨Code.quiet_builtin _ (by decide +kernel), codeAny_builtin F.entry_object_class ?_⟩
  repeat (any_goals (first | assumption | wp_step))
theorem fl_entry {tk : Tok} {Q : PySem.Fin → Shared → Prop} (hx : h.get? a = some o) (hc : o.cls = .type "function") (hq : Q (.done (.ret (.type "function"))) ⟨h, g, d, t, os⟩) :
    wpAny (model prog w) A (Builtin.«object.__getattribute__» ⟨[.ref a, .str "__class__" tk], []⟩) Q E ⟨h, g, d, t, os⟩ := by
  have hT : (⟨h, g, d, t, os⟩ : Shared).TypeIs (.ref a) "function" := ⟨_, hx, hc⟩
  have hT5 : (⟨h, g, d, t, os⟩ : Shared).TypeIs (.builtin "object.__class__") "getset_descriptor" := F.typeOf_object_class
  have f4 := fl_lk
  have f5 := F.typeOf_object_class
  have f6 := F.slot_gs_get.lookup
  have f7 := F.slot_gs_set.lookup
  repeat (any_goals (first | assumption | wp_step))
  refine fl_get hx hc ?_
  repeat (any_goals (first | assumption | wp_step))
theorem fl_call {tk : Tok} {R : Result → Shared → Prop} (hx : h.get? a = some o) (hc : o.cls = .type "function") (hq : R (.ok (.ret (.type "function"))) ⟨h, g, d, t, os⟩) :
    codeAny (model prog w) A (.call (.builtin "object.__getattribute__") ⟨[.ref a, .str "__class__" tk], []⟩) R ⟨h, g, d, t, os⟩ :=
  codeAny_call_builtin fl_ga.plain F.entry_object_getattribute
    (fl_ga.check _ _ _ _ _ _ _ _ (show (⟨h, g, d, t, os⟩ : Shared).TypeIs (.ref a) "function" from ⟨_, hx, hc⟩) (F.args_object_getattribute_2 _ _) (fl_entry hx hc hq))
theorem fl_by {tk : Tok} {Q : Value → Shared → Prop} (hx : h.get? a = some o) (hc : o.cls = .type "function") (hq : Q (.type "function") ⟨h, g, d, t, os⟩) :
    wpAny (model prog w) A (getAttrBy (.ref a) (.str "__class__" tk) false) Q E ⟨h, g, d, t, os⟩ := by
  have hT : (⟨h, g, d, t, os⟩ : Shared).TypeIs (.ref a) "function" := ⟨_, hx, hc⟩
  have f2 := fl_ga.lookup
  have f3 := fl_ga.bind (.ref a)
  repeat (any_goals (first | assumption | wp_step))
  refine fl_call hx hc ?_
  repeat (any_goals (first | assumption | wp_step))
theorem fl_attr {Q : Option Value → Shared → Prop} (hx : h.get? a = some o) (hc : o.cls = .type "function") (hq : Q (some (.type "function")) ⟨h, g, d, t + 1, os⟩) :
    wpAny (model prog w) A (getAttr? (.ref a) "__class__") Q E ⟨h, g, d, t, os⟩ := by
  unfold getAttr? getAttrBy?
  repeat (any_goals (first | assumption | with_reducible apply fl_by hx hc | wp_step))
end
theorem kitx_fn {K : PySem.W.Frag} {a : Addr} : PySem.W.KitX K (.ref a) (.type "function") (PySem.W.KitAt a "function") :=
  PySem.W.kitx_of PySem.W.kitAt_ty (fun {_ _ _ _ _ s} p k => by
    obtain ⟨h, g, d, t, os⟩ := s
    obtain ⟨o, h1, h2⟩ := p
    exact fl_attr h1 h2 k)
theorem fl_eq : Slot "function" (cmpInfo .Eq).2.1 "object.__eq__" :=
  .of (owner := "object") (n := "__eq__") (by rw [typeLookup_type, builtinLookup_eq_fast]; kernel_rfl)
    (by decide +kernel) (by decide +kernel) (by decide +kernel) (by first | exact .inl (by decide +kernel) | exact .inr (by decide +kernel))
    (by rw [isSubtype_type]; kernel_rfl)
section
open L2
variable {X : Cx} {j : Nat}
/-- what isinstance asks of a value: TyX, or a function of the module -/
def TyF (K : PySem.W.Frag) (H : Hp) (x : V) (t : Value) : Prop := TyX K H x t ∨ ∃ (a : Addr) (o : Obj), x = .ref a ∧ K.lookup a = some o ∧ o.cls = .type "function" ∧ t = .type "function"
theorem kit_F {pins : List (Addr × Obj)} {σ : L2.St} {H : Hp} {s : Shared} {x : V} {u t : Value} (I : Inv X pins σ H s) (rx : RelV x u) (ty : TyF X.K H x t) :
    ∃ P : Heap → Prop, PySem.W.KitX X.K u t P ∧ P s.heap ∧ u ≠ .builtin "__main__.__loader__#opaque" := by
  rcases ty with ty | ⟨a, o, rfl, h1, h2, rfl⟩
  · exact kit_of I rx ty
  · cases (show u = Value.ref a from rx)
    exact ⟨_, kitx_fn, ⟨o, I.kIn a o h1, h2⟩, fun z => nomatch z⟩
def rIs1 (K : PySem.W.Frag) : List V → Hp → VK → Prop := fun xs H Q => ∃ (x c : V) (t u : Value) (b : Bool), xs = [x, c] ∧ ClsV c u ∧ TyF K H x t ∧ PySem.W.kitOne K t u = some b ∧ Q (.bl b) H
def rIsN (K : PySem.W.Frag) : List V → Hp → VK → Prop := fun xs H Q => ∃ (x : V) (tp : Addr) (cs : List V) (t : Value) (us : List Value) (b : Bool), xs = [x, .ref tp] ∧ H tp = some (.tup cs) ∧ Paired ClsV cs us ∧ TyF K H x t ∧ PySem.W.kitAny K t us = some b ∧ Q (.bl b) H
theorem call_is1 : CallR X (.builtin "isinstance") (rIs1 X.K) := by
  intro pins s σ H xs us Q I r h
  obtain ⟨x, c, t, u, b, rfl, k, ty, e, q⟩ := h
  obtain ⟨u1, u2, rfl, r1, r2⟩ := vals2 r
  cases k.eq r2
  obtain ⟨P, Z, p, hx⟩ := kit_F I r1 ty
  exact PySem.W.kia_one Z I.kIn p e hx fun tk => ⟨.bl b, H, I.tok tk, rfl, q⟩
theorem call_isN : CallR X (.builtin "isinstance") (rIsN X.K) := by
  intro pins s σ H xs us Q I r h
  obtain ⟨x, tp, cs, t, ws, b, rfl, hT, k, ty, e, q⟩ := h
  obtain ⟨u1, u2, rfl, r1, r2⟩ := vals2 r
  cases (show u2 = Value.ref tp from r2)
  obtain ⟨P, Z, p, hx⟩ := kit_F I r1 ty
  obtain ⟨_, its, rv, ob, g1, g2, n, g3⟩ := (show ObjOk X.prog X.w H s.heap tp (.tup cs) from I.hok tp _ hT)
  cases ClsV.all k rv
  obtain ⟨oc, od, dt, sl⟩ := ob
  simp only at g2 g3
  subst g2 g3
  exact PySem.W.kia_tup Z I.kIn p g1 e hx fun tk => ⟨.bl b, H, I.tok tk, rfl, q⟩
/-- f == f, a function of the module -/
def rEqF (K : PySem.W.Frag) : R2 := fun x y H Q => ∃ (f : Addr) (o : Obj), x = .ref f ∧ y = .ref f ∧ K.lookup f = some o ∧ o.cls = .type "function" ∧ Q (.bl true) H
theorem op_eqF (hr : Room j X.A) : OpR X (compareOp .Eq) (rEqF X.K) := by
  intro pins s σ H x y v u Q I rx ry h
  obtain ⟨f, o, rfl, rfl, h1, h2, q⟩ := h
  cases (show v = Value.ref f from rx)
  cases (show u = Value.ref f from ry)
  have hT : s.TypeIs (.ref f) "function" := ⟨o, I.kIn f o h1, h2⟩
  show wpAny _ _ (richCompare .Eq (.ref f) (.ref f)) _ _ s
  refine wpAny_richCompare_same_room (op := .Eq) hT hT fl_eq (wpAny_call_entry fl_eq hT F.cmpEntry_eq (objEq_entry_same ?_) (F.cmpArgs_eq _ _)) hr.units0
  exact ⟨_, rfl, fun e => (nomatch e), ⟨.bl true, H, I, rfl, q⟩⟩
end
end AA

set_option Elab.async false
set_option linter.all false
set_option maxRecDepth 100000
set_option maxHeartbeats 4000000
namespace AA
open PySem PySem.Spec PyProof.Rows L2 Evl
theorem op_orR {X : Cx} {f : Value → Value → Sem Value} {r1 r2 : R2} (h1 : OpR X f r1) (h2 : OpR X f r2) : OpR X f (fun x y H Q => r1 x y H Q ∨ r2 x y H Q) :=
  fun pins s σ H x y v u Q I rx ry h => h.elim (h1 pins s σ H x y v u Q I rx ry) (h2 pins s σ H x y v u Q I rx ry)
/-! ### alike, kind by kind -/
def leaf : V → Bool
  | .non => true
  | .bl _ => true
  | .int _ => true
  | .str z => PyData.strOk z
  | _ => false
/-- what an own class must say, so that isinstance asks its instances rightly -/
structure InsK (K : PySem.W.Frag) (C : Addr) : Prop where
  cl : Cls K C
  ha : PySem.W.findIn K (.ref C) "__class__" = some (some (.builtin "object.__class__"))
  hn : PySem.W.specialIn K (.builtin "object.__class__") "__get__" = some (some (.builtin "getset_descriptor.__get__"))
  ht : PySem.W.takesIn K (.builtin "object.__class__") = some true
  hm : PySem.W.mroIn K C (.type "object") = some true
  n1 : PySem.W.kitAny K (.ref C) [.type "list", .type "tuple"] = some false
  n2 : PySem.W.kitOne K (.ref C) (.type "dict") = some false
  n3 : PySem.W.kitOne K (.ref C) (.type "bool") = some false
  n4 : PySem.W.kitAny K (.ref C) [.type "list", .type "tuple", .type "dict"] = some false
def Sm (K : PySem.W.Frag) (C : Addr) (R : Addr → Addr → Hp → Prop) (H : Hp) : Nat → V → V → Prop
  | 0, _, _ => False
  | n + 1, x, y => (x = y ∧ leaf x = true) ∨
      (∃ a b xs ys, x = .ref a ∧ y = .ref b ∧ SqL K H a xs ∧ SqL K H b ys ∧ Paired (Sm K C R H n) xs ys ∧ xs.length ≤ 1000000) ∨
      (∃ a b xs ys, x = .ref a ∧ y = .ref b ∧ SqT K H a xs ∧ SqT K H b ys ∧ Paired (Sm K C R H n) xs ys ∧ xs.length ≤ 1000000) ∨
      (∃ a b, x = .ref a ∧ y = .ref b ∧ H a = some (.dK []) ∧ H b = some (.dK []) ∧ 0 < n) ∨
      (∃ a dx fs, x = .ref a ∧ y = .ref a ∧ H a = some (.ins C dx fs) ∧ R a a H) ∨
      (∃ f o, x = .ref f ∧ y = .ref f ∧ K.lookup f = some o ∧ o.cls = .type "function")
theorem sm_ex {K : PySem.W.Frag} {C : Addr} {R : Addr → Addr → Hp → Prop} {H H' : Hp} (hR : ∀ a b H H', Ex H H' → R a b H → R a b H') (e : Ex H H') : ∀ (n : Nat) (x y : V), Sm K C R H n x y → Sm K C R H' n x y
  | 0, _, _, h => h
  | n + 1, x, y, h => by
    rcases h with h | ⟨a, b, xs, ys, h1, h2, h3, h4, h5, h6⟩ | ⟨a, b, xs, ys, h1, h2, h3, h4, h5, h6⟩ | ⟨a, b, h1, h2, h3, h4, h5⟩ | ⟨a, dx, fs, h1, h2, h3, h4⟩ | h
    · exact .inl h
    · exact .inr (.inl ⟨a, b, xs, ys, h1, h2, ex_l e h3, ex_l e h4, Paired.mapP h5 fun u v => sm_ex hR e n u v, h6⟩)
    · exact .inr (.inr (.inl ⟨a, b, xs, ys, h1, h2, ex_t e h3, ex_t e h4, Paired.mapP h5 fun u v => sm_ex hR e n u v, h6⟩))
    · exact .inr (.inr (.inr (.inl ⟨a, b, h1, h2, e _ _ h3, e _ _ h4, h5⟩)))
    · exact .inr (.inr (.inr (.inr (.inl ⟨a, dx, fs, h1, h2, e _ _ h3, hR _ _ _ _ e h4⟩))))
    · exact .inr (.inr (.inr (.inr (.inr h))))
theorem kit_no2 {K : PySem.W.Frag} {T : String} (h1 : kitB T "list" = some false) (h2 : kitB T "tuple" = some false) : PySem.W.kitAny K (.type T) [.type "list", .type "tuple"] = some false :=
  kitAny_cons (b := false) (kit_ty h1) (fun _ => kitAny_cons (b := false) (kit_ty h2) (fun _ => kitAny_nil) (fun z => nomatch z)) (fun z => nomatch z)
theorem kit_no3 {K : PySem.W.Frag} {T : String} (h1 : kitB T "list" = some false) (h2 : kitB T "tuple" = some false) (h3 : kitB T "dict" = some false) : PySem.W.kitAny K (.type T) [.type "list", .type "tuple", .type "dict"] = some false :=
  kitAny_cons (b := false) (kit_ty h1) (fun _ => kitAny_cons (b := false) (kit_ty h2) (fun _ => kitAny_cons (b := false) (kit_ty h3) (fun _ => kitAny_nil) (fun z => nomatch z)) (fun z => nomatch z)) (fun z => nomatch z)
/-- a thing that is no list, no tuple, no dict, no bool, and equal to itself -/
def Plain (K : PySem.W.Frag) (C : Addr) (R : Addr → Addr → Hp → Prop) (H : Hp) (x : V) : Prop := ∃ t : Value, (∀ H', Ex H H' → TyF K H' x t) ∧ PySem.W.kitAny K t [.type "list", .type "tuple"] = some false ∧
  PySem.W.kitOne K t (.type "dict") = some false ∧ PySem.W.kitOne K t (.type "bool") = some false ∧ PySem.W.kitAny K t [.type "list", .type "tuple", .type "dict"] = some false ∧
  ∀ (H' : Hp) (Q' : VK), Ex H H' → (∀ H2, Ex H' H2 → Q' (.bl true) H2) → (rEqD K x x H' Q' ∨ rEqF K x x H' Q') ∨ rEqG (DIns C R) x x H' Q'
theorem str_eqv (x : Str) : PyData.eqv (.str x) (.str x) = true := by
  show (x == x) = true
  exact beq_self_eq_true x
theorem sm_plain {K : PySem.W.Frag} {C : Addr} {R : Addr → Addr → Hp → Prop} {H : Hp} (IC : InsK K C) (hR : ∀ a b H H', Ex H H' → R a b H → R a b H') {n : Nat} {x y : V} (h : Sm K C R H (n + 1) x y) :
    (x = y ∧ Plain K C R H x) ∨ (∃ b, x = .bl b ∧ y = .bl b) ∨
      (∃ a b xs ys, x = .ref a ∧ y = .ref b ∧ SqL K H a xs ∧ SqL K H b ys ∧ Paired (Sm K C R H n) xs ys ∧ xs.length ≤ 1000000) ∨
      (∃ a b xs ys, x = .ref a ∧ y = .ref b ∧ SqT K H a xs ∧ SqT K H b ys ∧ Paired (Sm K C R H n) xs ys ∧ xs.length ≤ 1000000) ∨
      (∃ a b, x = .ref a ∧ y = .ref b ∧ H a = some (.dK []) ∧ H b = some (.dK []) ∧ 0 < n) := by
  rcases h with ⟨rfl, h⟩ | h | h | h | ⟨a, dx, fs, rfl, rfl, h3, h4⟩ | ⟨f, o, rfl, rfl, h1, h2⟩
  · cases x with
    | non => exact .inl ⟨rfl, .type "NoneType", fun _ _ => .inl (.base .non), kit_no2 (by decide +kernel) (by decide +kernel), kit_ty (by decide +kernel), kit_ty (by decide +kernel), kit_no3 (by decide +kernel) (by decide +kernel) (by decide +kernel), fun H' Q' e q => .inl (.inl ⟨.none, .none, .non, .non, rfl, rfl, q _ (Ex.refl _)⟩)⟩
    | bl b => exact .inr (.inl ⟨b, rfl, rfl⟩)
    | int i => exact .inl ⟨rfl, .type "int", fun _ _ => .inl (.base (.int i)), kit_no2 (by decide +kernel) (by decide +kernel), kit_ty (by decide +kernel), kit_ty (by decide +kernel), kit_no3 (by decide +kernel) (by decide +kernel) (by decide +kernel), fun H' Q' e q => .inl (.inl ⟨.int i, .int i, .int i, .int i, rfl, rfl, by
        have : PyData.eqv (.int i) (.int i) = true := beq_self_eq_true i
        rw [this]
        exact q _ (Ex.refl _)⟩)⟩
    | str z =>
      have hz : PyData.strOk z = true := h
      have hsh : SeqAt.shaped (.str z) = true := by
        show (PyData.strOk z && decide (PyData.depth (.str z) ≤ 64)) = true
        rw [hz]
        rfl
      exact .inl ⟨rfl, .type "str", fun _ _ => .inl (.base (.str z)), kit_no2 (by decide +kernel) (by decide +kernel), kit_ty (by decide +kernel), kit_ty (by decide +kernel), kit_no3 (by decide +kernel) (by decide +kernel) (by decide +kernel), fun H' Q' e q => .inl (.inl ⟨.str z, .str z, .str z, .str z, hsh, hsh, by
        rw [str_eqv]
        exact q _ (Ex.refl _)⟩)⟩
    | byt b => cases h
    | flt b => cases h
    | ref a => cases h
    | ty n => cases h
  · exact .inr (.inr (.inl h))
  · exact .inr (.inr (.inr (.inl h)))
  · exact .inr (.inr (.inr (.inr h)))
  · exact .inl ⟨rfl, .ref C, fun H' e => .inl (.base (.ins (e _ _ h3) IC.cl IC.ha IC.hn IC.ht IC.hm)), IC.n1, IC.n2, IC.n3, IC.n4, fun H' Q' e q => .inr ⟨⟨a, a, dx, dx, fs, fs, rfl, rfl, e _ _ h3, e _ _ h3, hR _ _ _ _ e h4⟩, fun H2 e2 => q H2 e2⟩⟩
  · exact .inl ⟨rfl, .type "function", fun _ _ => .inr ⟨f, o, rfl, h1, h2, rfl⟩, kit_no2 (by decide +kernel) (by decide +kernel), kit_ty (by decide +kernel), kit_ty (by decide +kernel), kit_no3 (by decide +kernel) (by decide +kernel) (by decide +kernel), fun H' Q' e q => .inl (.inr ⟨f, o, rfl, rfl, h1, h2, q _ (Ex.refl _)⟩)⟩
theorem paired_at {α β : Type} {F : α → β → Prop} : ∀ {xs : List α} {ys : List β} {i : Nat} {x : α}, Paired F xs ys → xs[i]? = some x → ∃ y, ys[i]? = some y ∧ F x y
  | _, _, _, _, .nil, e => by simp at e
  | _, _, 0, _, .cons r _, e => ⟨_, rfl, (Option.some.inj e) ▸ r⟩
  | _, _, i + 1, _, .cons _ t, e => paired_at (i := i) t e
theorem lc_zipL {K : PySem.W.Frag} {a b : Addr} {xs ys : List V} {g : TG} {tt : TT} {te : TE} {vs : List Nat} {σ : L2.St} {H1 : Hp} {D : Addr} {Qd : Hp → Prop} (hl : xs.length = ys.length) (Pv : Nat → Hp → Prop) (h0 : Pv 0 (upd H1 D (.lst [])))
    (hq : ∀ i H, Pv i H → SqL K H a xs ∧ SqL K H b ys)
    (hs : ∀ (i : Nat) (x y : V) (H : Hp) (T : Addr), xs[i]? = some x → ys[i]? = some y → Pv i H → H T = none → g (.ref T) (wipe σ vs) (upd H T (.tup [x, y])) fun σ2 H2 => wipe σ2 vs = wipe σ vs ∧ tt σ2 H2 fun c H3 =>
      if c = true then te σ2 H3 fun z H4 => ∃ acc, H4 D = some (.lst acc) ∧ acc.length < sizeLine ∧ Pv (i + 1) (upd H4 D (.lst (acc ++ [z]))) else Pv (i + 1) H3) (hd : ∀ H, Pv xs.length H → Qd H) :
    ∃ W : Nat → Nat → Hp → Prop, (∃ m, W 0 m (upd H1 D (.lst []))) ∧ ∀ i m H, W i m H →
      ((Itz K a b).stop i H ∧ Qd H) ∨ ((Itz K a b).go i H ∧ ∃ Nx : Hp → Prop, (∀ H', Nx H' → ∃ m', m' < m ∧ W (i + 1) m' H') ∧ ∀ x H', (Itz K a b).yld i H x H' → g x (wipe σ vs) H' fun σ2 H2 => wipe σ2 vs = wipe σ vs ∧ tt σ2 H2 fun c H3 =>
        if c = true then te σ2 H3 fun z H4 => ∃ acc, H4 D = some (.lst acc) ∧ acc.length < sizeLine ∧ Nx (upd H4 D (.lst (acc ++ [z]))) else Nx H3) := by
  refine ⟨fun i m H => m = xs.length - i ∧ i ≤ xs.length ∧ Pv i H, ⟨xs.length, by simp, Nat.zero_le _, h0⟩, ?_⟩
  rintro i m H ⟨rfl, hi, p⟩
  obtain ⟨q1, q2⟩ := hq i H p
  by_cases hlt : i < xs.length
  · have g1 : xs[i]? = some xs[i] := List.getElem?_eq_getElem hlt
    have g2 : ys[i]? = some (ys[i]'(by omega)) := List.getElem?_eq_getElem (by omega)
    refine .inr ⟨⟨xs, ys, _, _, q1, q2, g1, g2⟩, Pv (i + 1), fun H' p' => ⟨xs.length - (i + 1), by omega, rfl, hlt, p'⟩, fun x H' y => ?_⟩
    obtain ⟨T, z1, z2, rfl, hT, rfl, f1, f2⟩ := y
    exact hs i z1 z2 H T (f1 _ q1) (f2 _ q2) p hT
  · have e : i = xs.length := by omega
    subst e
    exact .inl ⟨⟨xs, ys, q1, q2, .inl (Nat.le_refl _)⟩, hd H p⟩
theorem lc_zipT {K : PySem.W.Frag} {a b : Addr} {xs ys : List V} {g : TG} {tt : TT} {te : TE} {vs : List Nat} {σ : L2.St} {H1 : Hp} {D : Addr} {Qd : Hp → Prop} (hl : xs.length = ys.length) (Pv : Nat → Hp → Prop) (h0 : Pv 0 (upd H1 D (.lst [])))
    (hq : ∀ i H, Pv i H → SqT K H a xs ∧ SqT K H b ys)
    (hs : ∀ (i : Nat) (x y : V) (H : Hp) (T : Addr), xs[i]? = some x → ys[i]? = some y → Pv i H → H T = none → g (.ref T) (wipe σ vs) (upd H T (.tup [x, y])) fun σ2 H2 => wipe σ2 vs = wipe σ vs ∧ tt σ2 H2 fun c H3 =>
      if c = true then te σ2 H3 fun z H4 => ∃ acc, H4 D = some (.lst acc) ∧ acc.length < sizeLine ∧ Pv (i + 1) (upd H4 D (.lst (acc ++ [z]))) else Pv (i + 1) H3) (hd : ∀ H, Pv xs.length H → Qd H) :
    ∃ W : Nat → Nat → Hp → Prop, (∃ m, W 0 m (upd H1 D (.lst []))) ∧ ∀ i m H, W i m H →
      ((RZ.ItzT K a b).stop i H ∧ Qd H) ∨ ((RZ.ItzT K a b).go i H ∧ ∃ Nx : Hp → Prop, (∀ H', Nx H' → ∃ m', m' < m ∧ W (i + 1) m' H') ∧ ∀ x H', (RZ.ItzT K a b).yld i H x H' → g x (wipe σ vs) H' fun σ2 H2 => wipe σ2 vs = wipe σ vs ∧ tt σ2 H2 fun c H3 =>
        if c = true then te σ2 H3 fun z H4 => ∃ acc, H4 D = some (.lst acc) ∧ acc.length < sizeLine ∧ Nx (upd H4 D (.lst (acc ++ [z]))) else Nx H3) := by
  refine ⟨fun i m H => m = xs.length - i ∧ i ≤ xs.length ∧ Pv i H, ⟨xs.length, by simp, Nat.zero_le _, h0⟩, ?_⟩
  rintro i m H ⟨rfl, hi, p⟩
  obtain ⟨q1, q2⟩ := hq i H p
  by_cases hlt : i < xs.length
  · have g1 : xs[i]? = some xs[i] := List.getElem?_eq_getElem hlt
    have g2 : ys[i]? = some (ys[i]'(by omega)) := List.getElem?_eq_getElem (by omega)
    refine .inr ⟨⟨xs, ys, _, _, q1, q2, g1, g2⟩, Pv (i + 1), fun H' p' => ⟨xs.length - (i + 1), by omega, rfl, hlt, p'⟩, fun x H' y => ?_⟩
    obtain ⟨T, z1, z2, rfl, hT, rfl, f1, f2⟩ := y
    exact hs i z1 z2 H T (f1 _ q1) (f2 _ q2) p hT
  · have e : i = xs.length := by omega
    subst e
    exact .inl ⟨⟨xs, ys, q1, q2, .inl (Nat.le_refl _)⟩, hd H p⟩
theorem all_true (n : Nat) : (List.replicate n true).all id = true := by
  rw [List.all_eq_true]
  intro x hx
  rw [(List.mem_replicate.mp hx).2]
  rfl
section
variable {P : Program} {w : World} {K : PySem.W.Frag} {mg : Str → Option Value} {base : Heap}
def spSame (K : PySem.W.Frag) (C : Addr) (R : Addr → Addr → Hp → Prop) (n : Nat) : Sp := fun vs H Q _ => ∃ (x y : V), vs = [x, y] ∧ Sm K C R H n x y ∧ ∀ H', Ex H H' → Q (.bl true) H'
theorem scSame : FnScope ["_law_found", "_law_due_here", "_law_mine", "_law_theirs"] ["_law_found", "_law_due_here"] (defScope sSame) := ⟨rfl, rfl, rfl, by decide +kernel, rfl, by decide +kernel, by decide +kernel⟩
theorem ok_same {C : Addr} {R : Addr → Addr → Hp → Prop} {f fE : Addr} {fd fdE : FuncData} (F : L2.Fun K "_law_same" "_law_same" sSame f fd) (T : Bn mg) (hm : mg "_law_same" = some (.ref f)) (bS : Binds K fd ["_law_found", "_law_due_here"] [])
    (IC : InsK K C) (hR : ∀ a b H H', Ex H H' → R a b H → R a b H')
    (GE : FnOk P w K mg base CX0 1 fE fdE ["self", "other"] (spEq R)) (hs : PySem.W.findIn K (.ref C) "__eq__" = some (some (.ref fE))) (hf : PySem.W.isFn K (.ref fE) = true) (bE : Binds K fdE ["self", "other"] []) :
    ∀ n : Nat, FnOk P w K mg base CX0 (n + 2) f fd ["_law_found", "_law_due_here"] (spSame K C R n)
  | 0 => ⟨fun vs H Q E h => by
      obtain ⟨x, y, rfl, _⟩ := h
      rfl, fun A outer s H args us vs Q E _ _ _ _ h => by
      obtain ⟨x, y, _, h, _⟩ := h
      exact h.elim⟩
  | n + 1 => by
    have cS : C8.Cal P w K mg base (n + 2) "_law_same" (spSame K C R n) [] := cal_of F hm bS (ok_same F T hm bS IC hR GE hs hf bE n)
    refine F.ok scSame (fun vs H Q E h => ?_) (fun cdv A outer s H vs Q E hr h => ?_)
    · obtain ⟨x, y, rfl, _⟩ := h
      rfl
    · obtain ⟨x, y, rfl, hsm, k⟩ := h
      have rE : RcG (cxOf CX0 P w K mg base ["_law_found", "_law_due_here", "_law_mine", "_law_theirs"] "_law_same" (defScope sSame) f cdv A outer s H E).nox 1 (DIns C R) := rcG_ins (E := E0) GE hs hf bE pass0
      refine ⟨_, pss_cons (ps_if (pt_val (pe_callB call_isN (by rfl) T.isinstance boot_isinstance (pa_cons (pv 1) (pa_cons (pe_tup (pa_cons (pe_bltn (v := .ty "list") (by rfl) T.list boot_list rfl) (pa_cons (pe_bltn (v := .ty "tuple") (by rfl) T.tuple boot_tuple rfl) pa_nil))) pa_nil))))
          (pss_cons (ps_if (PW.pt (pw_or (pt_cmpR op_ne (pe_callB call_is1 (by rfl) T.isinstance boot_isinstance (pa_cons (pv 0) (pa_cons (pe_bltn (v := .ty "list") (by rfl) T.list boot_list rfl) pa_nil))) (pe_callB call_is1 (by rfl) T.isinstance boot_isinstance (pa_cons (pv 1) (pa_cons (pe_bltn (v := .ty "list") (by rfl) T.list boot_list rfl) pa_nil))) (nomark _))
              (pw_or1 (pt_cmpR op_ne (pe_callB call_is1 (by rfl) T.isinstance boot_isinstance (pa_cons (pv 0) (pa_cons (pe_bltn (v := .ty "tuple") (by rfl) T.tuple boot_tuple rfl) pa_nil))) (pe_callB call_is1 (by rfl) T.isinstance boot_isinstance (pa_cons (pv 1) (pa_cons (pe_bltn (v := .ty "tuple") (by rfl) T.tuple boot_tuple rfl) pa_nil))) (nomark _)))))
              (pss_one (ps_ret pe_bl)) pss_nil)
            (pss_one (ps_ret (pe_and (pe_cmpR op_eq (pe_callB call_len_seq (by rfl) T.len PySem.boot_len (pa_cons (pv 0) pa_nil)) (pe_callB call_len_seq (by rfl) T.len PySem.boot_len (pa_cons (pv 1) pa_nil)) (nomark _))
              (pe_one (pe_callB (cr_all (by rfl)) (by rfl) T.all boot_all (pa_cons (pe_lc (own := [("_law_mine", 2), ("_law_theirs", 3)]) (g := gTup K 2 (gCons (gName 2) (gCons (gName 3) gNil))) (tt := tYes) (by rfl) scSame.nd (RZ.pi_zipA (by rfl) T.zip (pa_cons (pv 0) (pa_cons (pv 1) pa_nil))) (blkOk_by (N := ["_law_found", "_law_due_here", "_law_mine", "_law_theirs"]) (sc := defScope sSame) (by decide +kernel))
                (fun _ _ _ _ _ => pg_tup rfl (pgs_cons (pg_name (i := 2) scSame.nd rfl (Or.inl rfl)) (pgs_cons (pg_name (i := 3) scSame.nd rfl (Or.inl rfl)) pgs_nil))) (fun _ _ _ _ _ => pts_nil) (fun _ _ _ _ _ => C8.pe_c cS hr (by omega) (by rfl) (pa_cons (pv 2) (pa_cons (pv 3) pa_nil)))) pa_nil))))))) pss_nil)
        (pss_cons (ps_if (pt_val (pe_callB call_is1 (by rfl) T.isinstance boot_isinstance (pa_cons (pv 1) (pa_cons (pe_bltn (v := .ty "dict") (by rfl) T.dict boot_dict rfl) pa_nil))))
          (pss_one (ps_ret (pe_and (pe_callB call_is1 (by rfl) T.isinstance boot_isinstance (pa_cons (pv 0) (pa_cons (pe_bltn (v := .ty "dict") (by rfl) T.dict boot_dict rfl) pa_nil)))
            (pe_one (C8.pe_c cS hr (by omega) (by rfl) (pa_cons (LiI.pe_listItems (by rfl) (pv 0) (by rfl) T.list boot_list) (pa_cons (LiI.pe_listItems (by rfl) (pv 1) (by rfl) T.list boot_list) pa_nil))))))) pss_nil)
        (pss_cons (ps_if (PW.pt (pw_or (pt_val (pe_callB call_is1 (by rfl) T.isinstance boot_isinstance (pa_cons (pv 1) (pa_cons (pe_bltn (v := .ty "bool") (by rfl) T.bool boot_bool rfl) pa_nil)))) (pw_or1 (pt_val (pe_callB call_is1 (by rfl) T.isinstance boot_isinstance (pa_cons (pv 0) (pa_cons (pe_bltn (v := .ty "bool") (by rfl) T.bool boot_bool rfl) pa_nil)))))))
          (pss_one (ps_ret (pe_and (pe_callB call_is1 (by rfl) T.isinstance boot_isinstance (pa_cons (pv 1) (pa_cons (pe_bltn (v := .ty "bool") (by rfl) T.bool boot_bool rfl) pa_nil))) (pe_and (pe_callB call_is1 (by rfl) T.isinstance boot_isinstance (pa_cons (pv 0) (pa_cons (pe_bltn (v := .ty "bool") (by rfl) T.bool boot_bool rfl) pa_nil))) (pe_one (pe_cmpR op_eq (pv 0) (pv 1) (nomark _))))))) pss_nil)
        (pss_one (ps_ret (pe_and (pe_not (pe_callB call_isN (by rfl) T.isinstance boot_isinstance (pa_cons (pv 0) (pa_cons (pe_tup (pa_cons (pe_bltn (v := .ty "list") (by rfl) T.list boot_list rfl) (pa_cons (pe_bltn (v := .ty "tuple") (by rfl) T.tuple boot_tuple rfl) (pa_cons (pe_bltn (v := .ty "dict") (by rfl) T.dict boot_dict rfl) pa_nil)))) pa_nil))))
            (pe_one (pe_cmpR (op_orR (op_orR (op_eqD hr.units) (op_eqF hr)) (op_eqG rE (hr.mono (by omega)))) (pv 0) (pv 1) (nomark _)))))))), ?_⟩
      rcases sm_plain IC hR hsm with ⟨rfl, t, hty, k1, k2, k3, k4, heq⟩ | ⟨b, rfl, rfl⟩ | ⟨a, b, xs, ys, rfl, rfl, hx, hy, hp2, hln⟩ | ⟨a, b, xs, ys, rfl, rfl, hx, hy, hp2, hln⟩ | ⟨a, b, rfl, rfl, ha, hb, hn0⟩
      · refine ⟨_, rfl, by show 2 ≤ sizeLine; decide, fun p hp => ?_⟩
        have e1 : Ex H (upd H p (.tup [.ty "list", .ty "tuple"])) := Ex.new hp
        refine ⟨x, p, _, t, [.type "list", .type "tuple"], false, rfl, upd_same, .cons (.ty _) (.cons (.ty _) .nil), hty _ e1, k1, false, rfl, ?_⟩
        refine iteF ?_
        refine ⟨_, rfl, x, _, t, .type "dict", false, rfl, .ty _, hty _ e1, k2, false, rfl, ?_⟩
        refine iteF ?_
        refine ⟨_, rfl, x, _, t, .type "bool", false, rfl, .ty _, hty _ e1, k3, false, rfl, ?_⟩
        refine iteF ?_
        refine ⟨_, rfl, x, _, t, .type "bool", false, rfl, .ty _, hty _ e1, k3, false, rfl, ?_⟩
        refine iteF ?_
        refine ⟨_, rfl, by show 3 ≤ sizeLine; decide, fun p2 hp2 => ?_⟩
        have e2 := e1.trans (Ex.new (o := .tup [.ty "list", .ty "tuple", .ty "dict"]) hp2)
        refine ⟨x, p2, _, t, [.type "list", .type "tuple", .type "dict"], false, rfl, upd_same, .cons (.ty _) (.cons (.ty _) (.cons (.ty _) .nil)), hty _ e2, k4, false, rfl, true, rfl, ?_⟩
        refine iteT ?_
        exact ⟨_, rfl, _, rfl, heq _ _ e2 fun H2 e3 => k H2 (e2.trans e3)⟩
      · refine ⟨_, rfl, by show 2 ≤ sizeLine; decide, fun p hp => ?_⟩
        have e1 : Ex H (upd H p (.tup [.ty "list", .ty "tuple"])) := Ex.new hp
        have ty : ∀ H', TyF K H' (.bl b) (.type "bool") := fun H' => .inl (.base (.bl b))
        refine ⟨.bl b, p, _, _, [.type "list", .type "tuple"], false, rfl, upd_same, .cons (.ty _) (.cons (.ty _) .nil), ty _, kit_no2 (by decide +kernel) (by decide +kernel), false, rfl, ?_⟩
        refine iteF ?_
        refine ⟨_, rfl, .bl b, _, _, .type "dict", false, rfl, .ty _, ty _, kit_ty (by decide +kernel), false, rfl, ?_⟩
        refine iteF ?_
        refine ⟨_, rfl, .bl b, _, _, .type "bool", true, rfl, .ty _, ty _, kit_ty (by decide +kernel), true, rfl, ?_⟩
        refine iteT ?_
        refine iteT ?_
        refine ⟨_, rfl, .bl b, _, _, .type "bool", true, rfl, .ty _, ty _, kit_ty (by decide +kernel), true, rfl, ?_⟩
        refine iteT ?_
        refine ⟨_, rfl, .bl b, _, _, .type "bool", true, rfl, .ty _, ty _, kit_ty (by decide +kernel), true, rfl, ?_⟩
        refine iteT ?_
        refine ⟨_, rfl, _, rfl, rfl, ?_⟩
        rw [decide_eq_true rfl]
        exact k _ e1
      · have hll := hp2.length
        refine ⟨_, rfl, by show 2 ≤ sizeLine; decide, fun p hp => ?_⟩
        have e1 : Ex H (upd H p (.tup [.ty "list", .ty "tuple"])) := Ex.new hp
        have tx : TyF K (upd H p (.tup [.ty "list", .ty "tuple"])) (.ref a) (.type "list") := .inl (ty_l (ex_l e1 hx))
        have ty : TyF K (upd H p (.tup [.ty "list", .ty "tuple"])) (.ref b) (.type "list") := .inl (ty_l (ex_l e1 hy))
        refine ⟨.ref b, p, _, _, [.type "list", .type "tuple"], true, rfl, upd_same, .cons (.ty _) (.cons (.ty _) .nil), ty, seq_yes_l, true, rfl, ?_⟩
        refine iteT ?_
        refine ⟨_, rfl, .ref a, _, _, .type "list", true, rfl, .ty _, tx, kit_ty (by decide +kernel), _, rfl, .ref b, _, _, .type "list", true, rfl, .ty _, ty, kit_ty (by decide +kernel), rfl, false, by rw [decide_eq_true rfl]; rfl, ?_⟩
        refine iteF ?_
        refine ⟨_, rfl, .ref a, _, _, .type "tuple", false, rfl, .ty _, tx, kit_ty (by decide +kernel), _, rfl, .ref b, _, _, .type "tuple", false, rfl, .ty _, ty, kit_ty (by decide +kernel), rfl, false, by rw [decide_eq_true rfl]; rfl, ?_⟩
        refine iteF ?_
        refine ⟨_, rfl, a, xs, rfl, .inl (ex_l e1 hx), _, rfl, b, ys, rfl, .inl (ex_l e1 hy), rfl, true, by rw [hll, decide_eq_true rfl], ?_⟩
        refine iteT ?_
        refine ⟨_, rfl, _, rfl, a, b, xs, ys, rfl, .inl ⟨ex_l e1 hx, ex_l e1 hy, fun L hL => ?_⟩⟩
        refine lc_zipL hll (fun i H' => Ex (upd H p (.tup [.ty "list", .ty "tuple"])) H' ∧ H' L = some (.lst ((List.replicate i true).map V.bl))) ?_ ?_ ?_ ?_
        · exact ⟨Ex.mut (Ex.refl _) hL, upd_same⟩
        · rintro i H' ⟨q1, q2⟩
          exact ⟨ex_l (e1.trans q1) hx, ex_l (e1.trans q1) hy⟩
        · rintro i x y H' T hxi hyi ⟨q1, q2⟩ hT
          obtain ⟨y', hy', hF⟩ := paired_at hp2 hxi
          have ey : y' = y := Option.some.inj (hy'.symm.trans hyi)
          subst ey
          have hLT : L ≠ T := ne_of_none q2 hT
          have il : i < xs.length := (List.getElem?_eq_some_iff.mp hxi).1
          refine ⟨T, [x, y'], rfl, SqT.of upd_same, rfl, x, [y'], rfl, y', [], rfl, rfl, rfl, ?_⟩
          refine ⟨_, rfl, _, rfl, x, y', rfl, sm_ex hR (e1.trans (q1.trans (Ex.new hT))) n _ _ hF, fun H2 e2 => ?_⟩
          have hL2 : H2 L = some (.lst ((List.replicate i true).map V.bl)) := e2 _ _ (by rw [upd_ne hLT]; exact q2)
          refine ⟨_, hL2, by rw [List.length_map, List.length_replicate]; exact sz_m (by omega), Ex.mut (q1.trans ((Ex.new hT).trans e2)) hL, ?_⟩
          rw [List.replicate_succ', List.map_append]
          exact upd_same
        · rintro H' ⟨q1, q2⟩
          refine ⟨L, List.replicate xs.length true, rfl, SqL.of q2, ?_⟩
          rw [all_true]
          exact k _ (e1.trans q1)
      · have hll := hp2.length
        refine ⟨_, rfl, by show 2 ≤ sizeLine; decide, fun p hp => ?_⟩
        have e1 : Ex H (upd H p (.tup [.ty "list", .ty "tuple"])) := Ex.new hp
        have tx : TyF K (upd H p (.tup [.ty "list", .ty "tuple"])) (.ref a) (.type "tuple") := .inl (ty_t (ex_t e1 hx))
        have ty : TyF K (upd H p (.tup [.ty "list", .ty "tuple"])) (.ref b) (.type "tuple") := .inl (ty_t (ex_t e1 hy))
        refine ⟨.ref b, p, _, _, [.type "list", .type "tuple"], true, rfl, upd_same, .cons (.ty _) (.cons (.ty _) .nil), ty, seq_yes_t, true, rfl, ?_⟩
        refine iteT ?_
        refine ⟨_, rfl, .ref a, _, _, .type "list", false, rfl, .ty _, tx, kit_ty (by decide +kernel), _, rfl, .ref b, _, _, .type "list", false, rfl, .ty _, ty, kit_ty (by decide +kernel), rfl, false, by rw [decide_eq_true rfl]; rfl, ?_⟩
        refine iteF ?_
        refine ⟨_, rfl, .ref a, _, _, .type "tuple", true, rfl, .ty _, tx, kit_ty (by decide +kernel), _, rfl, .ref b, _, _, .type "tuple", true, rfl, .ty _, ty, kit_ty (by decide +kernel), rfl, false, by rw [decide_eq_true rfl]; rfl, ?_⟩
        refine iteF ?_
        refine ⟨_, rfl, a, xs, rfl, .inr (ex_t e1 hx), _, rfl, b, ys, rfl, .inr (ex_t e1 hy), rfl, true, by rw [hll, decide_eq_true rfl], ?_⟩
        refine iteT ?_
        refine ⟨_, rfl, _, rfl, a, b, xs, ys, rfl, .inr ⟨ex_t e1 hx, ex_t e1 hy, fun L hL => ?_⟩⟩
        refine lc_zipT hll (fun i H' => Ex (upd H p (.tup [.ty "list", .ty "tuple"])) H' ∧ H' L = some (.lst ((List.replicate i true).map V.bl))) ?_ ?_ ?_ ?_
        · exact ⟨Ex.mut (Ex.refl _) hL, upd_same⟩
        · rintro i H' ⟨q1, q2⟩
          exact ⟨ex_t (e1.trans q1) hx, ex_t (e1.trans q1) hy⟩
        · rintro i x y H' T hxi hyi ⟨q1, q2⟩ hT
          obtain ⟨y', hy', hF⟩ := paired_at hp2 hxi
          have ey : y' = y := Option.some.inj (hy'.symm.trans hyi)
          subst ey
          have hLT : L ≠ T := ne_of_none q2 hT
          have il : i < xs.length := (List.getElem?_eq_some_iff.mp hxi).1
          refine ⟨T, [x, y'], rfl, SqT.of upd_same, rfl, x, [y'], rfl, y', [], rfl, rfl, rfl, ?_⟩
          refine ⟨_, rfl, _, rfl, x, y', rfl, sm_ex hR (e1.trans (q1.trans (Ex.new hT))) n _ _ hF, fun H2 e2 => ?_⟩
          have hL2 : H2 L = some (.lst ((List.replicate i true).map V.bl)) := e2 _ _ (by rw [upd_ne hLT]; exact q2)
          refine ⟨_, hL2, by rw [List.length_map, List.length_replicate]; exact sz_m (by omega), Ex.mut (q1.trans ((Ex.new hT).trans e2)) hL, ?_⟩
          rw [List.replicate_succ', List.map_append]
          exact upd_same
        · rintro H' ⟨q1, q2⟩
          refine ⟨L, List.replicate xs.length true, rfl, SqL.of q2, ?_⟩
          rw [all_true]
          exact k _ (e1.trans q1)
      · have ty : ∀ (H' : Hp) (c : Addr), H' c = some (.dK []) → TyF K H' (.ref c) (.type "dict") := fun H' c h => .inl (.base (.dK h))
        refine ⟨_, rfl, by show 2 ≤ sizeLine; decide, fun p hp => ?_⟩
        have e1 : Ex H (upd H p (.tup [.ty "list", .ty "tuple"])) := Ex.new hp
        refine ⟨.ref b, p, _, _, [.type "list", .type "tuple"], false, rfl, upd_same, .cons (.ty _) (.cons (.ty _) .nil), ty _ _ (e1 _ _ hb), kit_no2 (by decide +kernel) (by decide +kernel), false, rfl, ?_⟩
        refine iteF ?_
        refine ⟨_, rfl, .ref b, _, _, .type "dict", true, rfl, .ty _, ty _ _ (e1 _ _ hb), kit_ty (by decide +kernel), true, rfl, ?_⟩
        refine iteT ?_
        refine ⟨_, rfl, .ref a, _, _, .type "dict", true, rfl, .ty _, ty _ _ (e1 _ _ ha), kit_ty (by decide +kernel), true, rfl, ?_⟩
        refine iteT ?_
        refine ⟨_, rfl, a, [], rfl, e1 _ _ ha, fun H2 p2 ts2 e2 _ _ _ g2 pr2 => ?_⟩
        have ts2e : ts2 = [] := List.eq_nil_of_length_eq_zero pr2.length
        subst ts2e
        refine ⟨_, rfl, b, [], rfl, e2 _ _ (e1 _ _ hb), fun H3 p3 ts3 e3 _ _ _ g3 pr3 => ?_⟩
        have ts3e : ts3 = [] := List.eq_nil_of_length_eq_zero pr3.length
        subst ts3e
        refine ⟨.ref p2, .ref p3, rfl, ?_, fun H4 e4 => k _ (e1.trans (Ex.trans e2 (Ex.trans e3 e4)))⟩
        obtain ⟨m, rfl⟩ : ∃ m, n = m + 1 := ⟨n - 1, by omega⟩
        exact .inr (.inl ⟨p2, p3, [], [], rfl, rfl, SqL.of (e3 _ _ g2), SqL.of g3, .nil, Nat.zero_le _⟩)
end
end AA

set_option Elab.async false
set_option linter.all false
set_option maxRecDepth 100000
set_option maxHeartbeats 4000000
/-! Steps in order: sorted of a list of them. -/
namespace AA
open PySem PySem.Spec PyProof.Rows L2 Evl
def pqLt (s t : St5) : Bool := if s.p = t.p then decide (s.q < t.q) else decide (s.p < t.p)
def stLt (s t : St5) : Bool :=
  if s.one = t.one then
    if s.other = t.other then
      if s.p = t.p ∧ s.q = t.q then
        if s.ticks = t.ticks then decide (s.change < t.change) else decide (s.ticks < t.ticks)
      else pqLt s t
    else decide (s.other < t.other)
  else decide (s.one < t.one)
theorem stLt_iff {s t : St5} : stLt s t = true ↔ s.one < t.one ∨ (s.one = t.one ∧ (s.other < t.other ∨ (s.other = t.other ∧ (s.p < t.p ∨ (s.p = t.p ∧ (s.q < t.q ∨ (s.q = t.q ∧ (s.ticks < t.ticks ∨ (s.ticks = t.ticks ∧ s.change < t.change))))))))) := by
  unfold stLt pqLt
  by_cases h1 : s.one = t.one
  · rw [if_pos h1]
    by_cases h2 : s.other = t.other
    · rw [if_pos h2]
      by_cases h3 : s.p = t.p ∧ s.q = t.q
      · rw [if_pos h3]
        by_cases h4 : s.ticks = t.ticks
        · rw [if_pos h4, decide_eq_true_eq]
          omega
        · rw [if_neg h4, decide_eq_true_eq]
          omega
      · rw [if_neg h3]
        by_cases h4 : s.p = t.p
        · rw [if_pos h4, decide_eq_true_eq]
          omega
        · rw [if_neg h4, decide_eq_true_eq]
          omega
    · rw [if_neg h2, decide_eq_true_eq]
      omega
  · rw [if_neg h1, decide_eq_true_eq]
    omega
theorem stLt_no {s t : St5} : stLt s t = false ↔ ¬ (s.one < t.one ∨ (s.one = t.one ∧ (s.other < t.other ∨ (s.other = t.other ∧ (s.p < t.p ∨ (s.p = t.p ∧ (s.q < t.q ∨ (s.q = t.q ∧ (s.ticks < t.ticks ∨ (s.ticks = t.ticks ∧ s.change < t.change)))))))))) := by
  rw [← stLt_iff]
  cases stLt s t <;> simp
theorem swo_st (k : Value → St5) : SrtO.Swo fun v u => stLt (k v) (k u) := by
  refine ⟨fun x y h => ?_, fun x y z h1 h2 => ?_⟩
  · have a := stLt_iff.mp h
    refine stLt_no.mpr ?_
    omega
  · have a := stLt_no.mp h1
    have b := stLt_no.mp h2
    refine stLt_no.mpr ?_
    omega
/-- a step stands at v -/
def IsSt (h : Heap) (v : Value) (s : St5) : Prop := ∃ (a u : Addr) (o r : Obj) (n m : Nat) (t1 t2 t3 t4 t5 t6 : Tok), v = .ref a ∧ h.get? a = some o ∧ o.cls = .type "tuple" ∧
  o.data = .seq #[.int s.one t1, .int s.other t2, .ref u, .int s.ticks t3, .int s.change t4] n ∧ h.get? u = some r ∧ r.cls = .type "tuple" ∧ r.data = .seq #[.int s.p t5, .int s.q t6] m
theorem IsSt.keeps {h h' : Heap} {v : Value} {s : St5} (x : IsSt h v s) (k : ∀ b o, h.get? b = some o → o.cls = .type "tuple" → h'.get? b = some o) : IsSt h' v s := by
  obtain ⟨a, u, o, r, n, m, t1, t2, t3, t4, t5, t6, e, h1, h2, h3, h4, h5, h6⟩ := x
  exact ⟨a, u, o, r, n, m, t1, t2, t3, t4, t5, t6, e, k _ _ h1 h2, h2, h3, k _ _ h4 h5, h5, h6⟩
section
variable {prog : Program} {w : World} {A : Around} {E : Value → Shared → Prop} {s : Shared}
theorem st_cmp {vs : List Value} {k : Value → St5} (hu : A.units + 1 < cLine) (hp : ∀ v ∈ vs, IsSt s.heap v (k v)) : SrtO.Cmp prog w A s (tuples' true) (fun p => p.1 ∈ vs) (SrtO.lt2 fun v u => stLt (k v) (k u)) := by
  intro p q hm hm'
  have h1 := hp _ hm
  have h2 := hp _ hm'
  show wpAny (model prog w) A (keyLt' (tuples' true) p.1 q.1) (fun r s' => s' = s ∧ r = stLt (k p.1) (k q.1)) (fun _ _ => False) s
  generalize k p.1 = x at h1 ⊢
  generalize k q.1 = y at h2 ⊢
  obtain ⟨a, u, o, r, n, m, t1, t2, t3, t4, t5, t6, e, g1, g2, g3, g4, g5, g6⟩ := h1
  obtain ⟨a', u', o', r', n', m', u1, u2, u3, u4, u5, u6, e', j1, j2, j3, j4, j5, j6⟩ := h2
  rw [e, e']
  refine PySem.W.kat_lt g1 g3 j1 j3 ?_
  show PySem.W.KatLex prog w A true (decide (5 < 5)) _ [(.int x.one t1, .int y.one u1), (.int x.other t2, .int y.other u2), (.ref u, .ref u'), (.int x.ticks t3, .int y.ticks u3), (.int x.change t4, .int y.change u4)] 0 s
  refine PySem.W.kat_cons (SeqAt.EqAt.int_int _ _ _ _ prog w _ _ ?_)
  refine PySem.W.kat_go (fun e1 => ?ye1) (fun e1 => ?ne1)
  case ne1 =>
    have ex : ¬ x.one = y.one := by simpa using e1
    refine PySem.W.kat_no (oneLt_int ⟨rfl, ?_⟩)
    unfold stLt
    rw [if_neg ex]
  have ex : x.one = y.one := by simpa using e1
  refine PySem.W.kat_yes (PySem.W.kat_cons (SeqAt.EqAt.int_int _ _ _ _ prog w _ _ ?_))
  refine PySem.W.kat_go (fun e2 => ?ye2) (fun e2 => ?ne2)
  case ne2 =>
    have ey : ¬ x.other = y.other := by simpa using e2
    refine PySem.W.kat_no (PySem.W.kat_one _ _ (PyProof.Rows.lt_int (Q := PySem.W.BoolBack _) ⟨rfl, ?_⟩))
    unfold stLt
    rw [if_pos ex, if_neg ey]
  have ey : x.other = y.other := by simpa using e2
  have k1 : IsTupleKey (PySem.intKind prog w) s.heap [x.p, x.q] u := ⟨r, _, m, g4, g5, g6, .cons (by simp [PySem.intKind, Value.isInt]) (.cons (by simp [PySem.intKind, Value.isInt]) .nil)⟩
  have k2 : IsTupleKey (PySem.intKind prog w) s.heap [y.p, y.q] u' := ⟨r', _, m', j4, j5, j6, .cons (by simp [PySem.intKind, Value.isInt]) (.cons (by simp [PySem.intKind, Value.isInt]) .nil)⟩
  refine PySem.W.kat_yes (PySem.W.kat_cons (wpAny_eqBool_tuple (by omega) k1 k2 ?_))
  refine PySem.W.kat_go (fun e3 => ?ye3) (fun e3 => ?ne3)
  case ne3 =>
    have ez : ¬ (x.p = y.p ∧ x.q = y.q) := by simpa using e3
    refine PySem.W.kat_no (PySem.W.kat_one _ _ (HT.lt_tupInts (ns := [x.p, x.q]) (ms := [y.p, y.q]) ⟨r, g4, g5, m, g6⟩ ⟨r', j4, j5, m', j6⟩ (.cons _ _ (.cons _ _ .nil)) (.cons _ _ (.cons _ _ .nil)) (by omega) ⟨rfl, ?_⟩))
    unfold stLt
    rw [if_pos ex, if_pos ey, if_neg ez]
    show HT.lexLt [x.p, x.q] [y.p, y.q] = pqLt x y
    rw [HT.lexLt_cons, HT.lexLt_cons, HT.lexLt_nil_nil]
    unfold pqLt
    by_cases hpp : x.p = y.p
    · rw [if_pos hpp, if_pos hpp, if_neg (fun z => ez ⟨hpp, z⟩)]
    · rw [if_neg hpp, if_neg hpp]
  have ez : x.p = y.p ∧ x.q = y.q := by simpa using e3
  refine PySem.W.kat_yes (PySem.W.kat_cons (SeqAt.EqAt.int_int _ _ _ _ prog w _ _ ?_))
  refine PySem.W.kat_go (fun e4 => ?ye4) (fun e4 => ?ne4)
  case ne4 =>
    have et : ¬ x.ticks = y.ticks := by simpa using e4
    refine PySem.W.kat_no (PySem.W.kat_one _ _ (PyProof.Rows.lt_int (Q := PySem.W.BoolBack _) ⟨rfl, ?_⟩))
    unfold stLt
    rw [if_pos ex, if_pos ey, if_pos ez, if_neg et]
  have et : x.ticks = y.ticks := by simpa using e4
  refine PySem.W.kat_yes (PySem.W.kat_cons (SeqAt.EqAt.int_int _ _ _ _ prog w _ _ ?_))
  refine PySem.W.kat_go (fun e5 => ?ye5) (fun e5 => ?ne5)
  case ne5 =>
    refine PySem.W.kat_no (PySem.W.kat_one _ _ (PyProof.Rows.lt_int (Q := PySem.W.BoolBack _) ⟨rfl, ?_⟩))
    unfold stLt
    rw [if_pos ex, if_pos ey, if_pos ez, if_pos et]
  have ec : x.change = y.change := by simpa using e5
  refine PySem.W.kat_yes (PySem.W.kat_nil ⟨rfl, ?_⟩)
  unfold stLt
  rw [if_pos ex, if_pos ey, if_pos ez, if_pos et, ec]
  exact (decide_eq_false (Int.lt_irrefl _)).symm
theorem st_firsts {h : Heap} : ∀ {vs : List Value}, (∀ v ∈ vs, ∃ s, IsSt h v s) → ∃ fs : List Value, PySem.W.KatTups h vs fs ∧ fs.length = vs.length ∧ ∀ f ∈ fs, ∃ x t, f = Value.int x t
  | [], _ => ⟨[], PySem.W.KatTups.nil, rfl, fun _ hm => absurd hm (by simp)⟩
  | v :: vs, hp => by
    obtain ⟨fs, h1, h2, h3⟩ := st_firsts (vs := vs) fun v' hm => hp v' (List.mem_cons_of_mem _ hm)
    obtain ⟨s, a, u, o, r, n, m, t1, t2, t3, t4, t5, t6, rfl, g1, g2, g3, _⟩ := hp v List.mem_cons_self
    refine ⟨.int s.one t1 :: fs, PySem.W.KatTups.cons g1 g2 g3 rfl h1, by rw [List.length_cons, List.length_cons, h2], fun f hm => ?_⟩
    rcases List.mem_cons.mp hm with rfl | hm
    · exact ⟨_, _, rfl⟩
    · exact h3 f hm
theorem st_sortable {a : Addr} {vs : List Value} {k : Value → St5} (hu : A.units + 1 < cLine) (h0 : 0 < vs.length) (hp : ∀ v ∈ vs, IsSt s.heap v (k v)) (ha : ∀ o, s.heap.get? a = some o → o.cls ≠ .type "tuple") :
    SrtO.SortableO prog w A s a vs fun v u => stLt (k v) (k u) := by
  intro h' keep
  have hp' : ∀ v ∈ vs, IsSt h' v (k v) := fun v hm => (hp v hm).keeps fun b o e c => keep b o (fun z => ha o (by rw [← z]; exact e) c) e
  obtain ⟨fs, h1, h2, h3⟩ := st_firsts fun v hm => ⟨_, hp' v hm⟩
  refine ⟨tuples' true, fun Q E hq => ?_, st_cmp hu hp'⟩
  refine PySem.W.kat_kind (T := .type "int") h1 (by omega) (fun f hm => ?_) (by rfl) ?_
  · obtain ⟨x, t, rfl⟩ := h3 f hm
    exact PySem.W.Looks.now
  · have e : (Value.type "int" != Value.type "tuple") = true := by decide +kernel
    rw [e]
    exact hq
end
section
open Classical
variable {X : Cx} {pins : List (Addr × Obj)} {σ : L2.St} {H : Hp} {s : Shared}
theorem is_st {v : V} {u : Value} {t : St5} (I : Inv X pins σ H s) (d : Dp X.K H v (stD t)) (r : RelV v u) : IsSt s.heap u t := by
  obtain ⟨a, b, rfl, h1, h2⟩ := stD_inv d
  cases (show u = Value.ref a from r)
  obtain ⟨i1, r1, ⟨o, g1, g2, n, g3⟩, _⟩ := I.tuple h1
  obtain ⟨i2, r2, ⟨o2, j1, j2, m, j3⟩, _⟩ := I.tuple h2
  cases r1 with
  | cons q1 r1 =>
    cases r1 with
    | cons q2 r1 =>
      cases r1 with
      | cons q3 r1 =>
        cases r1 with
        | cons q4 r1 =>
          cases r1 with
          | cons q5 r1 =>
            cases r1
            cases r2 with
            | cons p1 r2 =>
              cases r2 with
              | cons p2 r2 =>
                cases r2
                obtain ⟨t1, rfl⟩ := q1
                obtain ⟨t2, rfl⟩ := q2
                obtain rfl := q3
                obtain ⟨t3, rfl⟩ := q4
                obtain ⟨t4, rfl⟩ := q5
                obtain ⟨t5, rfl⟩ := p1
                obtain ⟨t6, rfl⟩ := p2
                exact ⟨a, b, o, o2, n, m, t1, t2, t3, t4, t5, t6, rfl, g1, g2, g3, j1, j2, j3⟩
/-- sorted of a list of steps: the same ones in some order -/
def rSortSt (K : PySem.W.Frag) : List V → Hp → VK → Prop := fun vs H Q => ∃ (a : Addr) (xs : List V), vs = [V.ref a] ∧ SqL K H a xs ∧ (∀ x ∈ xs, ∃ t, Dp K H x (stD t)) ∧
  ∀ ys p, ys.Perm xs → H p = none → Q (.ref p) (upd H p (.lst ys))
theorem cr_sortSt {j : Nat} (hr : Room j X.A) : CallR X (.builtin "sorted") (rSortSt X.K) := by
  intro pins s σ H vs us Q I r h
  obtain ⟨a, xs, rfl, hs, hx, q⟩ := h
  obtain ⟨its, rv, hl, hz⟩ := I.list hs
  obtain ⟨u, rfl, ru⟩ := vals1 r
  cases (show u = Value.ref a from ru)
  have hun := hr.un
  have all : ∀ v ∈ its, ∃ t, IsSt s.heap v t := fun v hv => by
    obtain ⟨i, hi⟩ := List.mem_iff_getElem?.mp hv
    have hlen := rv.length
    have hil : i < its.length := (List.getElem?_eq_some_iff.mp hi).1
    have hx1 : xs[i]? = some (xs[i]'(by omega)) := List.getElem?_eq_getElem (by omega)
    obtain ⟨w', hw, rw'⟩ := rv.get hx1
    rw [hi] at hw
    cases hw
    obtain ⟨t, ht⟩ := hx _ (mem_of_get hx1)
    exact ⟨t, is_st I ht rw'⟩
  let k : Value → St5 := fun v => if h : ∃ t, IsSt s.heap v t then Classical.choose h else ⟨0, 0, 0, 0, 0, 0⟩
  have hk : ∀ v ∈ its, IsSt s.heap v (k v) := fun v hv => by
    have e : k v = Classical.choose (all v hv) := dif_pos (all v hv)
    rw [e]
    exact Classical.choose_spec (all v hv)
  obtain ⟨e1, e2⟩ := refs_back rv fun x m => by
    obtain ⟨t, ht⟩ := hx x m
    obtain ⟨b, c, e, _⟩ := stD_inv ht
    exact ⟨b, e⟩
  refine SrtO.sorted_ord (swo_st k) hl.isList (by rw [← rv.length]; exact hz) (fun h2 h₁ b hb kk => ?_) fun out h1 h2 => ?_
  · refine st_sortable (s := { s with heap := h₁ }) (show X.A.in1.in1.units + 1 < cLine by show X.A.units + 1 + 1 + 1 < cLine; omega) (by omega) (fun v hv => (hk v hv).keeps fun c o e _ => (kk c o e).2) fun o e => ?_
    cases (show some o = some (seqObj "list" its.toArray 0) from e.symm.trans hb)
    intro c
    exact absurd (Value.type.inj c) (by decide)
  · have h3 : ∀ u ∈ out, ∃ a, u = Value.ref a := fun u hu => e2 u (h2.perm.mem_iff.mp hu)
    obtain ⟨n, hn⟩ := PyProof.Rows.sortedAll_at s.heap its out.toArray
    have hp : (out.map backV).Perm xs := by
      rw [e1]
      exact h2.perm.map backV
    refine ⟨.ref (s.heap.objs.size + 1), upd H (s.heap.objs.size + 1) (.lst (out.map backV)), I.laid (t' := s.toks) (fun b o e => PyProof.Rows.sortedAll_old e) (Nat.le_succ _) ⟨?_, out, n, vals_back h3, hn⟩, rfl, q _ _ hp (I.hok.fresh (Nat.le_succ _))⟩
    rw [hp.length_eq]
    exact hz
end
end AA

set_option Elab.async false
set_option linter.all false
set_option maxRecDepth 100000
set_option maxHeartbeats 4000000
/-! A dict whose keys are steps (tuples with a tuple in them), whose values are True. -/
namespace AA
open PySem PySem.Spec PyProof.Rows L2 Evl
def stK (s : St5) : NestedKey := .tup [.num s.one, .num s.other, .tup [.num s.p, .num s.q], .num s.ticks, .num s.change]
theorem stK_inj {s t : St5} (h : stK s = stK t) : s = t := by
  unfold stK at h
  injection h with h
  injection h with a1 h
  injection h with a2 h
  injection h with a3 h
  injection h with a4 h
  injection h with a5 _
  injection a1 with a1
  injection a2 with a2
  injection a4 with a4
  injection a5 with a5
  injection a3 with a3
  injection a3 with b1 a3
  injection a3 with b2 _
  injection b1 with b1
  injection b2 with b2
  cases s
  cases t
  simp_all
theorem IsSt.nested {h : Heap} {b : Addr} {s : St5} (x : IsSt h (.ref b) s) : NestedIs h (stK s) (.ref b) := by
  obtain ⟨a, u, o, r, n, m, t1, t2, t3, t4, t5, t6, e, g1, g2, g3, g4, g5, g6⟩ := x
  cases e
  exact .tup g1 g2 g3 (.cons (.int _ _) (.cons (.int _ _) (.cons (.tup g4 g5 g6 (.cons (.int _ _) (.cons (.int _ _) .nil))) (.cons (.int _ _) (.cons (.int _ _) .nil)))))
theorem IsSt.key {prog : Program} {w : World} {h : Heap} {b : Addr} {s : St5} (x : IsSt h (.ref b) s) : (nestedKind prog w).is h (stK s) b := ⟨x.nested, by simp [stK, NestedKey.depth, NestedKey.depthAll]⟩
/-- the entries of the dict -/
def sdEn (x : St5 × Addr) : NestedKey × Addr × Value := (stK x.1, x.2, .bool true)
/-- a dict at a, its keys these steps at these places -/
def SD (P : Program) (w : World) (a : Addr) (ks : List (St5 × Addr)) : HO := .ext fun h => ks.length ≤ sizeLine ∧ (a == sysModules) = false ∧ (ks.map (·.1)).Nodup ∧
  ∃ o es ep, h.get? a = some o ∧ o.ExactDict ∧ o.data = .dict es ep ∧ es.toList = (ks.map sdEn).map (entryOfKey (nestedKind P w))
/-- and its keys stand -/
def KsOk (K : PySem.W.Frag) (H : Hp) (ks : List (St5 × Addr)) : Prop := ∀ x ∈ ks, Dp K H (.ref x.2) (stD x.1)
theorem KsOk.ex {K : PySem.W.Frag} {H H' : Hp} {ks : List (St5 × Addr)} (h : KsOk K H ks) (e : Ex H H') : KsOk K H' ks := fun x m => dp_ex e _ _ (h x m)
theorem KsOk.nil {K : PySem.W.Frag} {H : Hp} : KsOk K H [] := fun _ m => absurd m (by simp)
theorem KsOk.snoc {K : PySem.W.Frag} {H : Hp} {ks : List (St5 × Addr)} {s : St5} {b : Addr} (h : KsOk K H ks) (d : Dp K H (.ref b) (stD s)) : KsOk K H (ks ++ [(s, b)]) := fun x m => by
  rcases List.mem_append.mp m with m | m
  · exact h x m
  · rw [List.mem_singleton] at m
    subst m
    exact d
theorem sd_nodup : ∀ {ks : List (St5 × Addr)}, (ks.map (·.1)).Nodup → ((ks.map sdEn).map (·.1)).Nodup := by
  intro ks h
  have e : (ks.map sdEn).map (·.1) = (ks.map (·.1)).map stK := by
    rw [List.map_map, List.map_map]
    rfl
  rw [e]
  exact h.map stK fun x y n z => n (stK_inj z)
theorem sd_at (t : St5) : ∀ ks : List (St5 × Addr), (atKey (ks.map sdEn) (stK t)).isSome = decide (t ∈ ks.map (·.1))
  | [] => rfl
  | x :: r => by
    have ih := sd_at t r
    by_cases e : x.1 = t
    · have h1 : (stK x.1 = stK t) := by rw [e]
      have h2 : atKey ((x :: r).map sdEn) (stK t) = some (x.2, .bool true) := by simp [atKey, sdEn, h1]
      rw [h2, List.map_cons, decide_eq_true (List.mem_cons.mpr (.inl e.symm))]
      rfl
    · have h1 : ¬ stK x.1 = stK t := fun z => e (stK_inj z)
      have h2 : atKey ((x :: r).map sdEn) (stK t) = atKey (r.map sdEn) (stK t) := by simp [atKey, sdEn, h1]
      rw [h2, ih]
      exact decide_eq_decide.mpr ⟨fun m => List.mem_cons_of_mem _ m, fun m => (List.mem_cons.mp m).elim (fun z => absurd z.symm e) id⟩
theorem sd_none {t : St5} {ks : List (St5 × Addr)} (h : t ∉ ks.map (·.1)) : atKey (ks.map sdEn) (stK t) = none := by
  have := sd_at t ks
  rw [decide_eq_false h] at this
  cases q : atKey (ks.map sdEn) (stK t) with
  | none => rfl
  | some x =>
    rw [q] at this
    cases this
section
variable {X : Cx} {pins : List (Addr × Obj)} {σ : L2.St} {H : Hp} {s : Shared} {a : Addr} {ks : List (St5 × Addr)} {A : Around} {E : Value → Shared → Prop}
theorem sd_is {x : St5 × Addr} (I : Inv X pins σ H s) (d : Dp X.K H (.ref x.2) (stD x.1)) : (nestedKind X.prog X.w).is s.heap (stK x.1) x.2 :=
  IsSt.key (is_st I d rfl)
theorem sd_of (I : Inv X pins σ H s) (e : H a = some (SD X.prog X.w a ks)) (k : KsOk X.K H ks) : ks.length ≤ sizeLine ∧ (a == sysModules) = false ∧ (ks.map (·.1)).Nodup ∧ s.heap.DictOfH (nestedKind X.prog X.w) a (ks.map sdEn) := by
  obtain ⟨⟨z, hd, hn, o, es, ep, h1, h2, h3, h4⟩, _, _⟩ := (show ObjOk X.prog X.w H s.heap a (SD X.prog X.w a ks) from I.hok a _ e)
  refine ⟨z, hd, hn, o, es, ep, h1, h2, h3, h4, fun y hy => ?_, sd_nodup hn⟩
  obtain ⟨x, hx, rfl⟩ := List.mem_map.mp hy
  exact sd_is I (k x hx)
theorem sd_ok {P : Program} {w : World} {H' : Hp} {h' : Heap} (z : ks.length ≤ sizeLine) (hd : (a == sysModules) = false) (hn : (ks.map (·.1)).Nodup) (d : h'.DictOfH (nestedKind P w) a (ks.map sdEn)) : ObjOk P w H' h' a (SD P w a ks) := by
  obtain ⟨o, es, ep, h1, h2, h3, h4, _⟩ := d
  exact ⟨⟨z, hd, hn, o, es, ep, h1, h2, h3, h4⟩, ⟨o, h1⟩, fun h1' h2' p k => by
    obtain ⟨z, hd, hn, o, es, ep, g1, g⟩ := p
    exact ⟨z, hd, hn, o, es, ep, k _ g1, g⟩⟩
/-- found[step] = True, the step new -/
theorem sd_set {t : St5} {b : Addr} {Q : Unit → Shared → Prop} (hu : A.units + 9 < cLine) (I : Inv X pins σ H s) (e : H a = some (SD X.prog X.w a ks)) (k : KsOk X.K H ks) (d : Dp X.K H (.ref b) (stD t)) (hn : t ∉ ks.map (·.1)) (hl : ks.length < sizeLine)
    (h : ∀ s', Inv X pins σ (upd H a (SD X.prog X.w a (ks ++ [(t, b)]))) s' → Q () s') : wpAny (model X.prog X.w) A (setItem (.ref a) (.ref b) (.bool true)) Q E s := by
  obtain ⟨z, hd, nd, dd⟩ := sd_of I e k
  refine wpAny_setItem_heap (hsz := by rw [List.length_map]; exact z) (show A.in1.units + 8 < cLine by rw [Around.in1_units]; omega) (sd_is (x := (t, b)) I d) dd fun h' dd' hs => h _ ?_
  rw [storedH_new (sd_none hn)] at dd'
  have e2 : ks.map sdEn ++ [(stK t, b, Value.bool true)] = (ks ++ [(t, b)]).map sdEn := by rw [List.map_append]; rfl
  rw [show ((stK (t, b).1), b, Value.bool true) = (stK t, b, Value.bool true) from rfl, e2] at dd'
  obtain ⟨q, es, ep, hq, h2⟩ := id dd'
  refine d_write I (by rw [e]; exact True.intro) hs ⟨q, hq⟩ (sd_ok (by rw [List.length_append]; exact hl) hd ?_ dd')
  rw [List.map_append, List.nodup_append]
  refine ⟨nd, by simp, fun x hx y hy => ?_⟩
  simp only [List.map_cons, List.map_nil, List.mem_singleton] at hy
  subst hy
  exact fun q => hn (q ▸ hx)
theorem sd_in {t : St5} {b : Addr} {Q : Value → Shared → Prop} (hu : A.units + 9 < cLine) (I : Inv X pins σ H s) (e : H a = some (SD X.prog X.w a ks)) (k : KsOk X.K H ks) (d : Dp X.K H (.ref b) (stD t))
    (h : ∀ s', Inv X pins σ H s' → Q (.bool (decide (t ∈ ks.map (·.1)))) s') : wpAny (model X.prog X.w) A (compareOp .In (.ref b) (.ref a)) Q E s := by
  obtain ⟨z, hd, nd, dd⟩ := sd_of I e k
  refine wpAny_in_heap (show A.in1.units + 8 < cLine by rw [Around.in1_units]; omega) (sd_is (x := (t, b)) I d) hd dd ?_
  rw [sd_at]
  exact h _ (I.tok _)
theorem sd_notIn {t : St5} {b : Addr} {Q : Value → Shared → Prop} (hu : A.units + 9 < cLine) (I : Inv X pins σ H s) (e : H a = some (SD X.prog X.w a ks)) (k : KsOk X.K H ks) (d : Dp X.K H (.ref b) (stD t))
    (h : ∀ s', Inv X pins σ H s' → Q (.bool (!decide (t ∈ ks.map (·.1)))) s') : wpAny (model X.prog X.w) A (compareOp .NotIn (.ref b) (.ref a)) Q E s := by
  obtain ⟨z, hd, nd, dd⟩ := sd_of I e k
  refine wpAny_notIn_heap (show A.in1.units + 8 < cLine by rw [Around.in1_units]; omega) (sd_is (x := (t, b)) I d) hd dd ?_
  rw [sd_at]
  exact h _ (I.tok _)
end
end AA

set_option Elab.async false
set_option linter.all false
set_option maxRecDepth 100000
set_option maxHeartbeats 4000000
/-! The same: None looked up, the rules for the program's text, list of it, a comprehension that makes one. -/
namespace AA
open PySem PySem.Spec PyProof.Rows L2 Evl
section
variable {prog : Program} {w : World} {A : Around} {E : Value → Shared → Prop} {s : Shared}
theorem find_none {d : Addr} {o : Obj} {es : Array DictEntry} {ep : Nat} {hh : Int} {Q : Option Nat → Shared → Prop} (hu : A.units + 8 < cLine) (ho : s.heap.get? d = some o) (hd : o.data = .dict es ep)
    (hk : ∀ e ∈ es, ∃ t b, e.key = .ref b ∧ IsSt s.heap (.ref b) t) (hq : Q none s) : wpAny (model prog w) A (dictFind d .none hh) Q E s := by
  have key : ∀ (i : Nat) (e : DictEntry), es[i]? = some e → ∃ t b, e.key = .ref b ∧ IsSt s.heap (.ref b) t := fun i e h => hk e (Array.mem_of_getElem? h)
  unfold dictFind
  try with_reducible refine wpAny_holding ?_
  refine wpAny_bind (wpAny_dictEntries ho hd ?_)
  dsimp only
  by_cases hc : ((Value.none :: (placesWithHash es.size (fun i => es[i]?.map (·.hash)) hh).filterMap (fun i => es[i]?.map (·.key))).all carriedByValue) = true
  · rw [if_pos hc]
    have hp : ∀ i ∈ placesWithHash es.size (fun i => es[i]?.map (·.hash)) hh, es[i]? = none := fun i hi => by
      cases q : es[i]? with
      | none => rfl
      | some e =>
        obtain ⟨t, b, e1, _⟩ := key i e q
        have m : e.key ∈ (placesWithHash es.size (fun i => es[i]?.map (·.hash)) hh).filterMap (fun i => es[i]?.map (·.key)) := List.mem_filterMap.mpr ⟨i, hi, by rw [q]; rfl⟩
        have := List.all_eq_true.mp hc _ (List.mem_cons_of_mem _ m)
        rw [e1] at this
        cases this
    unfold dictWalkPlain
    refine wpAny_bind ?_
    refine wpAny_forIn_list _ (fun rest b s' => s' = s ∧ b = (none, ()) ∧ ∀ i ∈ rest, es[i]? = none) _ ?_ ?_ _ _ ⟨rfl, rfl, hp⟩
    · rintro x rest b s' ⟨rfl, rfl, hr⟩
      rw [hr x List.mem_cons_self]
      exact wpAny_pure ⟨rfl, rfl, fun i hi => hr i (List.mem_cons_of_mem _ hi)⟩
    · rintro b s' ⟨rfl, rfl, _⟩
      exact wpAny_pure hq
  · rw [if_neg hc]
    have hst : ∀ v ∈ (placesWithHash es.size (fun i => es[i]?.map (·.hash)) hh).filterMap (fun i => es[i]?.map (·.key)), ∃ t b, v = .ref b ∧ IsSt s.heap (.ref b) t := fun v hv => by
      obtain ⟨i, _, hi⟩ := List.mem_filterMap.mp hv
      cases q : es[i]? with
      | none =>
        rw [q] at hi
        cases hi
      | some e =>
        rw [q] at hi
        obtain rfl : e.key = v := by simpa using hi
        exact key i e q
    have tell : ∀ (st : List Value) (R : Bool → Shared → Prop), (∀ v ∈ st, ∃ t b, v = .ref b ∧ IsSt s.heap (.ref b) t) → R false s → wpAny (model prog w) A (tableMayTell .none st) R E s := by
      intro st R hv hR
      unfold tableMayTell
      split
      · exact wpAny_pure hR
      · refine wpAny_bind (quiet_key .none _ 8 s .none (by simp [NestedKey.depth]) A E _ ?_)
        simp only [Bool.not_true, Bool.false_eq_true, if_false]
        refine wpAny_bind ?_
        refine wpAny_forIn_list _ (fun rest r s' => s' = s ∧ r = (none, ()) ∧ ∀ v ∈ rest, ∃ t b, v = .ref b ∧ IsSt s.heap (.ref b) t) _ ?_ ?_ _ _ ⟨rfl, rfl, hv⟩
        · rintro x rest r s' ⟨rfl, rfl, hr⟩
          obtain ⟨t, b, rfl, hb⟩ := hr x List.mem_cons_self
          refine wpAny_bind (quiet_key (stK t) _ 8 s' hb.nested (by simp [stK, NestedKey.depth, NestedKey.depthAll]) A E _ ?_)
          simp only [Bool.not_true, Bool.false_eq_true, if_false]
          exact wpAny_pure ⟨rfl, rfl, fun v m => hr v (List.mem_cons_of_mem _ m)⟩
        · rintro r s' ⟨rfl, rfl, _⟩
          exact wpAny_pure hR
    rw [if_neg (fun z => ?bad)]
    case bad =>
      have z1 := eq_of_beq z
      obtain ⟨t, b, q, _⟩ := hst .none (by rw [z1]; exact List.mem_cons_self)
      cases q
    refine wpAny_bind (tell _ _ hst ?_)
    rw [if_neg (by simp)]
    refine wpAny_bind ?_
    refine wpAny_forIn_list _ (fun rest b s' => s' = s ∧ b = (none, none)) _ ?_ ?_ _ _ ⟨rfl, rfl⟩
    · rintro x rest b s' ⟨rfl, rfl⟩
      cases q : es[x]? with
      | none => exact wpAny_pure ⟨rfl, rfl⟩
      | some e =>
        obtain ⟨t, b, e1, hb⟩ := key x e q
        dsimp only
        by_cases hs : (e.hash == hh) = true
        · rw [if_pos hs]
          refine wpAny_bind (wpAny_dictEpoch ho hd (wpAny_bind ?_))
          rw [e1]
          refine eqAt_key (stK t) .none A s' _ _ hb.nested .none (by simp only [NestedKey.depth]; omega) _ _ _ _ ?_
          refine wpAny_bind (wpAny_dictEpoch ho hd ?_)
          rw [if_neg (by simp)]
          rw [if_neg (by simp [stK, NestedKey.beq])]
          refine wpAny_bind (wpAny_rule ?_)
          rw [if_neg (by simp)]
          exact wpAny_pure ⟨rfl, rfl⟩
        · rw [if_neg hs]
          exact wpAny_pure ⟨rfl, rfl⟩
    · rintro b s' ⟨rfl, rfl⟩
      exact wpAny_pure hq
theorem get_none {d : Addr} {o : Obj} {es : Array DictEntry} {ep : Nat} {Q : Option Value → Shared → Prop} (hu : A.units + 8 < cLine) (ho : s.heap.get? d = some o) (hd : o.data = .dict es ep)
    (hk : ∀ e ∈ es, ∃ t b, e.key = .ref b ∧ IsSt s.heap (.ref b) t) (hq : Q none { s with toks := s.toks + 1 }) : wpAny (model prog w) A (dictGet d .none) Q E s := by
  unfold dictGet
  try with_reducible refine wpAny_holding ?_
  exact wpAny_bind (pyHash_key .none .none A s _ .none (by simp only [NestedKey.depth]; omega) (wpAny_bind (find_none (s := { s with toks := s.toks + 1 }) hu ho hd hk (wpAny_pure hq))))
theorem notIn_none {d : Addr} {o : Obj} {es : Array DictEntry} {ep : Nat} {Q : Value → Shared → Prop} (hu : A.units + 9 < cLine) (hs : (d == sysModules) = false) (ho : s.heap.get? d = some o) (hx : o.ExactDict) (hd : o.data = .dict es ep)
    (hk : ∀ e ∈ es, ∃ t b, e.key = .ref b ∧ IsSt s.heap (.ref b) t) (hq : Q (.bool true) { s with toks := s.toks + 1 }) : wpAny (model prog w) A (compareOp .NotIn .none (.ref d)) Q E s := by
  have hT : s.TypeIs (.ref d) "dict" := ⟨o, ho, hx.1⟩
  show wpAny _ _ (contains (.ref d) .none >>= fun b => pure (.bool (!b))) Q E s
  refine wpAny_bind (wpAny_contains_slot hT slot_dict_contains (wpAny_call_entry slot_dict_contains hT entry_dict_contains ?_ (args_dict_contains _ _)))
  show wpAny _ _ (dictGet d .none >>= _) _ _ s
  refine wpAny_bind (get_none (by rw [Around.in1_units]; omega) ho hd hk ?_)
  exact wpAny_bind (wpAny_pendingKey_other hs (wpAny_pure ⟨_, rfl, wpAny_truthy_bool (wpAny_pure hq)⟩))
end
section
variable {X : Cx} {o i e value : Expr} {pos pos' tpos : Pos} {j : Nat} {td ty tv : TE}
theorem sd_ents {pins : List (Addr × Obj)} {σ : L2.St} {H : Hp} {s : Shared} {a : Addr} {ks : List (St5 × Addr)} (I : Inv X pins σ H s) (e : H a = some (SD X.prog X.w a ks)) (k : KsOk X.K H ks) :
    (a == sysModules) = false ∧ ks.length ≤ sizeLine ∧ ∃ o es ep, s.heap.get? a = some o ∧ o.ExactDict ∧ o.data = .dict es ep ∧ es.toList = (ks.map sdEn).map (entryOfKey (nestedKind X.prog X.w)) ∧ ∀ e ∈ es, ∃ t b, e.key = .ref b ∧ IsSt s.heap (.ref b) t := by
  obtain ⟨⟨z, hd, hn, o, es, ep, h1, h2, h3, h4⟩, _, _⟩ := (show ObjOk X.prog X.w H s.heap a (SD X.prog X.w a ks) from I.hok a _ e)
  refine ⟨hd, z, o, es, ep, h1, h2, h3, h4, fun en hen => ?_⟩
  have m : en ∈ (ks.map sdEn).map (entryOfKey (nestedKind X.prog X.w)) := h4 ▸ Array.mem_toList_iff.mpr hen
  obtain ⟨y, hy, rfl⟩ := List.mem_map.mp m
  obtain ⟨x, hx, rfl⟩ := List.mem_map.mp hy
  exact ⟨x.1, x.2, rfl, is_st I (k x hx) rfl⟩
/-- {}, to hold steps -/
def tSNew (X : Cx) : TE := fun _ H Q => ∀ p, H p = none → Q (.ref p) (upd H p (SD X.prog X.w p []))
theorem sd_empty {P : Program} {w : World} {H : Hp} (h : Heap) (hb : sysModules < h.objs.size) : ObjOk P w H (h.push { cls := .type "dict", data := .dict #[] }) h.objs.size (SD P w h.objs.size []) :=
  sd_ok (Nat.zero_le _) (beq_eq_false_iff_ne.mpr (Ne.symm (Nat.ne_of_lt hb))) List.nodup_nil (Heap.DictOfH.new h)
theorem pe_snew : PE X (.Dict [] [] pos) (tSNew X) := ⟨fun pins s σ H Q I h =>
  have hf : s.heap.objs.size ≤ s.heap.objs.size := Nat.le_refl _
  wpAny_Dict_empty ⟨.ref s.heap.objs.size, _, I.laid (t' := s.toks) (o := SD X.prog X.w s.heap.objs.size []) (fun _ _ q => Heap.get?_push_of_some _ q) hf (sd_empty s.heap I.big), rfl, h _ (I.hok.fresh hf)⟩⟩
/-- the step y among the dict's keys -/
def SHas (X : Cx) (H : Hp) (x y : V) (r : Bool) : Prop := ∃ a ks b t, x = .ref a ∧ y = .ref b ∧ H a = some (SD X.prog X.w a ks) ∧ KsOk X.K H ks ∧ Dp X.K H (.ref b) (stD t) ∧ r = decide (t ∈ ks.map (·.1))
/-- None is not -/
def SNon (X : Cx) (H : Hp) (x y : V) : Prop := ∃ a ks, x = .ref a ∧ y = .non ∧ H a = some (SD X.prog X.w a ks) ∧ KsOk X.K H ks
def tSIn (X : Cx) (ty td : TE) : TE := fun σ H Q => ty σ H fun y H1 => td σ H1 fun x H2 => ∃ r, SHas X H2 x y r ∧ Q (.bl r) H2
def tSNot (X : Cx) (ty td : TE) : TE := fun σ H Q => ty σ H fun y H1 => td σ H1 fun x H2 => (∃ r, SHas X H2 x y r ∧ Q (.bl (!r)) H2) ∨ (SNon X H2 x y ∧ Q (.bl true) H2)
def sSPut (X : Cx) (td ty : TE) : TS := fun D σ H => td σ H fun x H2 => ty σ H2 fun y H3 => ∃ a ks b t, x = .ref a ∧ y = .ref b ∧ H3 a = some (SD X.prog X.w a ks) ∧ KsOk X.K H3 ks ∧ Dp X.K H3 (.ref b) (stD t) ∧ t ∉ ks.map (·.1) ∧ ks.length < sizeLine ∧
  D.nx σ (upd H3 a (SD X.prog X.w a (ks ++ [(t, b)])))
theorem pc_sin (hu : X.A.units + 9 < cLine) (hi : PE X i ty) (ho : PE X o td) : PC X .In i o (tSIn X ty td) := ⟨fun pins s σ H Q I h =>
  thn (hi.run pins s σ H _ I h) fun iv s1 ⟨y, H1, I1, ry, q1⟩ => thn (ho.run pins s1 σ H1 _ I1 q1) fun u s2 ⟨x, H2, I2, rx, r, g, q2⟩ => by
    obtain ⟨a, ks, b, t, rfl, rfl, e, k, d, rfl⟩ := g
    cases (show u = Value.ref a from rx)
    cases (show iv = Value.ref b from ry)
    exact sd_in hu I2 e k d fun s3 I3 => ⟨.bl _, H2, I3, rfl, q2⟩⟩
theorem pc_snot (hu : X.A.units + 9 < cLine) (hi : PE X i ty) (ho : PE X o td) : PC X .NotIn i o (tSNot X ty td) := ⟨fun pins s σ H Q I h =>
  thn (hi.run pins s σ H _ I h) fun iv s1 ⟨y, H1, I1, ry, q1⟩ => thn (ho.run pins s1 σ H1 _ I1 q1) fun u s2 ⟨x, H2, I2, rx, q2⟩ => by
    rcases q2 with ⟨r, ⟨a, ks, b, t, rfl, rfl, e, k, d, rfl⟩, q2⟩ | ⟨⟨a, ks, rfl, rfl, e, k⟩, q2⟩
    · cases (show u = Value.ref a from rx)
      cases (show iv = Value.ref b from ry)
      exact sd_notIn hu I2 e k d fun s3 I3 => ⟨.bl _, H2, I3, rfl, q2⟩
    · cases (show u = Value.ref a from rx)
      cases (show iv = Value.none from ry)
      obtain ⟨hs, _, o, es, ep, h1, h2, h3, _, h5⟩ := sd_ents I2 e k
      exact notIn_none hu hs h1 h2 h3 h5 ⟨.bl true, H2, I2.tok _, rfl, q2⟩⟩
theorem ps_sput (hu : X.A.units + 9 < cLine) (ho : PE X o td) (hi : PE X i ty) (hs : swapsWith (.Constant (.bool true) j tpos) (some (.Subscript o i pos')) pos.line X.env = pure false) :
    PS X (.Assign [.Subscript o i pos'] (.Constant (.bool true) j tpos) pos) (sSPut X td ty) := ⟨fun pins s σ H D I h =>
  wpAny_Assign_Subscript (Constant_bool (thn (ho.run pins s σ H _ I h) fun u s2 ⟨x, H2, I2, rx, q2⟩ => thn (hi.run pins s2 σ H2 _ I2 q2) fun iv s3 ⟨y, H3, I3, ry, g⟩ => by
    obtain ⟨a, ks, b, t, rfl, rfl, e, k, d, hn, hl, q⟩ := g
    cases (show u = Value.ref a from rx)
    cases (show iv = Value.ref b from ry)
    exact sd_set hu I3 e k d hn hl fun s4 I4 => ⟨σ, _, I4, q⟩)) hs⟩
/-- list(d): the steps in the order in which they came -/
theorem call_list_sd (hc : X.calm = true) : CallR X (.type "list") (fun xs H Q => ∃ d ks, xs = [V.ref d] ∧ H d = some (SD X.prog X.w d ks) ∧ KsOk X.K H ks ∧ ∀ p, H p = none → Q (.ref p) (upd H p (.lst (ks.map fun x => V.ref x.2)))) := by
  intro pins s σ H xs us Q I r h
  obtain ⟨d, ks, rfl, hd, hk, q⟩ := h
  obtain ⟨u, rfl, rx⟩ := r.one
  cases rx
  obtain ⟨hs, hz, o, es, ep, ho, hx, hdt, he, _⟩ := sd_ents I hd hk
  have l1 : es.size = ks.length := by rw [size_of_entries he, List.length_map]
  refine PySem.W.kdl_call (kdl_raw hs hx hdt) (I.ok.hd hc) ho (by omega) fun h' tk acc' c' kp e it => ?_
  have ea : acc'.toList = (ks.map fun x => x.2).map Value.ref := by
    apply List.ext_getElem?
    intro j
    rw [List.getElem?_map, List.getElem?_map]
    by_cases hj : j < ks.length
    · have hj2 : j < acc'.toList.length := by rw [Array.length_toList, it.1]; omega
      have ej := List.getElem?_eq_getElem hj2
      obtain ⟨en, hen, hv⟩ := it.2 j _ (by rw [← Array.getElem?_toList]; exact ej)
      have qe := entry_at he j
      rw [hen, List.getElem?_map, List.getElem?_eq_getElem hj] at qe
      have e2 : en = entryOfKey (nestedKind X.prog X.w) (sdEn ks[j]) := Option.some.inj qe
      rw [ej, List.getElem?_eq_getElem hj, hv, e2]
      rfl
    · rw [List.getElem?_eq_none (by rw [Array.length_toList, it.1]; omega), List.getElem?_eq_none (by omega)]
      rfl
  have rv : Vals ((ks.map fun x => x.2).map V.ref) acc'.toList := by
    rw [ea]
    exact vals_refs _
  have em : (ks.map fun x => x.2).map V.ref = ks.map fun x => V.ref x.2 := by
    rw [List.map_map]
    rfl
  rw [em] at rv
  have hf : s.heap.objs.size ≤ s.heap.objs.size := Nat.le_refl _
  exact ⟨.ref s.heap.objs.size, _, I.laid (t' := tk) (o := .lst (ks.map fun x => V.ref x.2)) kp hf ⟨by rw [List.length_map]; exact hz, acc'.toList, c', rv, by rw [Array.toArray_toList]; exact e⟩, rfl, q _ (I.hok.fresh hf)⟩
end
end AA

set_option Elab.async false
set_option linter.all false
set_option maxRecDepth 100000
set_option maxHeartbeats 4000000
/-! {step: True for .. in ..}: a comprehension that makes a dict of steps (by way of compLoop_anyD, as dc_core goes for dicts with plain keys). -/
namespace AA
open PySem PySem.Spec PyProof.Rows L2 Evl
section
variable {X : Cx} {pins : List (Addr × Obj)} {σ : L2.St} {H : Hp} {s : Shared}
theorem sd_dictSet {E : Value → Shared → Prop} {D b : Addr} {ks : List (St5 × Addr)} {t : St5} {Q : Unit → Shared → Prop} (hu : X.A.units + 8 < cLine) (I : Inv X pins σ H s) (e : H D = some (SD X.prog X.w D ks)) (k : KsOk X.K H ks) (d : Dp X.K H (.ref b) (stD t))
    (hn : t ∉ ks.map (·.1)) (hl : ks.length < sizeLine) (h : ∀ s', Inv X pins σ (upd H D (SD X.prog X.w D (ks ++ [(t, b)]))) s' → Q () s') : wpAny (model X.prog X.w) X.A (dictSet D (.ref b) (.bool true)) Q E s := by
  obtain ⟨z, hd, nd, dd⟩ := sd_of I e k
  refine wpAny_dictSet_heap (hsz := by rw [List.length_map]; exact z) (show X.A.units + 8 < cLine from hu) (sd_is (x := (t, b)) I d) dd fun h' dd' hs => h _ ?_
  rw [storedH_new (sd_none hn)] at dd'
  have e2 : ks.map sdEn ++ [(stK (t, b).1, b, Value.bool true)] = (ks ++ [(t, b)]).map sdEn := by rw [List.map_append]; rfl
  rw [e2] at dd'
  obtain ⟨q, es, ep, hq, h2⟩ := id dd'
  refine d_write I (by rw [e]; exact True.intro) hs ⟨q, hq⟩ (sd_ok (by rw [List.length_append]; exact hl) hd ?_ dd')
  rw [List.map_append, List.nodup_append]
  refine ⟨nd, by simp, fun x hx y hy => ?_⟩
  simp only [List.map_cons, List.map_nil, List.mem_singleton] at hy
  subst hy
  exact fun q => hn (q ▸ hx)
end
/-- the key y goes into the dict at D -/
def SNext (X : Cx) (H : Hp) (D : Addr) (y : V) (Nx : Hp → Prop) : Prop := ∃ ks b t, y = .ref b ∧ H D = some (SD X.prog X.w D ks) ∧ KsOk X.K H ks ∧ Dp X.K H (.ref b) (stD t) ∧ t ∉ ks.map (·.1) ∧ ks.length < sizeLine ∧ Nx (upd H D (SD X.prog X.w D (ks ++ [(t, b)])))
def tSc (X : Cx) (wi : TI) (g : TG) (tk : TE) (vs : List Nat) : TE := fun σ G Q => wi σ G fun J G1 => ∀ D, G1 D = none → ∃ W : Nat → Nat → Hp → Prop, (∃ m, W 0 m (upd G1 D (SD X.prog X.w D []))) ∧ ∀ i m G, W i m G →
  (J.stop i G ∧ Q (.ref D) G) ∨ (J.go i G ∧ ∃ Nx : Hp → Prop, (∀ G', Nx G' → ∃ m', m' < m ∧ W (i + 1) m' G') ∧ ∀ x G', J.yld i G x G' → g x (wipe σ vs) G' fun σ2 G2 => wipe σ2 vs = wipe σ vs ∧ tk σ2 G2 fun y G4 => SNext X G4 D y Nx)
section
variable {X : Cx}
theorem sc_core {pins : List (Addr × Obj)} {t0 : Shared} {σ : L2.St} {G : Hp} {Q : VK} {kx tg iter : Expr} {scope : Scope} {own : List (Str × Nat)} {j : Nat} {p0 p1 p2 : Pos} {wi : TI} {g : TG} {tk : TE} {use : Option (Value → Sem Unit)} {Qf : Value → Shared → Prop}
    (hu : X.A.units + 8 < cLine) (hc : X.calm = true) (hN : X.N.Nodup) (I0 : Inv X pins σ G t0) (hi : PI X tg iter wi) (ok : BlkOk X.N X.env.scope scope own)
    (hg : ∀ (t : Shared) (G : Hp) (C : Addr) (cl : List (Str × Addr)) (fp : List Addr), PG (X.blk t G scope (compEnvC scope cl C X.env) fp) tg g)
    (hk : ∀ (t : Shared) (G : Hp) (C : Addr) (cl : List (Str × Addr)) (fp : List Addr), PE (X.blk t G scope (compEnvC scope cl C X.env) fp) kx tk) (hs : ∀ x, foldedSetIterable iter X.env x = pure x)
    (h : tSc X wi g tk (own.map (·.2)) σ G Q)
    (back : ∀ D C s' m G', Inv X pins σ G' s' → Q (.ref D) G' → s'.heap.Ns C m → FpOk X pins G' C → compPost (model X.prog X.w) X.A X.xe use Qf (.ref D) C (.ok .next) s') :
    wpAny (model X.prog X.w) X.A (comprehension (.DictComp kx (.Constant (.bool true) j p2) [⟨tg, iter, [], 0⟩] scope p0) scope X.env p1 newDict false (eval iter X.env) use) Qf X.xe t0 := by
  have fr : ∀ y ∈ scope.names, y.2 = .free → ∃ c, X.env.cells.lookup y.1 = some c := fun y hy e => (ok.free y hy e).elim (fun k => I0.ok.has _ (.inl k)) (fun k => I0.ok.has _ (.inr k))
  refine wpAny_comprehension_free (use := use) rfl hs (closure_ok fr) ok.kind (fun y hy e => by rw [ok.uniq y hy, e]) (thn (hi.run pins t0 σ G _ I0 h) fun xv t1 hx => thn hx fun itv t2 got => ?_)
  obtain ⟨it, fp, tn, J, G2, rfl, I2, T, st2, f2, q⟩ := got
  refine wpAny_newObj_type (newEnv_comp ?_)
  generalize hD : t2.heap.objs.size = D
  have hDn : G2 D = none := I2.hok.fresh (Nat.le_of_eq hD)
  obtain ⟨W, ⟨m0, w0⟩, turn⟩ := q D hDn
  generalize ht3 : ({ t2 with heap := t2.heap.push { cls := .type "dict", data := .dict #[] } } : Shared) = t3
  have e3 : t3.heap = t2.heap.push { cls := .type "dict", data := .dict #[] } := by rw [← ht3]
  have I3 : Inv X pins σ (upd G2 D (SD X.prog X.w D [])) t3 := by
    rw [← ht3]
    refine I2.laid (t' := t2.toks) (fun b o e => Heap.get?_push_of_some _ e) (Nat.le_of_eq hD) ?_
    rw [← hD]
    exact sd_empty t2.heap I2.big
  have f3 : ∀ b ∈ fp, FpOk X pins (upd G2 D (SD X.prog X.w D [])) b ∧ b < t3.heap.objs.size := fun b hb => by
    obtain ⟨o, e, _⟩ := T.obj _ _ st2 b hb
    have hlt := Heap.lt_size e
    refine ⟨⟨?_, (f2 b hb).2⟩, by rw [e3, Heap.size_push]; exact Nat.lt_succ_of_lt hlt⟩
    rw [upd_ne (by rw [← hD]; exact Nat.ne_of_lt hlt)]
    exact (f2 b hb).1
  have st3 : tn 0 t3.heap := T.keep _ _ _ st2 fun b _ o e => by rw [e3]; exact Heap.get?_push_of_some _ e
  have I4 := block_start I3 ok hN f3
  have pg := hg t3 (upd G2 D (SD X.prog X.w D [])) t3.heap.objs.size (cellsFrom (t3.heap.objs.size + 1) scope.names (cloFrom X.env.cells scope.names [])) fp
  have pk := hk t3 (upd G2 D (SD X.prog X.w D [])) t3.heap.objs.size (cellsFrom (t3.heap.objs.size + 1) scope.names (cloFrom X.env.cells scope.names [])) fp
  show codeAny _ _ (.compStart (.DictComp kx (.Constant (.bool true) j p2) [⟨tg, iter, [], 0⟩] scope p0) 0 (.ref it) (.ref D) (compEnvC scope (cellsFrom (t3.heap.objs.size + 1) scope.names (cloFrom X.env.cells scope.names [])) t3.heap.objs.size X.env)) (compPost (model X.prog X.w) X.A X.xe use Qf (.ref D) t3.heap.objs.size) { t3 with heap := pushCells (t3.heap.push { cls := .type "dict", data := .dict #[] }) scope.names }
  have nfp : ∀ b ∈ fp, (upd G2 D (SD X.prog X.w D [])) b = none := fun b hb => (f3 b hb).1.1
  generalize hce : compEnvC scope (cellsFrom (t3.heap.objs.size + 1) scope.names (cloFrom X.env.cells scope.names [])) t3.heap.objs.size X.env = ce at I4 pg pk ⊢
  have cL : ce.locals = t3.heap.objs.size := by subst hce; rfl
  generalize hG3 : upd G2 D (SD X.prog X.w D []) = G3 at I3 I4 pg pk w0 nfp f3
  generalize ht4 : ({ t3 with heap := pushCells (t3.heap.push { cls := .type "dict", data := .dict #[] }) scope.names } : Shared) = t4 at I4 ⊢
  have st4 : tn 0 t4.heap := T.keep _ _ _ st3 fun b _ o e => by rw [← ht4]; exact pushCells_keeps _ _ _ _ (Heap.get?_push_of_some _ e)
  have stat : ∀ {σ' : L2.St} {G' : Hp} {s' : Shared}, Inv (X.blk t3 G3 scope ce fp) [] σ' G' s' → (∀ b ∈ fp, G' b = none) → ∀ b ∈ fp, FpOk (X.blk t3 G3 scope ce fp) [] G' b := fun {σ' G' s'} I' hn b hb =>
    ⟨hn b hb, (I'.ok.exf b hb).1, I'.ok.exfs b hb, .inl hb, fun x c e => (I'.ok.exf b hb).2 x c e, fun p hp => absurd (show p ∈ ([] : List (Addr × Obj)) ++ [] from hp) (by simp)⟩
  have loop : codeAny (model X.prog X.w) X.A (.compLoop (.DictComp kx (.Constant (.bool true) j p2) [⟨tg, iter, [], 0⟩] scope p0) 0 (.ref it) (.ref D) ce) (compPost (model X.prog X.w) X.A X.xe use Qf (.ref D) t3.heap.objs.size) t4 := by
    refine compLoop_anyD (fun n s' => ∃ i G', Inv (X.blk t3 G3 scope ce fp) [] (wipe σ (own.map (·.2))) G' s' ∧ tn i s'.heap ∧ (∀ b ∈ fp, G' b = none) ∧ W i n G') ?_ m0 ⟨0, G3, I4, st4, nfp, w0⟩
    rintro n t5 ⟨i, G5, I5, st5, n5, w5⟩
    rcases turn i n G5 w5 with ⟨stop, qq⟩ | ⟨go, Nx, hNx, step⟩
    · have td := T.done (X.blk t3 G3 scope ce fp) rfl rfl rfl hc i [] t5 _ G5 (fun _ _ => False) I5 (stat I5 n5) st5 stop
      refine thnF td fun r t6 ⟨hr, I6⟩ => ?_
      subst hr
      have I7 : Inv X pins σ G5 t6 := I3.call' (ch := fp) I6.os I6.base I6.hok I6.bare fun b hb => ⟨(f3 b hb).1.2.2.2.1, (f3 b hb).1.2.1, (f3 b hb).1.2.2.2.2.1, (f3 b hb).1.2.2.2.2.2⟩
      have nC : G5 t3.heap.objs.size = none := by
        have z : G5 ce.locals = none := I6.free
        rw [cL] at z
        exact z
      obtain ⟨m, hn, _⟩ := I6.loc
      have hn : t6.heap.Ns ce.locals m := hn
      rw [cL] at hn
      exact back D t3.heap.objs.size t6 m G5 I7 qq hn (I3.fpOk (Nat.le_refl _) nC)
    · have ti := T.item (X.blk t3 G3 scope ce fp) rfl rfl rfl hc i [] t5 _ G5 (fun _ _ => False) I5 (stat I5 n5) st5 go
      refine thnF ti fun r t6 ⟨u, hr, h6⟩ => ?_
      subst hr
      refine thnF h6 fun _ t7 ⟨x, G7, I7, r7, y7, st7, n7⟩ => ?_
      have I7' := I7.pinned (stat I7 n7) (T.obj _ _ st7)
      refine thnF (pg.run _ t7 _ G7 x u _ I7' r7 (step x G7 y7)) fun _ t8 ⟨σ8, G8, I8, hw8, q8⟩ => ?_
      refine wpAny_pure ?_
      simp only [if_true]
      refine thnF (pk.run _ t8 σ8 G8 _ I8 q8) fun z t9 ⟨yk, G9, I9, r9, ks, b, t, ek, hD9, hk9, hd9, hn9, hl9, nx⟩ => ?_
      subst ek
      cases (show z = Value.ref b from r9)
      refine Constant_bool ?_
      refine sd_dictSet (X := X.blk t3 G3 scope ce fp) hu I9 hD9 hk9 hd9 hn9 hl9 fun s' I' => ?_
      obtain ⟨m', hm, w'⟩ := hNx _ nx
      have pin' : ∀ b ∈ fp, ∀ o, t7.heap.get? b = some o → s'.heap.get? b = some o ∧ _ = none := fun b hb o e =>
        let z := I'.pin (b, o) (List.mem_append_right _ (List.mem_append_right _ (mem_pinsAt hb e)))
        ⟨z.1, z.2.1⟩
      have hl : (wipe σ (own.map (·.2))).length = σ8.length := by rw [← hw8, wipe_length]
      refine ⟨m', hm, i + 1, _, (I'.unpinned (pins := [])).weak hl (fun j v e => ?_), T.keep _ _ _ st7 fun b hb o e => (pin' b hb o e).1, fun b hb => ?_, w'⟩
      · rw [← hw8] at e
        exact (wipe_some e).1
      · obtain ⟨o, e, _⟩ := T.obj _ _ st7 b hb
        exact (pin' b hb o e).2
  exact codeAny_compStart_dict loop (T.self X.A 0 _ _ _ st4 loop)
theorem pe_sc {kx tg iter : Expr} {scope : Scope} {own : List (Str × Nat)} {j : Nat} {p0 p2 : Pos} {wi : TI} {g : TG} {tk : TE} (hu : X.A.units + 8 < cLine) (hc : X.calm = true) (hN : X.N.Nodup) (hi : PI X tg iter wi) (ok : BlkOk X.N X.env.scope scope own)
    (hg : ∀ (t : Shared) (G : Hp) (C : Addr) (cl : List (Str × Addr)) (fp : List Addr), PG (X.blk t G scope (compEnvC scope cl C X.env) fp) tg g)
    (hk : ∀ (t : Shared) (G : Hp) (C : Addr) (cl : List (Str × Addr)) (fp : List Addr), PE (X.blk t G scope (compEnvC scope cl C X.env) fp) kx tk) (hs : ∀ x, foldedSetIterable iter X.env x = pure x := by intro _; rfl) :
    PE X (.DictComp kx (.Constant (.bool true) j p2) [⟨tg, iter, [], 0⟩] scope p0) (tSc X wi g tk (own.map (·.2))) := ⟨fun pins t0 σ G Q I0 h => by
  rw [arm_eval_DictComp]
  refine sc_core hu hc hN I0 hi ok hg hk hs h fun D C s' m G' I' q hn f => ⟨m, hn, fun h'' sb => ?_⟩
  obtain ⟨f0, f1, f2, f3, f4, f5⟩ := f
  exact ⟨.ref D, G', I'.turned (t' := s'.toks) (fun b o hb e => (sb.2 b hb).trans e) f0 f1 f3 f4 f5, rfl, q⟩⟩
/-- over a list that stays -/
theorem sc_list {K : PySem.W.Frag} {a : Addr} {xs : List V} {g : TG} {tk : TE} {vs : List Nat} {σ : L2.St} {G1 : Hp} {D : Addr} {Qd : Hp → Prop} (Pv : Nat → Hp → Prop) (h0 : Pv 0 (upd G1 D (SD X.prog X.w D []))) (hl : ∀ i G, i ≤ xs.length → Pv i G → SqL K G a xs)
    (hs : ∀ i x G, xs[i]? = some x → Pv i G → g x (wipe σ vs) G fun σ2 G2 => wipe σ2 vs = wipe σ vs ∧ tk σ2 G2 fun y G4 => SNext X G4 D y (Pv (i + 1))) (hd : ∀ G, Pv xs.length G → Qd G) :
    ∃ W : Nat → Nat → Hp → Prop, (∃ m, W 0 m (upd G1 D (SD X.prog X.w D []))) ∧ ∀ i m G, W i m G →
      ((Itl K a).stop i G ∧ Qd G) ∨ ((Itl K a).go i G ∧ ∃ Nx : Hp → Prop, (∀ G', Nx G' → ∃ m', m' < m ∧ W (i + 1) m' G') ∧ ∀ x G', (Itl K a).yld i G x G' → g x (wipe σ vs) G' fun σ2 G2 => wipe σ2 vs = wipe σ vs ∧ tk σ2 G2 fun y G4 => SNext X G4 D y Nx) := by
  refine ⟨fun i m G => m = xs.length - i ∧ i ≤ xs.length ∧ Pv i G, ⟨xs.length, by simp, Nat.zero_le _, h0⟩, fun i m G w => ?_⟩
  obtain ⟨rfl, hi, p⟩ := w
  have q := hl i G hi p
  by_cases hlt : i < xs.length
  · refine .inr ⟨⟨xs, xs[i], q, by simp [hlt]⟩, Pv (i + 1), fun G' p' => ⟨xs.length - (i + 1), by omega, rfl, hlt, p'⟩, fun x G' y => ?_⟩
    obtain ⟨rfl, y⟩ := y
    exact hs i x _ (y xs q) p
  · obtain rfl : i = xs.length := by omega
    exact .inl ⟨⟨xs, q, Nat.le_refl _⟩, hd G p⟩
end
end AA

set_option Elab.async false
set_option linter.all false
set_option maxRecDepth 100000
set_option maxHeartbeats 4000000
/-! The program's checks: is_integer, is_list, is_integers. -/
namespace AA
open PySem PySem.Spec PyProof.Rows L2 Evl
/-- the name of the type of data -/
def tnD : PyData → String
  | .none => "NoneType"
  | .bool _ => "bool"
  | .int _ => "int"
  | .str _ => "str"
  | .list _ => "list"
  | .tuple _ => "tuple"
  | .dict _ => "dict"
def isIntD : PyData → Bool
  | .int _ => true
  | _ => false
def isListD : PyData → Bool
  | .list _ => true
  | .tuple _ => true
  | _ => false
def isIntsD (m : Int) : PyData → Bool
  | .list xs => decide ((xs.length : Int) = m) && xs.all isIntD
  | .tuple xs => decide ((xs.length : Int) = m) && xs.all isIntD
  | _ => false
theorem ty_dp {K : PySem.W.Frag} {H : Hp} {v : V} {d : PyData} (h : Dp K H v d) : TyF K H v (.type (tnD d)) := by
  cases h with
  | non => exact .inl (.base .non)
  | bl b => exact .inl (.base (.bl b))
  | int i => exact .inl (.base (.int i))
  | str x => exact .inl (.base (.str x))
  | lst h1 _ => exact .inl (ty_l h1)
  | tup h1 _ => exact .inl (ty_t h1)
def isBoolD : PyData → Bool
  | .bool _ => true
  | _ => false
theorem kd_int {K : PySem.W.Frag} (d : PyData) : PySem.W.kitOne K (.type (tnD d)) (.type "int") = some (isIntD d || isBoolD d) := by
  cases d with
  | none => exact kit_ty (show kitB "NoneType" "int" = some false by decide +kernel)
  | bool => exact kit_ty (show kitB "bool" "int" = some true by decide +kernel)
  | int => exact kit_ty (show kitB "int" "int" = some true by decide +kernel)
  | str => exact kit_ty (show kitB "str" "int" = some false by decide +kernel)
  | list => exact kit_ty (show kitB "list" "int" = some false by decide +kernel)
  | tuple => exact kit_ty (show kitB "tuple" "int" = some false by decide +kernel)
  | dict => exact kit_ty (show kitB "dict" "int" = some false by decide +kernel)
theorem kd_bool {K : PySem.W.Frag} (d : PyData) : PySem.W.kitOne K (.type (tnD d)) (.type "bool") = some (isBoolD d) := by
  cases d with
  | none => exact kit_ty (show kitB "NoneType" "bool" = some false by decide +kernel)
  | bool => exact kit_ty (show kitB "bool" "bool" = some true by decide +kernel)
  | int => exact kit_ty (show kitB "int" "bool" = some false by decide +kernel)
  | str => exact kit_ty (show kitB "str" "bool" = some false by decide +kernel)
  | list => exact kit_ty (show kitB "list" "bool" = some false by decide +kernel)
  | tuple => exact kit_ty (show kitB "tuple" "bool" = some false by decide +kernel)
  | dict => exact kit_ty (show kitB "dict" "bool" = some false by decide +kernel)
theorem kd_seq {K : PySem.W.Frag} (d : PyData) : PySem.W.kitAny K (.type (tnD d)) [.type "list", .type "tuple"] = some (isListD d) := by
  cases d with
  | list => exact seq_yes_l
  | tuple => exact seq_yes_t
  | none => exact kit_no2 (T := "NoneType") (by decide +kernel) (by decide +kernel)
  | bool => exact kit_no2 (T := "bool") (by decide +kernel) (by decide +kernel)
  | int => exact kit_no2 (T := "int") (by decide +kernel) (by decide +kernel)
  | str => exact kit_no2 (T := "str") (by decide +kernel) (by decide +kernel)
  | dict => exact kit_no2 (T := "dict") (by decide +kernel) (by decide +kernel)
section
variable {P : Program} {w : World} {K : PySem.W.Frag} {mg : Str → Option Value} {base : Heap}
def spIsInteger (K : PySem.W.Frag) : Sp := fun vs H Q _ => ∃ (v : V) (d : PyData), vs = [v] ∧ Dp K H v d ∧ Q (.bl (isIntD d)) H
theorem scIsInteger : FnScope ["thing"] ["thing"] (defScope sIsInteger) := ⟨rfl, rfl, rfl, by decide +kernel, rfl, by decide +kernel, by decide +kernel⟩
theorem ok_isInteger {f : Addr} {fd : FuncData} (F : L2.Fun K "is_integer" "is_integer" sIsInteger f fd) (T : Bn mg) : FnOk P w K mg base CX0 1 f fd ["thing"] (spIsInteger K) := by
  refine F.ok scIsInteger (fun vs H Q E h => ?_) (fun cdv A outer s H vs Q E hr h => ?_)
  · obtain ⟨v, d, rfl, _⟩ := h
    rfl
  · obtain ⟨v, d, rfl, hd, k⟩ := h
    refine ⟨_, pss_one (ps_ret (pe_and (pe_callB call_is1 (by rfl) T.isinstance boot_isinstance (pa_cons (pv 0) (pa_cons (pe_bltn (v := .ty "int") (by rfl) T.int boot_int rfl) pa_nil)))
      (pe_one (pe_not (pe_callB call_is1 (by rfl) T.isinstance boot_isinstance (pa_cons (pv 0) (pa_cons (pe_bltn (v := .ty "bool") (by rfl) T.bool boot_bool rfl) pa_nil))))))), ?_⟩
    refine ⟨_, rfl, v, _, _, .type "int", _, rfl, .ty _, ty_dp hd, kd_int d, _, rfl, ?_⟩
    by_cases hi : isIntD d = true
    · rw [hi] at k ⊢
      refine iteT ?_
      refine ⟨_, rfl, v, _, _, .type "bool", _, rfl, .ty _, ty_dp hd, kd_bool d, _, rfl, ?_⟩
      cases d <;> first | exact k | cases hi
    · have hf : isIntD d = false := by simpa using hi
      rw [hf] at k ⊢
      cases d with
      | bool b =>
        refine iteT ?_
        exact ⟨_, rfl, v, _, _, .type "bool", _, rfl, .ty _, ty_dp hd, kd_bool _, _, rfl, k⟩
      | int i => cases hf
      | _ => exact iteF k
/-- what a thing is asked by is_list, in this heap and later ones -/
def Lk (K : PySem.W.Frag) (H : Hp) (v : V) (b : Bool) : Prop := ∃ t : Value, (∀ H', Ex H H' → TyF K H' v t) ∧ PySem.W.kitAny K t [.type "list", .type "tuple"] = some b
theorem lk_dp {H : Hp} {v : V} {d : PyData} (h : Dp K H v d) : Lk K H v (isListD d) := ⟨_, fun H' e => ty_dp (dp_ex e d v h), kd_seq d⟩
theorem Lk.ex {H H' : Hp} {v : V} {b : Bool} (h : Lk K H v b) (e : Ex H H') : Lk K H' v b := by
  obtain ⟨t, h1, h2⟩ := h
  exact ⟨t, fun H2 e2 => h1 H2 (e.trans e2), h2⟩
def spIsList (K : PySem.W.Frag) : Sp := fun vs H Q _ => ∃ (v : V) (b : Bool), vs = [v] ∧ Lk K H v b ∧ ∀ H', Ex H H' → Q (.bl b) H'
theorem scIsList : FnScope ["thing"] ["thing"] (defScope sIsList) := ⟨rfl, rfl, rfl, by decide +kernel, rfl, by decide +kernel, by decide +kernel⟩
theorem ok_isList {f : Addr} {fd : FuncData} (F : L2.Fun K "is_list" "is_list" sIsList f fd) (T : Bn mg) : FnOk P w K mg base CX0 1 f fd ["thing"] (spIsList K) := by
  refine F.ok scIsList (fun vs H Q E h => ?_) (fun cdv A outer s H vs Q E hr h => ?_)
  · obtain ⟨v, b, rfl, _⟩ := h
    rfl
  · obtain ⟨v, b, rfl, ⟨t, hty, hk⟩, k⟩ := h
    refine ⟨_, pss_one (ps_ret (pe_callB call_isN (by rfl) T.isinstance boot_isinstance (pa_cons (pv 0) (pa_cons (pe_tup (pa_cons (pe_bltn (v := .ty "list") (by rfl) T.list boot_list rfl) (pa_cons (pe_bltn (v := .ty "tuple") (by rfl) T.tuple boot_tuple rfl) pa_nil))) pa_nil)))), ?_⟩
    refine ⟨_, rfl, by show 2 ≤ sizeLine; decide, fun p hp => ?_⟩
    have e1 : Ex H (upd H p (.tup [.ty "list", .ty "tuple"])) := Ex.new hp
    exact ⟨v, p, _, t, [.type "list", .type "tuple"], b, rfl, upd_same, .cons (.ty _) (.cons (.ty _) .nil), hty _ e1, hk, k _ e1⟩
/-- a list or a tuple of data -/
theorem dp_seq {H : Hp} {v : V} {d : PyData} (h : Dp K H v d) (l : isListD d = true) : ∃ (a : Addr) (xs : List V) (ds : List PyData), v = .ref a ∧ DpAll K H xs ds ∧ ((d = .list ds ∧ SqL K H a xs) ∨ (d = .tuple ds ∧ SqT K H a xs)) := by
  cases h with
  | lst h1 h2 => exact ⟨_, _, _, rfl, h2, .inl ⟨rfl, h1⟩⟩
  | tup h1 h2 => exact ⟨_, _, _, rfl, h2, .inr ⟨rfl, h1⟩⟩
  | _ => cases l
def itemsD : PyData → List PyData
  | .list xs => xs
  | .tuple xs => xs
  | _ => []
end
end AA

set_option Elab.async false
set_option linter.all false
set_option maxRecDepth 100000
set_option maxHeartbeats 4000000
/-! read_step. -/
namespace AA
open PySem PySem.Spec PyProof.Rows L2 Evl
/-- the step that a thing is, between n places -/
def rdStep (n : Int) (d : PyData) : Option St5 :=
  match itemsD d with
  | [.int a, .int b, c, .int e, .int f] =>
    match itemsD c with
    | [.int p, .int q] => if 0 ≤ a ∧ a < n ∧ 0 ≤ b ∧ b < n ∧ 1 ≤ e then some ⟨a, b, p, q, e, f⟩ else none
    | _ => none
  | _ => none
theorem int_of {d : PyData} (h : isIntD d = true) : ∃ i, d = .int i := by
  cases d with
  | int i => exact ⟨i, rfl⟩
  | _ => cases h
theorem ints_of {m : Int} {d : PyData} (h : isIntsD m d = true) : ((itemsD d).length : Int) = m ∧ (itemsD d).all isIntD = true ∧ isListD d = true := by
  cases d with
  | list xs =>
    have h' : (decide ((xs.length : Int) = m) && xs.all isIntD) = true := h
    rw [Bool.and_eq_true] at h'
    exact ⟨of_decide_eq_true h'.1, h'.2, rfl⟩
  | tuple xs =>
    have h' : (decide ((xs.length : Int) = m) && xs.all isIntD) = true := h
    rw [Bool.and_eq_true] at h'
    exact ⟨of_decide_eq_true h'.1, h'.2, rfl⟩
  | _ => cases h
theorem rd_len {n : Int} {d : PyData} {s : St5} (h : rdStep n d = some s) : (itemsD d).length = 5 := by
  unfold rdStep at h
  split at h
  · rename_i e
    rw [e]
    rfl
  · cases h
theorem rd_list {n : Int} {d : PyData} {s : St5} (h : rdStep n d = some s) : isListD d = true := by
  have := rd_len h
  cases d with
  | list => rfl
  | tuple => rfl
  | _ => cases this
theorem rd_ints {n : Int} {d d0 d1 d2 d3 d4 : PyData} {s : St5} (hd : itemsD d = [d0, d1, d2, d3, d4]) (h : rdStep n d = some s) : isIntsD 4 (.list [d0, d1, d3, d4]) = true ∧ isIntsD 2 d2 = true := by
  unfold rdStep at h
  rw [hd] at h
  split at h
  · rename_i a b c e f q
    cases q
    split at h
    · rename_i p q e2
      refine ⟨rfl, ?_⟩
      cases d2 with
      | list xs =>
        obtain rfl : xs = [.int p, .int q] := e2
        rfl
      | tuple xs =>
        obtain rfl : xs = [.int p, .int q] := e2
        rfl
      | _ => cases e2
    · cases h
  · cases h
theorem rd_at {n a b e f p q : Int} {d c : PyData} (hd : itemsD d = [.int a, .int b, c, .int e, .int f]) (hc : itemsD c = [.int p, .int q]) :
    rdStep n d = if 0 ≤ a ∧ a < n ∧ 0 ≤ b ∧ b < n ∧ 1 ≤ e then some ⟨a, b, p, q, e, f⟩ else none := by
  unfold rdStep
  rw [hd]
  show (match itemsD c with | [.int p, .int q] => if 0 ≤ a ∧ a < n ∧ 0 ≤ b ∧ b < n ∧ 1 ≤ e then some (⟨a, b, p, q, e, f⟩ : St5) else none | _ => none) = _
  rw [hc]
theorem four_of {d0 d1 d3 d4 : PyData} (h : isIntsD 4 (.list [d0, d1, d3, d4]) = true) : ∃ a b e f, d0 = .int a ∧ d1 = .int b ∧ d3 = .int e ∧ d4 = .int f := by
  have := (ints_of h).2.1
  have h2 : (isIntD d0 && (isIntD d1 && (isIntD d3 && (isIntD d4 && true)))) = true := this
  simp only [Bool.and_eq_true] at h2
  obtain ⟨a, rfl⟩ := int_of h2.1
  obtain ⟨b, rfl⟩ := int_of h2.2.1
  obtain ⟨e, rfl⟩ := int_of h2.2.2.1
  obtain ⟨f, rfl⟩ := int_of h2.2.2.2.1
  exact ⟨a, b, e, f, rfl, rfl, rfl, rfl⟩
theorem two_of {d : PyData} (h : isIntsD 2 d = true) : ∃ p q, itemsD d = [.int p, .int q] := by
  obtain ⟨h1, h2, _⟩ := ints_of h
  generalize itemsD d = l at h1 h2
  match l, h1, h2 with
  | [x, y], _, h2 =>
    have h3 : (isIntD x && (isIntD y && true)) = true := h2
    simp only [Bool.and_eq_true] at h3
    obtain ⟨p, rfl⟩ := int_of h3.1
    obtain ⟨q, rfl⟩ := int_of h3.2.1
    exact ⟨p, q, rfl⟩
  | [], h1, _ => cases h1
  | [x], h1, _ => cases h1
  | x :: y :: z :: r, h1, _ =>
    simp only [List.length_cons] at h1
    omega
/-- what read_step answers -/
def RdR (K : PySem.W.Frag) (H : Hp) (r : V) : Option St5 → Prop
  | none => r = .non
  | some s => Dp K H r (stD s)
theorem pg_or {X : Cx} {tg : Expr} {g1 g2 : TG} (h1 : PG X tg g1) (h2 : PG X tg g2) : PG X tg (fun v σ H Q => g1 v σ H Q ∨ g2 v σ H Q) :=
  ⟨fun pins s σ H v u Q I r hw => hw.elim (h1.run pins s σ H v u Q I r) (h2.run pins s σ H v u Q I r)⟩
theorem gun_or {K : PySem.W.Frag} {n : Nat} {t : TGs} {v : V} {σ : L2.St} {H : Hp} {Q : L2.St → Hp → Prop} {a : Addr} {xs : List V} (e : v = .ref a) (h : SqL K H a xs ∨ SqT K H a xs) (hn : xs.length = n) (ht : t xs σ H Q) : gUnl K n t v σ H Q ∨ gTup K n t v σ H Q :=
  h.imp (fun h => ⟨a, xs, e, h, hn, ht⟩) (fun h => ⟨a, xs, e, h, hn, ht⟩)
theorem five_of {α : Type} {xs : List α} (h : xs.length = 5) : ∃ a b c d e, xs = [a, b, c, d, e] := by
  match xs, h with
  | [a, b, c, d, e], _ => exact ⟨a, b, c, d, e, rfl⟩
theorem dpa_five {K : PySem.W.Frag} {H : Hp} {x0 x1 x2 x3 x4 : V} {ds : List PyData} (h : DpAll K H [x0, x1, x2, x3, x4] ds) :
    ∃ d0 d1 d2 d3 d4, ds = [d0, d1, d2, d3, d4] ∧ Dp K H x0 d0 ∧ Dp K H x1 d1 ∧ Dp K H x2 d2 ∧ Dp K H x3 d3 ∧ Dp K H x4 d4 := by
  cases h with
  | cons h0 h =>
    cases h with
    | cons h1 h =>
      cases h with
      | cons h2 h =>
        cases h with
        | cons h3 h =>
          cases h with
          | cons h4 h =>
            cases h
            exact ⟨_, _, _, _, _, rfl, h0, h1, h2, h3, h4⟩
section
variable {P : Program} {w : World} {K : PySem.W.Frag} {mg : Str → Option Value} {base : Heap}
def spReadStep (K : PySem.W.Frag) : Sp := fun vs H Q _ => ∃ (n : Int) (v : V) (d : PyData), vs = [.int n, v] ∧ Dp K H v d ∧ ∀ H' r, Ex H H' → RdR K H' r (rdStep n d) → Q r H'
theorem scReadStep : FnScope ["places", "thing", "one", "other", "amounts", "ticks", "change", "number"] ["places", "thing"] (defScope sReadStep) := ⟨rfl, rfl, rfl, by decide +kernel, rfl, by decide +kernel, by decide +kernel⟩
theorem rd_six {n : Int} {d d0 d1 d2 d3 d4 : PyData} {s : St5} (hd : itemsD d = [d0, d1, d2, d3, d4]) (h : rdStep n d = some s) : isListD d2 = true ∧ ∃ e0 e1, itemsD d2 = [e0, e1] ∧ ∀ z ∈ [d0, d1, e0, e1, d3, d4], isIntD z = true := by
  obtain ⟨h4, h2⟩ := rd_ints hd h
  obtain ⟨a, b, e, f, rfl, rfl, rfl, rfl⟩ := four_of h4
  obtain ⟨p, q, hc⟩ := two_of h2
  refine ⟨(ints_of h2).2.2, _, _, hc, fun z hz => ?_⟩
  simp only [List.mem_cons, List.not_mem_nil, or_false] at hz
  rcases hz with rfl | rfl | rfl | rfl | rfl | rfl <;> rfl
theorem two_ofl {α : Type} {xs : List α} (h : xs.length = 2) : ∃ a b, xs = [a, b] := by
  match xs, h with
  | [a, b], _ => exact ⟨a, b, rfl⟩
theorem dpa_two {K : PySem.W.Frag} {H : Hp} {x0 x1 : V} {ds : List PyData} (h : DpAll K H [x0, x1] ds) : ∃ d0 d1, ds = [d0, d1] ∧ Dp K H x0 d0 ∧ Dp K H x1 d1 := by
  cases h with
  | cons h0 h =>
    cases h with
    | cons h1 h =>
      cases h
      exact ⟨_, _, rfl, h0, h1⟩
theorem ix_at {K : PySem.W.Frag} {G : Hp} {b : Addr} {ys : List V} {j : Nat} {y : V} {Q : V → Hp → Prop} (h : SqL K G b ys ∨ SqT K G b ys) (e : ys[j]? = some y) (k : Q y G) : rIx K (.ref b) (.int (j : Nat)) G Q :=
  h.elim (fun h => .inl ⟨b, ys, _, y, rfl, rfl, h, atI_nat e, k⟩) (fun h => .inr (.inl ⟨b, ys, _, y, rfl, rfl, h, atI_nat e, k⟩))
theorem ok_readStep {f : Addr} {fd : FuncData} (F : L2.Fun K "read_step" "read_step" sReadStep f fd) (T : Bn mg) (cL : C8.Cal P w K mg base 1 "is_list" (spIsList K) []) :
    FnOk P w K mg base CX0 3 f fd ["places", "thing"] (spReadStep K) := by
  refine F.ok scReadStep (fun vs H Q E h => ?_) (fun cdv A outer s H vs Q E hr h => ?_)
  · obtain ⟨n, v, d, rfl, _⟩ := h
    rfl
  · obtain ⟨n, v, d, rfl, hd, k⟩ := h
    refine ⟨_, pss_cons (ps_if (PW.pt (pw_or (pt_not (pt_val (C8.pe_c cL hr (by decide) (by rfl) (pa_cons (pv 1) pa_nil)))) (pw_or1 (pt_cmpR op_ne (pe_callB call_len_seq (by rfl) T.len PySem.boot_len (pa_cons (pv 1) pa_nil)) pe_int (nomark _)))))
        (pss_one (ps_ret pe_non)) pss_nil)
      (pss_cons (ps_asg (pv 1) (pg_or (pg_unl (n := 5) rfl (pgs_cons (pg_name (i := 2) scReadStep.nd rfl (Or.inl rfl)) (pgs_cons (pg_name (i := 3) scReadStep.nd rfl (Or.inl rfl)) (pgs_cons (pg_name (i := 4) scReadStep.nd rfl (Or.inl rfl)) (pgs_cons (pg_name (i := 5) scReadStep.nd rfl (Or.inl rfl)) (pgs_cons (pg_name (i := 6) scReadStep.nd rfl (Or.inl rfl)) pgs_nil))))))
          (pg_tup (n := 5) rfl (pgs_cons (pg_name (i := 2) scReadStep.nd rfl (Or.inl rfl)) (pgs_cons (pg_name (i := 3) scReadStep.nd rfl (Or.inl rfl)) (pgs_cons (pg_name (i := 4) scReadStep.nd rfl (Or.inl rfl)) (pgs_cons (pg_name (i := 5) scReadStep.nd rfl (Or.inl rfl)) (pgs_cons (pg_name (i := 6) scReadStep.nd rfl (Or.inl rfl)) pgs_nil))))))))
      (pss_cons (ps_if (PW.pt (pw_or (pt_not (pt_val (C8.pe_c cL hr (by decide) (by rfl) (pa_cons (pv 4) pa_nil)))) (pw_or1 (pt_cmpR op_ne (pe_callB call_len_seq (by rfl) T.len PySem.boot_len (pa_cons (pv 4) pa_nil)) pe_int (nomark _)))))
        (pss_one (ps_ret pe_non)) pss_nil)
      (pss_cons (ps_for PassesOwn.never rfl (pi_tup (pe_tup (pa_cons (pv 2) (pa_cons (pv 3) (pa_cons (pe_ix ix_seq (pv 4) pe_int (fun _ _ => rfl)) (pa_cons (pe_ix ix_seq (pv 4) pe_int (fun _ _ => rfl)) (pa_cons (pv 5) (pa_cons (pv 6) pa_nil)))))))) (pg_name (i := 7) scReadStep.nd rfl (Or.inl rfl))
        (pss_one (ps_if (PW.pt (pw_or (pt_not (pt_val (pe_callB call_is1 (by rfl) T.isinstance boot_isinstance (pa_cons (pv 7) (pa_cons (pe_bltn (v := .ty "int") (by rfl) T.int boot_int rfl) pa_nil)))))
            (pw_or1 (pt_val (pe_callB call_is1 (by rfl) T.isinstance boot_isinstance (pa_cons (pv 7) (pa_cons (pe_bltn (v := .ty "bool") (by rfl) T.bool boot_bool rfl) pa_nil)))))))
          (pss_one (ps_ret pe_non)) pss_nil)))
      (pss_cons (ps_if (PW.pt (pw_or (pt_cmpR op_lt (pv 2) pe_int (nomark _)) (pw_or (pt_cmpR op_ge (pv 2) (pv 0) (nomark _)) (pw_or (pt_cmpR op_lt (pv 3) pe_int (nomark _)) (pw_or (pt_cmpR op_ge (pv 3) (pv 0) (nomark _)) (pw_or1 (pt_cmpR op_lt (pv 5) pe_int (nomark _))))))))
        (pss_one (ps_ret pe_non)) pss_nil)
      (pss_one (ps_ret (pe_tup (pa_cons (pv 2) (pa_cons (pv 3) (pa_cons (pe_callTy call_tuple_of (by rfl) T.tuple boot_tuple (pa_cons (pv 4) pa_nil)) (pa_cons (pv 5) (pa_cons (pv 6) pa_nil)))))))))))), ?_⟩
    have kn : rdStep n d = none → ∀ H', Ex H H' → Q .non H' := fun e H' e' => k H' .non e' (by rw [e]; rfl)
    refine ⟨_, rfl, v, _, rfl, lk_dp hd, fun H1 e1 => ?_⟩
    refine ⟨_, rfl, ?_⟩
    by_cases hl : isListD d = true
    · rw [hl]
      refine iteF ?_
      obtain ⟨a, xs, ds, rfl, hX, hs⟩ := dp_seq hd hl
      have hlen := dpa_len hX
      have hit : itemsD d = ds := by
        rcases hs with ⟨rfl, _⟩ | ⟨rfl, _⟩ <;> rfl
      refine ⟨_, rfl, a, xs, rfl, hs.imp (fun z => ex_l e1 z.2) (fun z => ex_t e1 z.2), rfl, _, rfl, ?_⟩
      by_cases h5 : xs.length = 5
      · have h5' : V.int (xs.length : Int) = V.int 5 := by rw [h5]; rfl
        rw [decide_eq_true h5']
        refine iteF ?_
        obtain ⟨x0, x1, x2, x3, x4, rfl⟩ := five_of h5
        obtain ⟨d0, d1, d2, d3, d4, rfl, hx0, hx1, hx2, hx3, hx4⟩ := dpa_five hX
        refine ⟨_, rfl, gun_or rfl (hs.imp (fun z => ex_l e1 z.2) (fun z => ex_t e1 z.2)) rfl ⟨x0, _, rfl, x1, _, rfl, x2, _, rfl, x3, _, rfl, x4, _, rfl, rfl, ?_⟩⟩
        have nope : (isListD d2 = true → ∀ e0 e1, itemsD d2 = [e0, e1] → (∀ z ∈ [d0, d1, e0, e1, d3, d4], isIntD z = true) → False) → rdStep n d = none := fun z => by
          cases q : rdStep n d with
          | none => rfl
          | some s =>
            obtain ⟨z1, e0, e1, z2, z3⟩ := rd_six hit q
            exact (z z1 e0 e1 z2 z3).elim
        refine ⟨_, rfl, x2, _, rfl, lk_dp (dp_ex e1 _ _ hx2), fun G2 eG2 => ⟨_, rfl, ?_⟩⟩
        have e2 := e1.trans eG2
        by_cases hl2 : isListD d2 = true
        · rw [hl2]
          refine iteF ?_
          obtain ⟨b, ys, es, rfl, hY, hs2⟩ := dp_seq hx2 hl2
          have hit2 : itemsD d2 = es := by
            rcases hs2 with ⟨rfl, _⟩ | ⟨rfl, _⟩ <;> rfl
          have hylen := dpa_len hY
          have hs2' : SqL K G2 b ys ∨ SqT K G2 b ys := hs2.imp (fun z => ex_l e2 z.2) (fun z => ex_t e2 z.2)
          refine ⟨_, rfl, b, ys, rfl, hs2', rfl, _, rfl, ?_⟩
          by_cases h2 : ys.length = 2
          · have h2' : V.int (ys.length : Int) = V.int 2 := by rw [h2]; rfl
            rw [decide_eq_true h2']
            refine iteF ?_
            obtain ⟨y0, y1, rfl⟩ := two_ofl h2
            obtain ⟨c0, c1, rfl, hy0, hy1⟩ := dpa_two hY
            refine ⟨_, rfl, _, rfl, _, rfl, ix_at (j := 0) hs2' rfl ?_⟩
            refine ⟨_, rfl, ix_at (j := 1) hs2' rfl ?_⟩
            refine ⟨_, rfl, _, rfl, by show 6 ≤ sizeLine; decide, fun L hL => ?_⟩
            have e3 := e2.trans (Ex.new (o := .tup [x0, x1, y0, y1, x3, x4]) hL)
            have hA : DpAll K (upd G2 L (.tup [x0, x1, y0, y1, x3, x4])) [x0, x1, y0, y1, x3, x4] [d0, d1, c0, c1, d3, d4] := dpa_ex e3 _ _ (.cons hx0 (.cons hx1 (.cons hy0 (.cons hy1 (.cons hx3 (.cons hx4 .nil))))))
            refine ⟨L, rfl, ⟨_, SqT.of upd_same⟩, ?_⟩
            refine for_tup (K := K) (a := L) (xs := [x0, x1, y0, y1, x3, x4]) (fun i σ G => ∃ x7 : Option V, σ = [some (.int n), some (.ref a), some x0, some x1, some (.ref b), some x3, some x4, x7] ∧ G = upd G2 L (.tup [x0, x1, y0, y1, x3, x4]) ∧ ∀ z ∈ ([d0, d1, c0, c1, d3, d4] : List PyData).take i, isIntD z = true)
              ⟨none, rfl, rfl, fun z hz => by simp at hz⟩ (fun i σ G _ ⟨_, _, e, _⟩ => by rw [e]; exact SqT.of upd_same) ?_ ?_
            · rintro i y σ G hy ⟨x7, rfl, rfl, hi⟩
              obtain ⟨di, hdi, hyd⟩ := dpa_get hA hy
              have hmem := mem_of_get hdi
              refine ⟨_, rfl, y, _, _, .type "int", _, rfl, .ty _, ty_dp hyd, kd_int di, _, rfl, ?_⟩
              have bad : isIntD di = false → Q .non (upd G2 L (.tup [x0, x1, y0, y1, x3, x4])) := fun z => kn (nope fun _ f0 f1 hf hz => by
                rw [hit2] at hf
                cases hf
                have := hz di hmem
                rw [z] at this
                cases this) _ e3
              cases hi1 : isIntD di with
              | true =>
                refine iteF ?_
                refine ⟨_, rfl, y, _, _, .type "bool", _, rfl, .ty _, ty_dp hyd, kd_bool di, ?_⟩
                obtain ⟨i', rfl⟩ := int_of hi1
                refine ⟨_, rfl, iteF ⟨_, rfl, rfl, fun z hz => ?_⟩⟩
                rw [List.take_succ, hdi] at hz
                rcases List.mem_append.mp hz with hz | hz
                · exact hi z hz
                · simp at hz
                  subst hz
                  rfl
              | false =>
                cases di with
                | bool b' =>
                  refine iteF ?_
                  refine ⟨_, rfl, y, _, _, .type "bool", _, rfl, .ty _, ty_dp hyd, kd_bool _, ?_⟩
                  exact ⟨_, rfl, iteT (bad hi1)⟩
                | int => cases hi1
                | _ => exact iteT (iteT (bad hi1))
            · rintro σ G ⟨x7, rfl, rfl, hi⟩
              have hall : ∀ z ∈ [d0, d1, c0, c1, d3, d4], isIntD z = true := fun z hz => hi z (by simpa using hz)
              obtain ⟨i0, rfl⟩ := int_of (hall d0 (by simp))
              obtain ⟨i1, rfl⟩ := int_of (hall d1 (by simp))
              obtain ⟨p, rfl⟩ := int_of (hall c0 (by simp))
              obtain ⟨q, rfl⟩ := int_of (hall c1 (by simp))
              obtain ⟨i3, rfl⟩ := int_of (hall d3 (by simp))
              obtain ⟨i4, rfl⟩ := int_of (hall d4 (by simp))
              have hr5 := rd_at (n := n) hit hit2
              cases hx0
              cases hx1
              cases hx3
              cases hx4
              cases hy0
              cases hy1
              have no : ¬ (0 ≤ i0 ∧ i0 < n ∧ 0 ≤ i1 ∧ i1 < n ∧ 1 ≤ i3) → Q .non (upd G2 L (.tup [.int i0, .int i1, .int p, .int q, .int i3, .int i4])) := fun z => kn (by rw [hr5, if_neg z]) _ e3
              refine ⟨_, rfl, _, _, rfl, rfl, _, rfl, ?_⟩
              refine dec_ite (fun z => ?_) (fun z1 => ?_)
              · exact iteT (no (fun y => by omega))
              refine ⟨_, rfl, _, rfl, _, _, rfl, rfl, _, rfl, ?_⟩
              refine dec_ite (fun z => ?_) (fun z2 => ?_)
              · exact iteT (no (fun y => by omega))
              refine ⟨_, rfl, _, _, rfl, rfl, _, rfl, ?_⟩
              refine dec_ite (fun z => ?_) (fun z3 => ?_)
              · exact iteT (no (fun y => by omega))
              refine ⟨_, rfl, _, rfl, _, _, rfl, rfl, _, rfl, ?_⟩
              refine dec_ite (fun z => ?_) (fun z4 => ?_)
              · exact iteT (no (fun y => by omega))
              refine ⟨_, rfl, _, _, rfl, rfl, _, rfl, ?_⟩
              refine dec_ite (fun z => ?_) (fun z5 => ?_)
              · exact no (fun y => by omega)
              rw [if_pos ⟨by omega, by omega, by omega, by omega, by omega⟩] at hr5
              refine ⟨_, rfl, _, rfl, _, rfl, b, [.int p, .int q], rfl, ?_⟩
              rcases hs2 with ⟨_, hs2⟩ | ⟨_, hs2⟩
              · refine .inl ⟨ex_l e3 hs2, fun l hl => ⟨_, rfl, _, rfl, by show 5 ≤ sizeLine; decide, fun t ht => ?_⟩⟩
                refine k _ _ ((e3.trans (Ex.new hl)).trans (Ex.new ht)) ?_
                rw [hr5]
                exact stD_mk (s := ⟨i0, i1, p, q, i3, i4⟩) (SqT.of upd_same) (SqT.of (by rw [upd_ne (ne_of_none upd_same ht)]; exact upd_same))
              · refine .inr ⟨ex_t e3 hs2, _, rfl, _, rfl, by show 5 ≤ sizeLine; decide, fun t ht => ?_⟩
                refine k _ _ (e3.trans (Ex.new ht)) ?_
                rw [hr5]
                exact stD_mk (s := ⟨i0, i1, p, q, i3, i4⟩) (SqT.of upd_same) (ex_t (e3.trans (Ex.new ht)) hs2)
          · rw [decide_eq_false (fun z => h2 (by have := V.int.inj z; omega))]
            refine iteT (kn (nope fun _ f0 f1 hf _ => h2 ?_) _ e2)
            rw [hylen, ← hit2, hf]
            rfl
        · have hf : isListD d2 = false := by simpa using hl2
          rw [hf]
          exact iteT (iteT (kn (nope fun z _ _ _ _ => hl2 z) _ e2))
      · have hn : rdStep n d = none := by
          cases q : rdStep n d with
          | none => rfl
          | some s => exact absurd (by rw [hlen, ← hit]; exact rd_len q) h5
        rw [decide_eq_false (fun z => h5 (by have := V.int.inj z; omega))]
        exact iteT (kn hn _ e1)
    · have hn : rdStep n d = none := by
        cases q : rdStep n d with
        | none => rfl
        | some s => exact absurd (rd_list q) hl
      have hf : isListD d = false := by simpa using hl
      rw [hf]
      exact iteT (iteT (kn hn _ e1))
end
end AA

set_option Elab.async false
set_option linter.all false
set_option maxRecDepth 100000
set_option maxHeartbeats 4000000
/-! enumerate over a list or a tuple. -/
namespace AA
open PySem PySem.Spec PyProof.Rows L2 Evl
theorem enumT_new {v : Value} {o : Obj} {Z : Heap → Prop} (B : Begins v o Z) :
    Meets (Builtin.«enumerate.__new__» ⟨[.type "enumerate", v], []⟩) (fun _ R s => Z s.heap ∧
      R (.ok (.ret (.ref (s.heap.push o).objs.size))) { s with heap := (s.heap.push o).push { cls := .type "enumerate", data := .fields #[.none, .bool false, .ref s.heap.objs.size, rawInt 0, .none, .none] } }) :=
  .of_wp fun prog w A R s h => by
    obtain ⟨hp, g, d, tk, os⟩ := s
    obtain ⟨z, h⟩ := h
    have sb := sub_enumerate
    have go : ∀ {A' : Around} {E : Value → Shared → Prop} {Q : Value → Shared → Prop}, Q (.ref hp.objs.size) ⟨hp.push o, g, d, tk, os⟩ → wpAny (model prog w) A' (pyIter v) Q E ⟨hp, g, d, tk, os⟩ := fun q => B.iter prog w _ _ ⟨hp, g, d, tk, os⟩ _ z q
    wp_walk using go
    refine wpAny_stack_any (fun st => wpAny_pure ?_)
    split
    · rename_i c _ _ _ _ _
      cases (c == Value.type "enumerate") <;> (wp_walk using go; exact ⟨_, rfl, h⟩)
    · wp_walk using go
      exact ⟨_, rfl, h⟩
section
variable {prog : Program} {w : World} {A : Around} {E : Value → Shared → Prop} {s : Shared}
theorem enumT_call {v : Value} {o : Obj} {Z : Heap → Prop} {Q : Value → Shared → Prop} (B : Begins v o Z) (z : Z s.heap)
    (h : ∀ h', IsEnum h' (s.heap.objs.size + 1) s.heap.objs.size 0 .none → h'.get? s.heap.objs.size = some o → h'.objs.size = s.heap.objs.size + 2 →
      (∀ b o, s.heap.get? b = some o → h'.get? b = some o) → Q (.ref (s.heap.objs.size + 1)) { s with heap := h' }) : wpAny (model prog w) A (call (.type "enumerate") [v]) Q E s := by
  have hz : (s.heap.push o).objs.size = s.heap.objs.size + 1 := Heap.size_push ..
  have he : IsEnum ((s.heap.push o).push { cls := .type "enumerate", data := .fields #[.none, .bool false, .ref s.heap.objs.size, rawInt 0, .none, .none] }) (s.heap.objs.size + 1) s.heap.objs.size 0 .none := by
    have q := Heap.get?_push_size (s.heap.push o) (o := { cls := .type "enumerate", data := .fields #[.none, .bool false, .ref s.heap.objs.size, rawInt 0, .none, .none] }) rfl
    rw [hz] at q
    exact q
  refine callType_new F.called_enumerate (by decide) (F.typeCall_enumerate_1 _) (F.newCall_enumerate_1 _) (fun obj => F.args_object_init_2 obj _) F.entry_enumerate_new (enumT_new B) ⟨z, ?_⟩
  show _ ∧ _
  rw [hz]
  exact ⟨⟨_, he, rfl⟩, h _ he (Heap.get?_push_of_some _ (Heap.get?_push_size _ B.free)) (by rw [Heap.size_push, hz]) (fun b u x => Heap.get?_push_of_some _ (Heap.get?_push_of_some _ x))⟩
end
/-- the tuple at a, each item in a new pair -/
def IteT (K : PySem.W.Frag) (a : Addr) : It :=
  ⟨fun i H => ∃ (xs : List V) (x : V), SqT K H a xs ∧ xs[i]? = some x, fun i H v H' => ∃ T x, v = .ref T ∧ H T = none ∧ H' = upd H T (.tup [.int (i : Nat), x]) ∧ (∀ xs, SqT K H a xs → xs[i]? = some x), fun i H => ∃ xs : List V, SqT K H a xs ∧ xs.length = i⟩
theorem turn_enumT {P : Program} {w : World} {K : PySem.W.Frag} {elts : List Expr} {kk : Nat} {tpos : Pos} {a e it : Addr} (ai : a ≠ it) (hne : e ≠ it) (hea : e ≠ a) :
    Turn P w K (.Tuple elts kk tpos) (IteT K a) [e, it] e (fun i h => (∃ old, IsEnum h e it ((i : Nat) : Int) old) ∧ h.IsTupleIter it a i) where
  mem := List.mem_cons_self
  obj := fun i h st b hb => by
    obtain ⟨⟨old, he⟩, ⟨o, ho, hc, hd⟩⟩ := st
    rcases List.mem_cons.mp hb with rfl | z
    · exact ⟨_, he, fun v q => nomatch q⟩
    · obtain rfl := List.mem_singleton.mp z
      exact ⟨o, ho, fun v q => by rw [hd] at q; cases q⟩
  keep := fun i h h' st k => by
    obtain ⟨⟨old, he⟩, hi⟩ := st
    exact ⟨⟨old, k e List.mem_cons_self _ he⟩, hi.at fun o q => k it (by simp) o q⟩
  item := by
    intro X hP hw hK hc i pins s σ H E I hf st hg
    subst hP hw hK
    obtain ⟨⟨old, he⟩, hit⟩ := st
    obtain ⟨xs, x, hq, hx⟩ := hg
    obtain ⟨its, rv, p, hz⟩ := I.tuple hq
    obtain ⟨u, hu, ru⟩ := rv.get hx
    have hel : e < s.heap.objs.size := Heap.lt_size he
    have hil : it < s.heap.objs.size := by
      obtain ⟨_, q, _⟩ := hit
      exact Heap.lt_size q
    have hin : i < its.toArray.size := by
      have := (List.getElem?_eq_some_iff.mp hu).1
      simpa using this
    have pt : s.heap.IsTuple a its.toArray := p
    refine wpAny_pyNext_enum_itemD (Draws.tuple (A := X.A.in1) (I.ok.hd hc) it a ai its.toArray) he ⟨hit, pt⟩ hin hne (by simp [hne, hea]) fun y h' tk hy ho hst hT hsz hk => ?_
    have ey : u = y := by
      have h1 : its.toArray[i]? = some u := by simpa using hu
      exact Option.some.inj (h1.symm.trans hy)
    subst ey
    refine ⟨_, rfl, wpAny_letOwnedTupleGo_enum (s := { s with heap := h', toks := tk + 1 }) ho fun h'' he' sb => ?_⟩
    have hT2 : h''.get? s.heap.objs.size = some { cls := .type "tuple", data := .seq #[.int i tk, u] } := (sb.2 _ (Nat.ne_of_gt hel)).trans hT
    have new : ObjOk X.prog X.w (upd H s.heap.objs.size (.tup [.int (i : Nat), x])) h'' s.heap.objs.size (.tup [.int (i : Nat), x]) :=
      ⟨by show 2 ≤ sizeLine; decide, [.int i tk, u], .cons ⟨_, rfl⟩ (.cons ru .nil), _, hT2, rfl, _, rfl⟩
    have I1 : Inv X pins σ (upd H s.heap.objs.size (.tup [.int (i : Nat), x])) { s with heap := h'', toks := tk + 1 } :=
      I.turnedNew (ch := [e, it]) (fun b ob hb q => (sb.2 b (fun z => hb (by simp [z]))).trans (hk b ob (fun z => hb (by simp [z])) (fun z => hb (by simp [z])) q)) hf (Nat.le_refl _) new
    have e1 : ((i + 1 : Nat) : Int) = (i : Int) + 1 := by omega
    refine ⟨.ref s.heap.objs.size, _, I1, rfl, ⟨_, x, rfl, I.hok.fresh (Nat.le_refl _), rfl, fun ys hy => by rw [I.tuple_inj hy hq]; exact hx⟩, ⟨⟨u, by rw [e1]; exact he'⟩, hst.1.at fun o q => (sb.2 it (Ne.symm hne)).trans q⟩, fun b hb => ?_⟩
    have hb' : b < s.heap.objs.size := by
      rcases List.mem_cons.mp hb with rfl | z
      · exact hel
      · obtain rfl := List.mem_singleton.mp z
        exact hil
    rw [upd_ne (Nat.ne_of_lt hb')]
    exact (hf b hb).1
  done := by
    intro X hP hw hK hc i pins s σ H E I hf st hg
    subst hP hw hK
    obtain ⟨⟨old, he⟩, hit⟩ := st
    obtain ⟨xs, hq, hx⟩ := hg
    obtain ⟨its, rv, p, hz⟩ := I.tuple hq
    obtain ⟨f0, f1, f2, f3, f4, f5⟩ := hf it (by simp)
    have hl := rv.length
    have pt : s.heap.IsTuple a its.toArray := p
    have hi : i = its.toArray.size := by
      rw [← hx, hl]
      simp
    subst hi
    exact wpAny_pyNext_enum_endD (Draws.tuple (A := X.A.in1) (I.ok.hd hc) it a ai its.toArray) he ⟨hit, pt⟩ fun h' eb => ⟨rfl, I.turned (t' := s.toks) (fun b o hb q => eb b o hb q) f0 f1 f3 f4 f5⟩
  self := fun A i s Q E st h => by
    obtain ⟨⟨_, he⟩, _⟩ := st
    exact wpAny_pyIter_enum he h
/-- enumerate(list) or enumerate(tuple) -/
def iEnumA (K : PySem.W.Frag) (ta : TA) : TI := fun σ H R => ta σ H fun vs H1 => ∃ a xs, vs = [.ref a] ∧ ((SqL K H1 a xs ∧ R (Ite K a) H1) ∨ (SqT K H1 a xs ∧ R (IteT K a) H1))
theorem pi_enumA {X : Cx} {e : Expr} {ta : TA} {p pos tpos : Pos} {elts : List Expr} {kk : Nat} (hg : Gl X "enumerate") (hm : X.mg "enumerate" = none) (ha : PA X [e] ta) (hs : starEach [e] X.env = [(false, eval e X.env)] := by rfl) :
    PI X (.Tuple elts kk tpos) (.Call (.Name "enumerate" p) [e] [] pos) (iEnumA X.K ta) := ⟨fun pins s σ H R I h =>
  Call_ (ld_blt I hg hm boot_enumerate (PyProof.Rows.callWith_type1 (thn (ha.run pos pins s σ H _ I h) fun us s1 ⟨vs, H1, I1, r1, a, xs, ex, q1⟩ => by
    subst ex
    obtain ⟨u, rfl, ru⟩ := vals1 r1
    cases (show u = Value.ref a from ru)
    have fresh : ∀ b ∈ [s1.heap.objs.size + 1, s1.heap.objs.size], FpOk X pins H1 b := fun b hb => by
      have hle : s1.heap.objs.size ≤ b := by
        rcases List.mem_cons.mp hb with rfl | z
        · exact Nat.le_add_right _ _
        · exact Nat.le_of_eq (List.mem_singleton.mp z).symm
      exact I1.fpOk hle (I1.hok.fresh hle)
    rcases q1 with ⟨hq, q⟩ | ⟨hq, q⟩
    · obtain ⟨its, rv, p', hz⟩ := I1.list hq
      refine call_enumerate_list p'.isList fun h' he hit hsz hk => wpAny_pyIter_enum he ?_
      exact ⟨s1.heap.objs.size + 1, _, _, _, H1, rfl, I1.kept (t' := s1.toks) hk, turn_enum a (s1.heap.objs.size + 1) s1.heap.objs.size, ⟨⟨.none, he⟩, hit, Nat.succ_ne_self _⟩, fresh, q⟩
    · obtain ⟨its, rv, p', hz⟩ := I1.tuple hq
      have hal : a < s1.heap.objs.size := p'.lt
      refine enumT_call (begins_tuple a its.toArray) p' fun h' he hit hsz hk => wpAny_pyIter_enum he ?_
      exact ⟨s1.heap.objs.size + 1, _, _, _, H1, rfl, I1.kept (t' := s1.toks) hk, turn_enumT (a := a) (e := s1.heap.objs.size + 1) (it := s1.heap.objs.size) (Nat.ne_of_lt hal) (Nat.succ_ne_self _) (Ne.symm (Nat.ne_of_lt (Nat.lt_succ_of_lt hal))), ⟨⟨.none, he⟩, ⟨_, hit, rfl, rfl⟩⟩, fresh, q⟩) hs rfl))⟩
theorem for_enumT {K : PySem.W.Frag} {a : Addr} {xs : List V} {g : TG} {tb : TS} {D : Ends} {σ : L2.St} {H : Hp} (Pv : Nat → L2.St → Hp → Prop) (h0 : Pv 0 σ H) (hl : ∀ i σ H, i ≤ xs.length → Pv i σ H → SqT K H a xs)
    (hs : ∀ (i : Nat) (x : V) (σ : L2.St) (H : Hp) (T : Addr), xs[i]? = some x → Pv i σ H → H T = none → g (.ref T) σ (upd H T (.tup [.int (i : Nat), x])) fun σ2 H2 => tb { D with nx := Pv (i + 1), ct := Pv (i + 1), bk := D.nx } σ2 H2) (hd : ∀ σ H, Pv xs.length σ H → D.nx σ H) :
    ∃ W : Nat → Nat → L2.St → Hp → Prop, (∃ m, W 0 m σ H) ∧ ∀ i m σ H, W i m σ H →
      ((IteT K a).stop i H ∧ D.nx σ H) ∨ ((IteT K a).go i H ∧ ∃ N : L2.St → Hp → Prop, (∀ σ' H', N σ' H' → ∃ m', m' < m ∧ W (i + 1) m' σ' H') ∧ ∀ x H', (IteT K a).yld i H x H' → g x σ H' fun σ2 H2 => tb { D with nx := N, ct := N, bk := D.nx } σ2 H2) := by
  refine ⟨fun i m σ H => m = xs.length - i ∧ i ≤ xs.length ∧ Pv i σ H, ⟨xs.length, by simp, Nat.zero_le _, h0⟩, ?_⟩
  rintro i m σ H ⟨rfl, hi, p⟩
  have q := hl i σ H hi p
  by_cases hlt : i < xs.length
  · refine .inr ⟨⟨xs, xs[i], q, by simp [hlt]⟩, Pv (i + 1), fun σ' H' p' => ⟨xs.length - (i + 1), by omega, rfl, hlt, p'⟩, fun x H' y => ?_⟩
    obtain ⟨T, z, rfl, hT, rfl, e⟩ := y
    exact hs i z σ _ T (e xs q) p hT
  · have e : i = xs.length := by omega
    subst e
    exact .inl ⟨⟨xs, q, rfl⟩, hd σ H p⟩
theorem for_enumA {K : PySem.W.Frag} {a : Addr} {xs : List V} {g : TG} {tb : TS} {D : Ends} {σ : L2.St} {H0 H : Hp} (hq : SqL K H0 a xs ∨ SqT K H0 a xs) (Pv : Nat → L2.St → Hp → Prop) (h0 : Pv 0 σ H) (he : ∀ i σ G, Pv i σ G → Ex H0 G)
    (hs : ∀ (i : Nat) (x : V) (σ : L2.St) (H : Hp) (T : Addr), xs[i]? = some x → Pv i σ H → H T = none → g (.ref T) σ (upd H T (.tup [.int (i : Nat), x])) fun σ2 H2 => tb { D with nx := Pv (i + 1), ct := Pv (i + 1), bk := D.nx } σ2 H2) (hd : ∀ σ H, Pv xs.length σ H → D.nx σ H) :
    (SqL K H a xs ∧ ∃ W : Nat → Nat → L2.St → Hp → Prop, (∃ m, W 0 m σ H) ∧ ∀ i m σ H, W i m σ H →
      ((Ite K a).stop i H ∧ D.nx σ H) ∨ ((Ite K a).go i H ∧ ∃ N : L2.St → Hp → Prop, (∀ σ' H', N σ' H' → ∃ m', m' < m ∧ W (i + 1) m' σ' H') ∧ ∀ x H', (Ite K a).yld i H x H' → g x σ H' fun σ2 H2 => tb { D with nx := N, ct := N, bk := D.nx } σ2 H2)) ∨
    (SqT K H a xs ∧ ∃ W : Nat → Nat → L2.St → Hp → Prop, (∃ m, W 0 m σ H) ∧ ∀ i m σ H, W i m σ H →
      ((IteT K a).stop i H ∧ D.nx σ H) ∨ ((IteT K a).go i H ∧ ∃ N : L2.St → Hp → Prop, (∀ σ' H', N σ' H' → ∃ m', m' < m ∧ W (i + 1) m' σ' H') ∧ ∀ x H', (IteT K a).yld i H x H' → g x σ H' fun σ2 H2 => tb { D with nx := N, ct := N, bk := D.nx } σ2 H2)) :=
  hq.imp (fun q => ⟨ex_l (he _ _ _ h0) q, for_enumL Pv h0 (fun i σ G hi p => ex_l (he i σ G p) q) hs hd⟩) (fun q => ⟨ex_t (he _ _ _ h0) q, for_enumT Pv h0 (fun i σ G hi p => ex_t (he i σ G p) q) hs hd⟩)
end AA

set_option Elab.async false
set_option linter.all false
set_option maxRecDepth 100000
set_option maxHeartbeats 4000000
/-! read_steps, of good steps. -/
namespace AA
open PySem PySem.Spec PyProof.Rows L2 Evl
theorem sqt_upd {K : PySem.W.Frag} {G : Hp} {p a : Addr} {φ : Heap → Prop} {o : HO} {xs : List V} (hp : G p = some (.ext φ)) (h : SqT K G a xs) : SqT K (upd G p o) a xs := by
  rcases h with h | h
  · refine .inl ?_
    rcases h with h | ⟨u, h⟩
    · exact .inl (by rw [upd_ne (fun z => by rw [z, hp] at h; cases h)]; exact h)
    · exact .inr ⟨u, by rw [upd_ne (fun z => by rw [z, hp] at h; cases h)]; exact h⟩
  · exact .inr h
theorem st_upd {K : PySem.W.Frag} {G : Hp} {p : Addr} {φ : Heap → Prop} {o : HO} {v : V} {s : St5} (hp : G p = some (.ext φ)) (h : Dp K G v (stD s)) : Dp K (upd G p o) v (stD s) := by
  obtain ⟨t, u, rfl, h1, h2⟩ := stD_inv h
  exact stD_mk (sqt_upd hp h1) (sqt_upd hp h2)
theorem ks_upd {K : PySem.W.Frag} {G : Hp} {p : Addr} {φ : Heap → Prop} {o : HO} {ks : List (St5 × Addr)} (hp : G p = some (.ext φ)) (h : KsOk K G ks) : KsOk K (upd G p o) ks := fun x m => st_upd hp (h x m)
theorem ks_dpa {K : PySem.W.Frag} {G : Hp} : ∀ {ks : List (St5 × Addr)}, KsOk K G ks → DpAll K G (ks.map fun x => V.ref x.2) ((ks.map (·.1)).map stD)
  | [], _ => .nil
  | x :: r, h => .cons (h x List.mem_cons_self) (ks_dpa fun y m => h y (List.mem_cons_of_mem _ m))
theorem map_get {α β : Type} {f : α → Option β} {xs : List α} {ys : List β} (h : xs.map f = ys.map some) {i : Nat} {x : α} (hx : xs[i]? = some x) : ∃ y, ys[i]? = some y ∧ f x = some y := by
  have h1 : (xs.map f)[i]? = some (f x) := by rw [List.getElem?_map, hx]; rfl
  rw [h, List.getElem?_map] at h1
  cases q : ys[i]? with
  | none =>
    rw [q] at h1
    cases h1
  | some y =>
    rw [q] at h1
    exact ⟨y, rfl, (Option.some.inj h1).symm⟩
theorem nodup_take {α : Type} {ys : List α} (h : ys.Nodup) {i : Nat} {y : α} (hy : ys[i]? = some y) : y ∉ ys.take i := by
  intro m
  obtain ⟨j, hj⟩ := List.mem_iff_getElem?.mp m
  rw [List.getElem?_take] at hj
  split at hj
  · rename_i hlt
    have : j = i := (List.getElem?_inj (List.getElem?_eq_some_iff.mp hj).1 h).mp (hj.trans hy.symm)
    omega
  · cases hj
section
variable {P : Program} {w : World} {K : PySem.W.Frag} {mg : Str → Option Value} {base : Heap}
def spReadSteps (K : PySem.W.Frag) : Sp := fun vs H Q _ => ∃ (n : Int) (v : V) (d : PyData) (ss : List St5), vs = [.int n, v] ∧ Dp K H v d ∧ isListD d = true ∧ (itemsD d).map (rdStep n) = ss.map some ∧ ss.Nodup ∧ ss.length ≤ 1000000 ∧
  ∀ H' p ys, Ex H H' → H p = none → H' p = some (.lst ys) → DpAll K H' ys (ss.map stD) → Q (.ref p) H'
theorem scReadSteps : FnScope ["places", "things", "found", "index", "thing", "step"] ["places", "things"] (defScope sReadSteps) := ⟨rfl, rfl, rfl, by decide +kernel, rfl, by decide +kernel, by decide +kernel⟩
theorem ok_readSteps {f : Addr} {fd : FuncData} (F : L2.Fun K "read_steps" "read_steps" sReadSteps f fd) (T : Bn mg) (cR : C8.Cal P w K mg base 3 "read_step" (spReadStep K) []) (cL : C8.Cal P w K mg base 1 "is_list" (spIsList K) []) :
    FnOk P w K mg base CX0 4 f fd ["places", "things"] (spReadSteps K) := by
  refine F.ok scReadSteps (fun vs H Q E h => ?_) (fun cdv A outer s H vs Q E hr h => ?_)
  · obtain ⟨n, v, d, ss, rfl, _⟩ := h
    rfl
  · obtain ⟨n, v, d, ss, rfl, hd, hl, hm, hnd, hsz, k⟩ := h
    have hun := hr.un
    have hu9 : (A.deeper (envOfC "read_steps" (defScope sReadSteps) s.heap.objs.size f cdv)).units + 9 < cLine := by omega
    refine ⟨_, pss_cons (ps_if (pt_not (pt_val (C8.pe_c cL hr (by decide) (by rfl) (pa_cons (pv 1) pa_nil)))) pss_never pss_nil)
      (pss_cons (ps_set (i := 2) scReadSteps.nd rfl (Or.inl rfl) pe_snew)
      (pss_cons (ps_for PassesOwn.never rfl (pi_enumA (by rfl) T.enumerate (pa_cons (pv 1) pa_nil)) (pg_tup (n := 2) rfl (pgs_cons (pg_name (i := 3) scReadSteps.nd rfl (Or.inl rfl)) (pgs_cons (pg_name (i := 4) scReadSteps.nd rfl (Or.inl rfl)) pgs_nil)))
        (pss_cons (ps_set (i := 5) scReadSteps.nd rfl (Or.inl rfl) (C8.pe_c cR hr (by decide) (by rfl) (pa_cons (pv 0) (pa_cons (pv 4) pa_nil))))
        (pss_cons (ps_if (PW.pt (pw_or (pt_cmp (pc_isN (pv 5))) (pw_or1 (pt_cmp (pc_sin hu9 (pv 5) (pv 2)))))) pss_never pss_nil)
        (pss_one (ps_sput hu9 (pv 2) (pv 5) (by rfl))))))
      (pss_one (ps_ret (pe_callTy (call_list_sd (by rfl)) (by rfl) T.list boot_list (pa_cons (pv 2) pa_nil)))))), ?_⟩
    obtain ⟨a, xs, ds, rfl, hX, hs⟩ := dp_seq hd hl
    have hlen := dpa_len hX
    have hit : itemsD d = ds := by
      rcases hs with ⟨rfl, _⟩ | ⟨rfl, _⟩ <;> rfl
    rw [hit] at hm
    have hln : ds.length = ss.length := by
      have := congrArg List.length hm
      rw [List.length_map, List.length_map] at this
      exact this
    refine ⟨_, rfl, .ref a, true, rfl, by have := lk_dp hd; rw [hl] at this; exact this, fun H1 e1 => ⟨_, rfl, ?_⟩⟩
    refine iteF ?_
    refine fun p hp => ?_
    refine ⟨_, rfl, a, xs, rfl, for_enumA (K := K) (a := a) (xs := xs) (H0 := H) (hs.imp And.right And.right)
      (fun i σ G => ∃ (x3 x4 x5 : Option V) (ks : List (St5 × Addr)), σ = [some (.int n), some (.ref a), some (.ref p), x3, x4, x5] ∧ Ex H1 G ∧ G p = some (SD P w p ks) ∧ KsOk K G ks ∧ ks.map (·.1) = ss.take i) ?_ ?_ ?_ ?_⟩
    · exact ⟨none, none, none, [], rfl, Ex.new hp, upd_same, KsOk.nil, by rw [List.take_zero]; rfl⟩
    · rintro i σ G ⟨x3, x4, x5, ks, rfl, q1, _⟩
      exact e1.trans q1
    · rintro i x σ G T hx ⟨x3, x4, x5, ks, rfl, q1, q2, q3, q4⟩ hT
      obtain ⟨di, hdi, hxd⟩ := dpa_get hX hx
      obtain ⟨si, hsi, hrd⟩ := map_get hm hdi
      have eT := Ex.new (o := .tup [.int (i : Nat), x]) hT
      refine ⟨T, _, rfl, SqT.of upd_same, rfl, _, _, rfl, _, _, rfl, rfl, ?_⟩
      refine ⟨_, rfl, _, rfl, n, x, di, rfl, dp_ex (e1.trans (q1.trans eT)) _ _ hxd, fun G2 r eG2 hr2 => ?_⟩
      rw [hrd] at hr2
      obtain ⟨b, c, rfl, _⟩ := stD_inv hr2
      have hp2 : G2 p = some (SD P w p ks) := eG2 _ _ (eT _ _ q2)
      have hk2 : KsOk K G2 ks := (q3.ex eT).ex eG2
      have hni : si ∉ ks.map (·.1) := by
        rw [q4]
        exact nodup_take hnd hsi
      have hkl : ks.length ≤ 1000000 := by
        have := congrArg List.length q4
        rw [List.length_map, List.length_take] at this
        omega
      refine ⟨_, rfl, _, rfl, ?_⟩
      refine iteF ?_
      refine ⟨_, rfl, _, rfl, _, ⟨p, ks, b, si, rfl, rfl, hp2, hk2, hr2, rfl⟩, _, rfl, ?_⟩
      rw [decide_eq_false hni]
      refine iteF ?_
      refine ⟨_, rfl, _, rfl, p, ks, b, si, rfl, rfl, hp2, hk2, hr2, hni, sz_m hkl, ?_⟩
      refine ⟨_, _, _, ks ++ [(si, b)], rfl, Ex.mut ((q1.trans eT).trans eG2) hp, upd_same, (ks_upd hp2 hk2).snoc (st_upd hp2 hr2), ?_⟩
      rw [List.map_append, q4, List.take_succ, hsi]
      rfl
    · rintro σ G ⟨x3, x4, x5, ks, rfl, q1, q2, q3, q4⟩
      rw [hlen, hln, List.take_length] at q4
      refine ⟨_, rfl, p, ks, rfl, q2, q3, fun l hl2 => ?_⟩
      have e2 := e1.trans q1
      refine k _ l _ (e2.trans (Ex.new hl2)) (fresh_back e2 hl2) upd_same ?_
      have q5 := ks_dpa (q3.ex (Ex.new (o := .lst (ks.map fun x => V.ref x.2)) hl2))
      rw [q4] at q5
      exact q5
end
end AA

set_option Elab.async false
set_option linter.all false
set_option maxRecDepth 100000
set_option maxHeartbeats 4000000
/-! The class of webs. -/
namespace AA
open PySem PySem.Spec PyProof.Rows L2 Evl
theorem nps_ : ¬ (("_places" : Str) = "_steps") := by decide +kernel
theorem npk_ : ¬ (("_places" : Str) = "known") := by decide +kernel
theorem nsk_ : ¬ (("_steps" : Str) = "known") := by decide +kernel
def wf (n : Int) (l kd : Addr) : List (Str × V) := putF "known" (.ref kd) (putF "_steps" (.ref l) (putF "_places" (.int n) []))
theorem wf_places (n : Int) (l kd : Addr) : (wf n l kd).lookup ("_places" : Str) = some (.int n) := by
  unfold wf
  rw [lookup_putF, if_neg npk_, lookup_putF, if_neg nps_, lookup_putF, if_pos rfl]
theorem wf_steps (n : Int) (l kd : Addr) : (wf n l kd).lookup ("_steps" : Str) = some (.ref l) := by
  unfold wf
  rw [lookup_putF, if_neg nsk_, lookup_putF, if_pos rfl]
theorem wf_known (n : Int) (l kd : Addr) : (wf n l kd).lookup ("known" : Str) = some (.ref kd) := by
  unfold wf
  rw [lookup_putF, if_pos rfl]
theorem wf_no (n : Int) (l kd : Addr) {m : Str} (h1 : ¬ m = "_steps") (h2 : ¬ m = "_places") (h3 : ¬ m = "known") : (wf n l kd).lookup m = none := by
  unfold wf
  rw [lookup_putF, if_neg h3, lookup_putF, if_neg h1, lookup_putF, if_neg h2]
  all_goals rfl
/-- a web stands at x: n places, the steps ss in some list -/
def WebAt (K : PySem.W.Frag) (C : Addr) (H : Hp) (x : Addr) (n : Int) (ss : List St5) : Prop := ∃ (dx l kd : Addr) (ys : List V), H x = some (.ins C dx (wf n l kd)) ∧ H l = some (.lst ys) ∧ DpAll K H ys (ss.map stD)
theorem WebAt.ex {K : PySem.W.Frag} {C : Addr} {H H' : Hp} {x : Addr} {n : Int} {ss : List St5} (h : WebAt K C H x n ss) (e : Ex H H') : WebAt K C H' x n ss := by
  obtain ⟨dx, l, kd, ys, h1, h2, h3⟩ := h
  exact ⟨dx, l, kd, ys, e _ _ h1, e _ _ h2, dpa_ex e _ _ h3⟩
/-- what the top has written of the class -/
structure WebTxt (K : PySem.W.Frag) (mg : Str → Option Value) (C : Addr) : Prop where
  cl : Cls K C
  nP : NoAttr K C "_places"
  nS : NoAttr K C "_steps"
  nK : NoAttr K C "known"
  mgC : mg "Web" = some (.ref C)
theorem sqt_upd2 {K : PySem.W.Frag} {G : Hp} {p a : Addr} {o : HO} {xs : List V} (hp : ∀ xs u, G p ≠ some (.tup xs) ∧ G p ≠ some (.frz u (.tup xs))) (h : SqT K G a xs) : SqT K (upd G p o) a xs := by
  rcases h with h | h
  · refine .inl ?_
    rcases h with h | ⟨u, h⟩
    · exact .inl (by rw [upd_ne (fun z => (hp xs { cls := .none, data := .fields #[] }).1 (by rw [← z]; exact h))]; exact h)
    · exact .inr ⟨u, by rw [upd_ne (fun z => (hp xs u).2 (by rw [← z]; exact h))]; exact h⟩
  · exact .inr h
theorem sts_upd {K : PySem.W.Frag} {G : Hp} {p : Addr} {o : HO} (hp : ∀ xs u, G p ≠ some (.tup xs) ∧ G p ≠ some (.frz u (.tup xs))) : ∀ {vs : List V} {ss : List St5}, DpAll K G vs (ss.map stD) → DpAll K (upd G p o) vs (ss.map stD)
  | [], [], _ => .nil
  | v :: vs, s :: ss, h => by
    cases h with
    | cons h1 h2 =>
      obtain ⟨t, u, rfl, h3, h4⟩ := stD_inv h1
      exact .cons (stD_mk (sqt_upd2 hp h3) (sqt_upd2 hp h4)) (sts_upd hp h2)
  | [], _ :: _, h => by cases h
  | _ :: _, [], h => by cases h
theorem hid_up {H : Hp} {x : Addr} {o : HO} : Ex (hid x x H) (upd H x o) := fun z u h => by
  obtain ⟨h1, h2, _⟩ := hid_some h
  rw [upd_ne h2]
  exact h1
theorem hid_up2 {H H' : Hp} {x : Addr} {o : HO} (e : Ex (hid x x H) H') : Ex (hid x x H) (upd H' x o) := fun z u h => by
  rw [upd_ne (hid_some h).2.1]
  exact e _ _ h
section
variable {P : Program} {w : World} {K : PySem.W.Frag} {mg : Str → Option Value} {base : Heap}
def spWebInit (K : PySem.W.Frag) (C : Addr) : Sp := fun vs H Q _ => ∃ (x dx : Addr) (n : Int) (v : V) (d : PyData) (ss : List St5), vs = [.ref x, .int n, v] ∧ H x = some (.ins C dx []) ∧ 1 ≤ n ∧ Dp K (hid x x H) v d ∧ isListD d = true ∧ (itemsD d).map (rdStep n) = ss.map some ∧ ss.Nodup ∧ ss.length ≤ 1000000 ∧
  ∀ (H' : Hp) (ts : List St5) (dy l kd : Addr) (ys : List V), Ex (hid x x H) H' → H' x = some (.ins C dy (wf n l kd)) → H l = none → H' l = some (.lst ys) → DpAll K H' ys (ts.map stD) → ts.Perm ss → Q .non H'
theorem scWebInit : FnScope ["self", "places", "steps"] ["self", "places", "steps"] (defScope sWebInit) := ⟨rfl, rfl, rfl, by decide +kernel, rfl, by decide +kernel, by decide +kernel⟩
theorem ok_webInit {f C : Addr} {fd : FuncData} (F : L2.Fun K "__init__" "Web.__init__" sWebInit f fd) (B : Bn mg) (T : WebTxt K mg C) (cI : C8.Cal P w K mg base 1 "is_integer" (spIsInteger K) []) (cR : C8.Cal P w K mg base 4 "read_steps" (spReadSteps K) []) :
    FnOk P w K mg base CX0 5 f fd ["self", "places", "steps"] (spWebInit K C) := by
  refine F.ok scWebInit (fun vs H Q E h => ?_) (fun cdv A outer s H vs Q E hr h => ?_)
  · obtain ⟨x, dx, n, v, d, ss, rfl, _⟩ := h
    rfl
  · obtain ⟨x, dx, n, v, d, ss, rfl, hx, hn, hd, hl, hm, hnd, hsz, k⟩ := h
    refine ⟨_, pss_cons (ps_if (PW.pt (pw_or (pt_not (pt_val (C8.pe_c cI hr (by decide) (by rfl) (pa_cons (pv 1) pa_nil)))) (pw_or1 (pt_cmpR op_lt (pv 1) pe_int (nomark _))))) pss_never pss_nil)
      (pss_cons (ps_fld (pv 0) (pv 1) rfl)
      (pss_cons (ps_fld (pv 0) (pe_callB (cr_sortSt hr) (by rfl) B.sorted boot_sorted (pa_cons (C8.pe_c cR hr (by decide) (by rfl) (pa_cons (pv 1) (pa_cons (pv 2) pa_nil))) pa_nil)) rfl)
      (pss_one (ps_fld (pv 0) pe_dnewK rfl)))), ?_⟩
    refine ⟨_, rfl, .int n, .int n, rfl, .int n, _, rfl, ?_⟩
    refine iteF ?_
    refine ⟨_, rfl, _, _, rfl, rfl, _, rfl, ?_⟩
    refine dec_ite (fun z => ?_) (fun _ => ?_)
    · omega
    refine ⟨_, rfl, _, rfl, x, C, dx, _, rfl, hx, T.cl, T.nP, by show 0 < 1000; decide, ?_⟩
    refine ⟨_, rfl, _, rfl, n, v, d, ss, rfl, dp_ex hid_up _ _ hd, hl, hm, hnd, hsz, fun H1 p ys e1 hp0 hp hys => ?_⟩
    have all : ∀ y ∈ ys, ∃ t, Dp K H1 y (stD t) := fun y hy => by
      obtain ⟨i, hi⟩ := List.mem_iff_getElem?.mp hy
      obtain ⟨di, h1, h2⟩ := dpa_get hys hi
      rw [List.getElem?_map] at h1
      cases q : ss[i]? with
      | none =>
        rw [q] at h1
        cases h1
      | some t =>
        rw [q] at h1
        cases h1
        exact ⟨t, h2⟩
    refine ⟨p, ys, rfl, SqL.of hp, all, fun zs l hz hl2 => ?_⟩
    have hx1 : H1 x = some (.ins C dx (putF "_places" (.int n) [])) := e1 _ _ upd_same
    have hxl : x ≠ l := ne_of_none hx1 hl2
    refine ⟨_, rfl, x, C, dx, _, rfl, by rw [upd_ne hxl]; exact hx1, T.cl, T.nS, by show 1 < 1000; decide, ?_⟩
    obtain ⟨ts, hts, hD⟩ := dpa_perm hz hys
    have hD1 := dpa_ex (Ex.new (o := .lst zs) hl2) _ _ hD
    have e1' : Ex (hid x x H) (upd H1 l (.lst zs)) := (hid_up.trans e1).trans (Ex.new hl2)
    have hx2 : upd H1 l (.lst zs) x = some (.ins C dx (putF "_places" (.int n) [])) := by
      rw [upd_ne hxl]
      exact hx1
    have hl3 : upd H1 l (.lst zs) l = some (.lst zs) := upd_same
    have l0 : H l = none := by
      have := fresh_back e1 hl2
      rw [upd_ne hxl.symm] at this
      exact this
    generalize upd H1 l (.lst zs) = G1 at *
    have hnt : ∀ (f : List (Str × V)) (G : Hp), G x = some (.ins C dx f) → ∀ (xs : List V) (u : Obj), G x ≠ some (.tup xs) ∧ G x ≠ some (.frz u (.tup xs)) := fun f G hG xs u => by
      rw [hG]
      exact ⟨(fun z => nomatch z), (fun z => nomatch z)⟩
    intro kd hkd
    have hkx : x ≠ kd := fun z => by
      rw [← z, upd_same] at hkd
      cases hkd
    have hkl : l ≠ kd := fun z => by
      rw [← z, upd_ne hxl.symm, hl3] at hkd
      cases hkd
    refine ⟨_, rfl, x, C, dx, _, rfl, by rw [upd_ne hkx]; exact upd_same, T.cl, T.nK, by show 2 < 1000; decide, ?_⟩
    refine k _ ts dx l kd zs (hid_up2 ((hid_up2 e1').trans (Ex.new hkd))) upd_same l0 ?_ ?_ hts
    · rw [upd_ne hxl.symm, upd_ne hkl, upd_ne hxl.symm]
      exact hl3
    · have hx3 : ∀ o : HO, upd (upd G1 x (.ins C dx (putF "_steps" (.ref l) (putF "_places" (.int n) [])))) kd o x = some (.ins C dx (putF "_steps" (.ref l) (putF "_places" (.int n) []))) := fun o => by
        rw [upd_ne hkx]
        exact upd_same
      exact sts_upd (hnt _ _ (hx3 _)) (dpa_ex (Ex.new hkd) _ _ (sts_upd (hnt _ _ hx2) hD1))
def spPlaces (K : PySem.W.Frag) (C : Addr) : Sp := fun vs H Q _ => ∃ (x : Addr) (n : Int) (ss : List St5), vs = [.ref x] ∧ WebAt K C H x n ss ∧ Q (.int n) H
theorem scPlaces : FnScope ["self"] ["self"] (defScope sWebPlaces) := ⟨rfl, rfl, rfl, by decide +kernel, rfl, by decide +kernel, by decide +kernel⟩
theorem ok_places {f C : Addr} {fd : FuncData} (F : L2.Fun K "places" "Web.places" sWebPlaces f fd) (T : WebTxt K mg C) : FnOk P w K mg base CX0 1 f fd ["self"] (spPlaces K C) := by
  refine F.ok scPlaces (fun vs H Q E h => ?_) (fun cdv A outer s H vs Q E hr h => ?_)
  · obtain ⟨x, n, ss, rfl, _⟩ := h
    rfl
  · obtain ⟨x, n, ss, rfl, ⟨dx, l, kd, ys, h1, h2, h3⟩, k⟩ := h
    exact ⟨_, pss_one (ps_ret (pe_fld (pv 0) rfl)), _, rfl, x, C, dx, _, _, rfl, h1, T.cl, T.nP, wf_places _ _ _, k⟩
def spSteps (K : PySem.W.Frag) (C : Addr) : Sp := fun vs H Q _ => ∃ (x : Addr) (n : Int) (ss : List St5), vs = [.ref x] ∧ WebAt K C H x n ss ∧ ∀ p ys, H p = none → DpAll K H ys (ss.map stD) → Q (.ref p) (upd H p (.lst ys))
theorem scSteps : FnScope ["self"] ["self"] (defScope sWebSteps) := ⟨rfl, rfl, rfl, by decide +kernel, rfl, by decide +kernel, by decide +kernel⟩
theorem ok_steps {f C : Addr} {fd : FuncData} (F : L2.Fun K "steps" "Web.steps" sWebSteps f fd) (B : Bn mg) (T : WebTxt K mg C) : FnOk P w K mg base CX0 1 f fd ["self"] (spSteps K C) := by
  refine F.ok scSteps (fun vs H Q E h => ?_) (fun cdv A outer s H vs Q E hr h => ?_)
  · obtain ⟨x, n, ss, rfl, _⟩ := h
    rfl
  · obtain ⟨x, n, ss, rfl, ⟨dx, l, kd, ys, h1, h2, h3⟩, k⟩ := h
    refine ⟨_, pss_one (ps_ret (pe_callTy call_list_of (by rfl) B.list boot_list (pa_cons (pe_fld (pv 0) rfl) pa_nil))), ?_⟩
    exact ⟨_, rfl, x, C, dx, _, _, rfl, h1, T.cl, T.nS, wf_steps _ _ _, l, ys, rfl, .inl (SqL.of h2), fun p hp => k p ys hp h3⟩
/-- a web is the web that it is -/
def WebR (K : PySem.W.Frag) (C : Addr) : Addr → Addr → Hp → Prop := fun a b H => a = b ∧ ∃ n ss, WebAt K C H a n ss ∧ ss.length ≤ 1000000
theorem webR_ex {K : PySem.W.Frag} {C : Addr} (a b : Addr) (H H' : Hp) (e : Ex H H') (h : WebR K C a b H) : WebR K C a b H' := by
  obtain ⟨rfl, n, ss, h1, h2⟩ := h
  exact ⟨rfl, n, ss, h1.ex e, h2⟩
theorem sts_all : ∀ ss : List St5, PyData.eqvAll (ss.map stD) (ss.map stD) = true
  | [] => rfl
  | s :: r => by
    show (PyData.eqv (stD s) (stD s) && PyData.eqvAll (r.map stD) (r.map stD)) = true
    rw [stD_eqv, sts_all r, decide_eq_true rfl]
    rfl
theorem sts_self (ss : List St5) : PyData.eqv (.list (ss.map stD)) (.list (ss.map stD)) = true := sts_all ss
theorem scWebEq : FnScope ["self", "other"] ["self", "other"] (defScope sWebEq) := ⟨rfl, rfl, rfl, by decide +kernel, rfl, by decide +kernel, by decide +kernel⟩
theorem ok_webEq {f C : Addr} {fd : FuncData} (F : L2.Fun K "__eq__" "Web.__eq__" sWebEq f fd) (B : Bn mg) (T : WebTxt K mg C) (IC : InsK K C) (hC : PySem.W.kitOne K (.ref C) (.ref C) = some true) : FnOk P w K mg base CX0 1 f fd ["self", "other"] (spEq (WebR K C)) := by
  refine F.ok scWebEq (fun vs H Q E h => ?_) (fun cdv A outer s H vs Q E hr h => ?_)
  · obtain ⟨a, b, rfl, _⟩ := h
    rfl
  · obtain ⟨x, b, rfl, ⟨rfl, n, ss, ⟨dx, l, kd, ys, h1, h2, h3⟩, hsz⟩, k⟩ := h
    refine ⟨_, pss_one (ps_ret (pe_and (pe_callB call_is1 (by rfl) B.isinstance boot_isinstance (pa_cons (pv 1) (pa_cons (pe_glob (v := .ref C) (by rfl) T.mgC rfl) pa_nil)))
      (pe_and (pe_cmpR op_eq (pe_fld (pv 0) rfl) (pe_fld (pv 1) rfl) (nomark _)) (pe_one (pe_cmpR (op_eqD hr.units) (pe_fld (pv 0) rfl) (pe_fld (pv 1) rfl) (nomark _)))))), ?_⟩
    refine ⟨_, rfl, .ref x, _, .ref C, .ref C, true, rfl, .own C, .inl (.base (.ins h1 IC.cl IC.ha IC.hn IC.ht IC.hm)), hC, true, rfl, ?_⟩
    refine iteT ?_
    refine ⟨_, rfl, x, C, dx, _, _, rfl, h1, T.cl, T.nP, wf_places _ _ _, _, rfl, x, C, dx, _, _, rfl, h1, T.cl, T.nP, wf_places _ _ _, rfl, true, by rw [decide_eq_true rfl], ?_⟩
    refine iteT ?_
    refine ⟨_, rfl, x, C, dx, _, _, rfl, h1, T.cl, T.nS, wf_steps _ _ _, _, rfl, x, C, dx, _, _, rfl, h1, T.cl, T.nS, wf_steps _ _ _, ?_⟩
    have hD : Dp K H (.ref l) (.list (ss.map stD)) := .lst (SqL.of h2) h3
    refine ⟨_, _, hD, hD, stDs_shaped ss, stDs_shaped ss, ?_⟩
    rw [sts_self ss]
    exact k H Ext.rfl'
end
end AA

set_option Elab.async false
set_option linter.all false
set_option maxRecDepth 100000
set_option maxHeartbeats 4000000
/-! name = {step: True for ..}. -/
namespace AA
open PySem PySem.Spec PyProof.Rows L2 Evl
theorem sw_trueD {k v : Expr} {gs : List Comprehension} {scope : Scope} {pos py : Pos} {y : Str} {l : Nat} {env : Env} (hk : env.scope.kind = .function) (hy : env.scope.names.lookup y = some .local) (hl : (py.line == pos.line) = true)
    (ha : (scope.names.any fun (n, k) => n == y && (k == .local || k == .cell)) = false) : swapsWith (.DictComp k v gs scope pos) (some (.Name y py)) l env = pure true := by
  have ky : env.kindOf y = some .local := hy
  have hb : env.blockKind = .function := by
    unfold Env.blockKind
    rw [hk]
    rfl
  unfold swapsWith
  simp only [hb, ky, ha, Expr.pos, hl]
  rfl
theorem ps_setSc {X : Cx} {i : Nat} {y : Str} {py : Pos} {kx tg iter : Expr} {scope : Scope} {own : List (Str × Nat)} {j : Nat} {p0 p2 spos : Pos} {wi : TI} {g : TG} {tk : TE} (hu : X.A.units + 8 < cLine) (hc : X.calm = true) (hN : X.N.Nodup) (hy : X.N[i]? = some y) (hyl : X.env.scope.names.lookup y = some .local)
    (hsw : swapsWith (.DictComp kx (.Constant (.bool true) j p2) [⟨tg, iter, [], 0⟩] scope p0) (some (.Name y py)) spos.line X.env = pure true) (hi : PI X tg iter wi) (ok : BlkOk X.N X.env.scope scope own)
    (hg : ∀ (t : Shared) (G : Hp) (C : Addr) (cl : List (Str × Addr)) (fp : List Addr), PG (X.blk t G scope (compEnvC scope cl C X.env) fp) tg g)
    (hk : ∀ (t : Shared) (G : Hp) (C : Addr) (cl : List (Str × Addr)) (fp : List Addr), PE (X.blk t G scope (compEnvC scope cl C X.env) fp) kx tk) (hs : ∀ x, foldedSetIterable iter X.env x = pure x := by intro _; rfl) :
    PS X (.Assign [.Name y py] (.DictComp kx (.Constant (.bool true) j p2) [⟨tg, iter, [], 0⟩] scope p0) spos) (tAsg (tSc X wi g tk (own.map (·.2))) (gName i)) := ⟨fun pins t σ G D I h => by
  rw [exec_Assign_Name_used _ _ _ _ hsw]
  refine wpAny_bind (wpAny_standAt (wpAny_bind ?_))
  show wpAny _ X.A (do let _ ← comprehension (.DictComp kx (.Constant (.bool true) j p2) [⟨tg, iter, [], 0⟩] scope p0) scope X.env (firstIterPos [⟨tg, iter, [], 0⟩] p0) newDict false (eval iter X.env) (some (assign (.Name y py) X.env))) _ _ t
  have h : tSc X wi g tk (own.map (·.2)) σ G (fun x G1 => gName i x σ G1 D.nx) := h
  refine wpAny_bind (thn (sc_core (Qf := fun _ s' => SP X pins D .next s') hu hc hN I hi ok hg hk hs h fun L C s' m G' I' q hn f => ?_) fun _ s' hq => wpAny_pure (wpAny_pure hq))
  show wpAny _ _ (assign (.Name y py) X.env (.ref L)) _ _ _
  refine wpAny_assign_Name (store_ok2 (v := V.ref L) I' hN hy (.inl hyl) rfl (fun s2 I2 ⟨a, sb, ha⟩ => ?_) (.inr hyl))
  obtain ⟨f0, f1, f2, f3, f4, f5⟩ := f
  have haC : C ≠ a := ha.elim (fun z => by rw [z]; exact f1) (fun z e => f4 y a z e.symm)
  exact ⟨m, hn.sameBut sb haC, fun h3 sb3 => ⟨_, G', I2.turned (t' := s2.toks) (fun b o hb e => (sb3.2 b hb).trans e) f0 f1 f3 f4 f5, q⟩⟩⟩
end AA

set_option Elab.async false
set_option linter.all false
set_option maxRecDepth 100000
set_option maxHeartbeats 4000000
/-! read_walk. -/
namespace AA
open PySem PySem.Spec PyProof.Rows L2 Evl
/-- the walk that things make, behind steps gone already -/
def rdWalk (n : Int) (ss : List St5) : List PyData → List St5 → Option (List St5)
  | [], acc => some acc
  | d :: r, acc => match rdStep n d with
    | none => none
    | some s => if s ∈ ss then (match acc.getLast? with
      | none => rdWalk n ss r (acc ++ [s])
      | some t => if t.other = s.one then rdWalk n ss r (acc ++ [s]) else none) else none
/-- what read_walk answers -/
def WkR (K : PySem.W.Frag) (H : Hp) (r : V) : Option (List St5) → Prop
  | none => r = .non
  | some ts => ∃ (p : Addr) (ys : List V), r = .ref p ∧ H p = some (.lst ys) ∧ DpAll K H ys (ts.map stD)
theorem for_seqA {K : PySem.W.Frag} {a : Addr} {xs : List V} {g : TG} {tb : TS} {D : Ends} {σ : L2.St} {H0 H : Hp} (hq : SqL K H0 a xs ∨ SqT K H0 a xs) (Pv : Nat → L2.St → Hp → Prop) (h0 : Pv 0 σ H) (he : ∀ i σ G, Pv i σ G → Ex H0 G)
    (hs : ∀ i x σ H, xs[i]? = some x → Pv i σ H → g x σ H fun σ2 H2 => tb { D with nx := Pv (i + 1), ct := Pv (i + 1), bk := D.nx } σ2 H2) (hd : ∀ σ H, Pv xs.length σ H → D.nx σ H) :
    ((∃ xs, SqL K H a xs) ∧ ∃ W : Nat → Nat → L2.St → Hp → Prop, (∃ m, W 0 m σ H) ∧ ∀ i m σ H, W i m σ H →
      ((Itl K a).stop i H ∧ D.nx σ H) ∨ ((Itl K a).go i H ∧ ∃ N : L2.St → Hp → Prop, (∀ σ' H', N σ' H' → ∃ m', m' < m ∧ W (i + 1) m' σ' H') ∧ ∀ x H', (Itl K a).yld i H x H' → g x σ H' fun σ2 H2 => tb { D with nx := N, ct := N, bk := D.nx } σ2 H2)) ∨
    ((∃ xs, SqT K H a xs) ∧ ∃ W : Nat → Nat → L2.St → Hp → Prop, (∃ m, W 0 m σ H) ∧ ∀ i m σ H, W i m σ H →
      ((Itt K a).stop i H ∧ D.nx σ H) ∨ ((Itt K a).go i H ∧ ∃ N : L2.St → Hp → Prop, (∀ σ' H', N σ' H' → ∃ m', m' < m ∧ W (i + 1) m' σ' H') ∧ ∀ x H', (Itt K a).yld i H x H' → g x σ H' fun σ2 H2 => tb { D with nx := N, ct := N, bk := D.nx } σ2 H2)) :=
  hq.imp (fun q => ⟨⟨xs, ex_l (he _ _ _ h0) q⟩, for_list Pv h0 (fun i σ G hi p => ex_l (he i σ G p) q) hs hd⟩) (fun q => ⟨⟨xs, ex_t (he _ _ _ h0) q⟩, for_tup Pv h0 (fun i σ G hi p => ex_t (he i σ G p) q) hs hd⟩)
theorem sts_get {K : PySem.W.Frag} {H : Hp} {ys : List V} {ss : List St5} {i : Nat} {y : V} (h : DpAll K H ys (ss.map stD)) (hy : ys[i]? = some y) : ∃ (t : St5) (b : Addr), ss[i]? = some t ∧ y = .ref b ∧ Dp K H (.ref b) (stD t) := by
  obtain ⟨d, h1, h2⟩ := dpa_get h hy
  rw [List.getElem?_map] at h1
  cases q : ss[i]? with
  | none =>
    rw [q] at h1
    cases h1
  | some t =>
    rw [q] at h1
    cases h1
    obtain ⟨b, c, e, _⟩ := stD_inv h2
    subst e
    exact ⟨t, b, rfl, rfl, h2⟩
theorem sts_len {K : PySem.W.Frag} {H : Hp} {ys : List V} {ss : List St5} (h : DpAll K H ys (ss.map stD)) : ys.length = ss.length := by
  have := dpa_len h
  rw [List.length_map] at this
  exact this
theorem nt_lst {G : Hp} {l : Addr} {vs : List V} (h : G l = some (.lst vs)) (xs : List V) (u : Obj) : G l ≠ some (.tup xs) ∧ G l ≠ some (.frz u (.tup xs)) := by
  rw [h]
  exact ⟨(fun z => nomatch z), (fun z => nomatch z)⟩
theorem atI_last {α : Type} (xs : List α) (x : α) : atI (xs ++ [x]) (-1) = some x := by
  have e : ixN (xs ++ [x]).length (-1) = some xs.length := by
    rw [List.length_append]
    show ixN (xs.length + 1) (-1) = _
    unfold ixN
    rw [if_neg (by omega), if_pos (by omega)]
    congr 1
    omega
  unfold atI
  rw [e]
  show (xs ++ [x])[xs.length]? = some x
  simp
theorem drop_get {α : Type} : ∀ {l : List α} {i : Nat} {x : α}, l[i]? = some x → l.drop i = x :: l.drop (i + 1)
  | [], _, _, h => by simp at h
  | a :: l, 0, x, h => by
    cases (Option.some.inj h)
    rfl
  | a :: l, i + 1, x, h => drop_get (l := l) (i := i) (x := x) h
section
variable {P : Program} {w : World} {K : PySem.W.Frag} {mg : Str → Option Value} {base : Heap}
def spReadWalk (K : PySem.W.Frag) (C : Addr) : Sp := fun vs H Q _ => ∃ (x : Addr) (n : Int) (ss : List St5) (v : V), vs = [.ref x, v] ∧ WebAt K C H x n ss ∧ ss.Nodup ∧ ss.length ≤ 1000000 ∧
  ((Lk K H v false ∧ ∀ H', Ex H H' → Q .non H') ∨
    ∃ d, Dp K H v d ∧ isListD d = true ∧ (itemsD d).length ≤ 1000000 ∧ ∀ H' r, Ex H H' → WkR K H' r (rdWalk n ss (itemsD d) []) → Q r H')
theorem scReadWalk : FnScope ["web", "thing", "step", "known", "walk", "part"] ["web", "thing"] (defScope sReadWalk) := ⟨rfl, rfl, rfl, by decide +kernel, rfl, by decide +kernel, by decide +kernel⟩
theorem ok_readWalk {f C fP fS : Addr} {fd fdP fdS : FuncData} (F : L2.Fun K "read_walk" "read_walk" sReadWalk f fd) (B : Bn mg) (T : WebTxt K mg C) (cR : C8.Cal P w K mg base 3 "read_step" (spReadStep K) []) (cL : C8.Cal P w K mg base 1 "is_list" (spIsList K) [])
    (GP : FnOk P w K mg base CX0 1 fP fdP ["self"] (spPlaces K C)) (bP : Binds K fdP ["self"] []) (mP : Meth K C "places" fP) (GS : FnOk P w K mg base CX0 1 fS fdS ["self"] (spSteps K C)) (bS : Binds K fdS ["self"] []) (mS : Meth K C "steps" fS) :
    FnOk P w K mg base CX0 4 f fd ["web", "thing"] (spReadWalk K C) := by
  refine F.ok scReadWalk (fun vs H Q E h => ?_) (fun cdv A outer s H vs Q E hr h => ?_)
  · obtain ⟨x, n, ss, v, rfl, _⟩ := h
    rfl
  · obtain ⟨x, n, ss, v, rfl, hW, hnd, hsz, k⟩ := h
    have hun := hr.un
    have hu9 : (A.deeper (envOfC "read_walk" (defScope sReadWalk) s.heap.objs.size f cdv)).units + 9 < cLine := by omega
    have hu8 : (A.deeper (envOfC "read_walk" (defScope sReadWalk) s.heap.objs.size f cdv)).units + 8 < cLine := by omega
    have hr1 : Room 1 _ := hr.mono (by decide)
    refine ⟨_, pss_cons (ps_if (pt_not (pt_val (C8.pe_c cL hr (by decide) (by rfl) (pa_cons (pv 1) pa_nil)))) (pss_one (ps_ret pe_non)) pss_nil)
      (pss_cons (ps_setSc (i := 3) (own := [("step", 2)]) hu8 rfl scReadWalk.nd rfl rfl (sw_trueD rfl rfl rfl (by decide +kernel)) (pi_list (pe_meth0 (pv 0) T.cl mS GS hr1 bS .nil pass0)) (blkOk_by (N := ["web", "thing", "step", "known", "walk", "part"]) (sc := defScope sReadWalk) (by decide +kernel))
          (fun _ _ _ _ _ => pg_name (i := 2) scReadWalk.nd rfl (Or.inl rfl)) (fun _ _ _ _ _ => pv 2))
      (pss_cons (ps_set (i := 4) scReadWalk.nd rfl (Or.inl rfl) (pe_lst pa_nil))
      (pss_cons (ps_for PassesOwn.never rfl (pi_or (pi_list (pv 1)) (pi_tup (pv 1))) (pg_name (i := 5) scReadWalk.nd rfl (Or.inl rfl))
        (pss_cons (ps_set (i := 2) scReadWalk.nd rfl (Or.inl rfl) (C8.pe_c cR hr (by decide) (by rfl) (pa_cons (pe_meth0 (pv 0) T.cl mP GP hr1 bP .nil pass0) (pa_cons (pv 5) pa_nil))))
        (pss_cons (ps_if (pt_cmp (pc_snot hu9 (pv 2) (pv 3))) (pss_one (ps_ret pe_non)) pss_nil)
        (pss_cons (ps_if (PW.pt (pw_and (pt_truth (pv 4) (fun _ => rfl)) (pw_and1 (pt_cmpR op_ne (pe_ix ix_tup (pe_ix ix_list (pv 4) (pe_un un_neg pe_int) (fun _ _ => rfl)) pe_int (fun _ _ => rfl)) (pe_ix ix_tup (pv 2) pe_int (fun _ _ => rfl)) (nomark _))))) (pss_one (ps_ret pe_non)) pss_nil)
        (pss_one (ps_expr (pe_bm PySem.F.plainAttrs_list PySem.F.slot_list_append PySem.F.type_list_append mt_append (pv 4) (pa_cons (pv 2) pa_nil))))))))
      (pss_one (ps_ret (pv 4)))))), ?_⟩
    rcases k with ⟨hlk, k⟩ | ⟨d, hd, hl, hdz, k⟩
    · exact ⟨_, rfl, v, false, rfl, hlk, fun H1 e1 => ⟨_, rfl, iteT (k H1 e1)⟩⟩
    obtain ⟨a, xs, ds, rfl, hX, hs⟩ := dp_seq hd hl
    have hlen := dpa_len hX
    have hit : itemsD d = ds := by
      rcases hs with ⟨rfl, _⟩ | ⟨rfl, _⟩ <;> rfl
    rw [hit] at k hdz
    refine ⟨_, rfl, .ref a, true, rfl, by have := lk_dp hd; rw [hl] at this; exact this, fun H1 e1 => ⟨_, rfl, ?_⟩⟩
    refine iteF ?_
    obtain ⟨dx, l0, kd0, ys0, hx1, hl01, hys0⟩ := hW.ex e1
    refine ⟨_, rfl, x, dx, _, rfl, hx1, wf_no _ _ _ (by decide +kernel) (by decide +kernel) (by decide +kernel), x, n, ss, rfl, hW.ex e1, fun p ys hp hys => ⟨p, rfl, ⟨ys, SqL.of upd_same⟩, fun D hD => ?_⟩⟩
    have e2 : Ex H1 (upd H1 p (.lst ys)) := Ex.new hp
    have hys2 := dpa_ex e2 _ _ hys
    refine sc_list (xs := ys) (fun i G => Ex (upd H1 p (.lst ys)) G ∧ ∃ ks : List (St5 × Addr), G D = some (SD P w D ks) ∧ KsOk K G ks ∧ ks.map (·.1) = ss.take i) ⟨Ex.new hD, [], upd_same, KsOk.nil, by rw [List.take_zero]; rfl⟩ (fun i G _ q => ex_l q.1 (SqL.of upd_same)) ?_ ?_
    · rintro i y G hy ⟨q1, ks, q2, q3, q4⟩
      obtain ⟨t, b, ht, rfl, hb⟩ := sts_get hys2 hy
      have hb2 := dp_ex q1 _ _ hb
      have hkl : ks.length ≤ 1000000 := by
        have := congrArg List.length q4
        rw [List.length_map, List.length_take] at this
        omega
      refine ⟨rfl, _, rfl, ks, b, t, rfl, q2, q3, hb2, by rw [q4]; exact nodup_take hnd ht, sz_m hkl, Ex.mut q1 hD, ks ++ [(t, b)], upd_same, (ks_upd q2 q3).snoc (st_upd q2 hb2), ?_⟩
      rw [List.map_append, q4, List.take_succ, ht]
      rfl
    · rintro G ⟨q1, ks, q2, q3, q4⟩
      rw [sts_len hys, List.take_length] at q4
      refine ⟨Nat.zero_le _, fun l hl2 => ?_⟩
      have e3 : Ex H G := e1.trans (e2.trans q1)
      have hDl : D ≠ l := ne_of_none q2 hl2
      have hWG : WebAt K C G x n ss := hW.ex e3
      have kon : rdWalk n ss ds [] = none → ∀ G', Ex H G' → Q .non G' := fun z G' ez => k G' .non ez (by rw [z]; rfl)
      refine Or.imp (fun z => ⟨_, rfl, a, rfl, z.1, z.2⟩) (fun z => ⟨_, rfl, a, rfl, z.1, z.2⟩) (for_seqA (K := K) (a := a) (xs := xs) (H0 := H) (hs.imp And.right And.right)
        (fun i σ G' => ∃ (x2 x5 : Option V) (ts : List St5) (us : List V), σ = [some (.ref x), some (.ref a), x2, some (.ref D), some (.ref l), x5] ∧ Ex G G' ∧ G' l = some (.lst us) ∧ DpAll K G' us (ts.map stD) ∧ rdWalk n ss ds [] = rdWalk n ss (ds.drop i) ts ∧ ts.length = i) ?_ ?_ ?_ ?_)
      · exact ⟨none, none, [], [], rfl, Ex.new hl2, upd_same, .nil, by rw [List.drop_zero], rfl⟩
      · rintro i σ G' ⟨x2, x5, ts, us, rfl, r1, _⟩
        exact e3.trans r1
      · rintro i y σ G' hy ⟨x2, x5, ts, us, rfl, r1, r2, r3, r4, r5⟩
        obtain ⟨di, hdi, hyd⟩ := dpa_get hX hy
        have hil := (List.getElem?_eq_some_iff.mp hdi).1
        rw [drop_get hdi] at r4
        have hWG' := hWG.ex r1
        obtain ⟨dx', l', kd', ys', hx', hl', _⟩ := id hWG'
        refine ⟨_, rfl, x, dx', _, rfl, hx', wf_no _ _ _ (by decide +kernel) (by decide +kernel) (by decide +kernel), x, n, ss, rfl, hWG', _, rfl, n, y, di, rfl, dp_ex (e3.trans r1) _ _ hyd, fun G3 r e4 hr3 => ?_⟩
        have hG3 := r1.trans e4
        have hD3 : G3 D = some (SD P w D ks) := hG3 _ _ q2
        have hk3 : KsOk K G3 ks := q3.ex hG3
        have hL3 : G3 l = some (.lst us) := e4 _ _ r2
        have hU3 : DpAll K G3 us (ts.map stD) := dpa_ex e4 _ _ r3
        refine ⟨_, rfl, _, rfl, ?_⟩
        cases hrs : rdStep n di with
        | none =>
          rw [hrs] at hr3
          cases (show r = V.non from hr3)
          refine .inr ⟨⟨D, ks, rfl, rfl, hD3, hk3⟩, _, rfl, iteT (kon ?_ _ (e3.trans hG3))⟩
          rw [r4]
          unfold rdWalk
          rw [hrs]
        | some t =>
          rw [hrs] at hr3
          obtain ⟨b, c, rfl, hb1, hb2⟩ := stD_inv hr3
          refine .inl ⟨_, ⟨D, ks, b, t, rfl, rfl, hD3, hk3, hr3, rfl⟩, _, rfl, ?_⟩
          rw [q4]
          by_cases hmem : t ∈ ss
          · rw [decide_eq_true hmem]
            refine iteF ?_
            have hgo : (match ts.getLast? with | none => rdWalk n ss (ds.drop (i + 1)) (ts ++ [t]) | some u => if u.other = t.one then rdWalk n ss (ds.drop (i + 1)) (ts ++ [t]) else none) = rdWalk n ss ds [] := by
              rw [r4]
              conv => rhs; unfold rdWalk
              rw [hrs]
              show _ = if t ∈ ss then _ else none
              rw [if_pos hmem]
            have hul : us.length ≤ 1000000 := by
              have := sts_len hU3
              omega
            have fin : rdWalk n ss ds [] = rdWalk n ss (ds.drop (i + 1)) (ts ++ [t]) → ∃ (x2 x5 : Option V) (ts' : List St5) (us' : List V), [some (V.ref x), some (V.ref a), some (V.ref b), some (V.ref D), some (V.ref l), some y] = [some (V.ref x), some (V.ref a), x2, some (V.ref D), some (V.ref l), x5] ∧ Ex G (upd G3 l (.lst (us ++ [.ref b]))) ∧
                upd G3 l (.lst (us ++ [.ref b])) l = some (.lst us') ∧ DpAll K (upd G3 l (.lst (us ++ [.ref b]))) us' (ts'.map stD) ∧ rdWalk n ss ds [] = rdWalk n ss (ds.drop (i + 1)) ts' ∧ ts'.length = i + 1 := fun z => by
              refine ⟨_, _, ts ++ [t], us ++ [.ref b], rfl, Ex.mut hG3 hl2, upd_same, sts_upd (nt_lst hL3) ?_, z, by rw [List.length_append, r5]; rfl⟩
              rw [List.map_append]
              exact dpa_app hU3 (.cons hr3 .nil)
            refine ⟨_, rfl, !us.isEmpty, .inl ⟨us, SqL.of hL3, rfl⟩, ?_⟩
            rcases List.eq_nil_or_concat ts with h0 | ⟨tr, tl, h0⟩
            · subst h0
              have hu0 : us = [] := List.eq_nil_of_length_eq_zero (sts_len hU3)
              subst hu0
              refine iteF ?_
              refine iteF ?_
              exact ⟨_, rfl, .inl ⟨rfl, _, SqL.of hL3⟩, _, rfl, l, _, _, rfl, rfl, hL3, sz_m hul, fin hgo.symm⟩
            · rw [List.concat_eq_append] at h0
              subst h0
              have hlast : (tr ++ [tl]).getLast? = some tl := by simp
              rw [hlast] at hgo
              rcases List.eq_nil_or_concat us with h1 | ⟨ur, ul, h1⟩
              · subst h1
                have := sts_len hU3
                simp at this
              · rw [List.concat_eq_append] at h1
                subst h1
                have hne : (ur ++ [ul]).isEmpty = false := by simp
                rw [hne]
                refine iteT ?_
                have hlen2 : ur.length = tr.length := by
                  have := sts_len hU3
                  simp at this
                  exact this
                obtain ⟨t2, b2, g1, g2, g3⟩ := sts_get (i := ur.length) (y := ul) hU3 (by simp)
                rw [hlen2] at g1
                have et : t2 = tl := by
                  have : (tr ++ [tl])[tr.length]? = some tl := by simp
                  rw [this] at g1
                  exact (Option.some.inj g1).symm
                subst et
                subst g2
                obtain ⟨b3, c3, hb3, g4, g5⟩ := stD_inv g3
                cases hb3
                have hat : atI (ur ++ [V.ref b2]) (-1) = some (V.ref b2) := atI_last ur _
                refine ⟨_, rfl, _, rfl, l, _, _, _, rfl, rfl, SqL.of hL3, hat, b2, _, 1, .int t2.other, rfl, rfl, g4, rfl, _, rfl, b, _, 0, .int t.one, rfl, rfl, hb1, rfl, rfl, _, rfl, ?_⟩
                have hgo : (if t2.other = t.one then rdWalk n ss (ds.drop (i + 1)) (tr ++ [t2] ++ [t]) else none) = rdWalk n ss ds [] := hgo
                by_cases heq : t2.other = t.one
                · rw [if_pos heq] at hgo
                  rw [decide_eq_true (by rw [heq])]
                  refine iteF ?_
                  exact ⟨_, rfl, .inl ⟨rfl, _, SqL.of hL3⟩, _, rfl, l, _, _, rfl, rfl, hL3, sz_m hul, fin hgo.symm⟩
                · rw [if_neg heq] at hgo
                  rw [decide_eq_false (fun z => heq (V.int.inj z))]
                  exact iteT (kon hgo.symm _ (e3.trans hG3))
          · rw [decide_eq_false hmem]
            refine iteT (kon ?_ _ (e3.trans hG3))
            rw [r4]
            unfold rdWalk
            rw [hrs]
            show (if t ∈ ss then _ else none) = none
            rw [if_neg hmem]
      · rintro σ G' ⟨x2, x5, ts, us, rfl, r1, r2, r3, r4, r5⟩
        rw [hlen, List.drop_length] at r4
        refine ⟨_, rfl, k G' _ (e3.trans r1) ?_⟩
        rw [r4]
        exact ⟨l, us, rfl, r2, r3⟩
end
end AA

set_option Elab.async false
set_option linter.all false
set_option maxRecDepth 100000
set_option maxHeartbeats 4000000
/-! BadWalk, checked_walk, need_of. -/
namespace AA
open PySem PySem.Spec PyProof.Rows L2 Evl
abbrev sBadInit : Stmt := inClass (top 4) 0
section
variable {P : Program} {w : World} {K : PySem.W.Frag} {mg : Str → Option Value} {base : Heap}
/-- a def that may raise, asked where it doesn't -/
theorem fn_calm {k : Nat} {f : Addr} {fd : FuncData} {ps : List Str} {sp : Sp} (G : FnOk P w K mg base (L2.CX P w) k f fd ps sp) : FnOk P w K mg base CX0 k f fd ps (fun vs H Q _ => sp vs H Q E0) := by
  refine ⟨fun vs H Q E h => G.len vs H Q E0 h, fun A outer s H args us vs Q E hr e0 hb r h => ?_⟩
  refine codeAny_mono (G.run A outer s H args us vs Q E0 hr e0 hb r h) fun r s' hq => ?_
  cases r with
  | ok fl => cases fl <;> exact hq
  | error e =>
    obtain ⟨_, _, _, _, _, _, _, _, _, _, _, _, z⟩ := hq
    exact z.elim
/-- what the top has written of BadWalk -/
structure BadTxt (K : PySem.W.Frag) (mg : Str → Option Value) (CB fI : Addr) : Prop where
  ox : OexC K CB
  xf : XfC K CB
  no : PySem.W.findIn K (.ref CB) "walk" = some none
  gC : mg "BadWalk" = some (.ref CB)
  iC : PySem.W.findIn K (.ref CB) "__init__" = some (some (.ref fI))
  tC : PySem.W.typeIn K (.ref fI) = some (.type "function")
  te : PySem.W.exmOne K (.ref CB) (.ref CB) = some true
def spBadInit (CB : Addr) : Sp := fun vs H Q _ => ∃ (a : Addr) (v : V), vs = [.ref a, v] ∧ H a = some (exo a CB none) ∧ ∀ dx, H dx = none → dx ≠ a → Q .non (upd (upd H dx (exd dx [(("walk" : Str), v)])) a (exo a CB (some dx)))
theorem scBadInit : FnScope ["self", "walk"] ["self", "walk"] (defScope sBadInit) := ⟨rfl, rfl, rfl, by decide +kernel, rfl, by decide +kernel, by decide +kernel⟩
theorem ok_badInit {CB f fI : Addr} {fd : FuncData} (F : L2.Fun K "__init__" "BadWalk.__init__" sBadInit f fd) (T : BadTxt K mg CB fI) : FnOk P w K mg base CX0 1 f fd ["self", "walk"] (spBadInit CB) := by
  refine F.ok scBadInit (fun vs H Q E h => ?_) (fun cdv A outer s H vs Q E hr h => ?_)
  · obtain ⟨a, v, rfl, _⟩ := h
    rfl
  · obtain ⟨a, v, rfl, ha, k⟩ := h
    exact ⟨_, pss_one (ps_ost (pv 0) (pv 1) rfl), _, rfl, _, rfl, a, CB, rfl, T.ox, T.no, .inl ⟨ha, k⟩⟩
/-- a thing told as a walk: what comes of it -/
def WkArg (K : PySem.W.Frag) (C : Addr) (H : Hp) (x : Addr) (v : V) (Bad : Prop) (Good : List St5 → Prop) : Prop := ∃ (n : Int) (ss : List St5), WebAt K C H x n ss ∧ ss.Nodup ∧ ss.length ≤ 1000000 ∧
  ((Lk K H v false ∧ Bad) ∨ ∃ d, Dp K H v d ∧ isListD d = true ∧ (itemsD d).length ≤ 1000000 ∧ ((rdWalk n ss (itemsD d) [] = none ∧ Bad) ∨ ∃ ts, rdWalk n ss (itemsD d) [] = some ts ∧ Good ts))
theorem WkArg.imp {C : Addr} {H : Hp} {x : Addr} {v : V} {B B' : Prop} {G G' : List St5 → Prop} (h : WkArg K C H x v B G) (hb : B → B') (hg : ∀ ts, G ts → G' ts) : WkArg K C H x v B' G' := by
  obtain ⟨n, ss, h1, h2, h3, h4⟩ := h
  refine ⟨n, ss, h1, h2, h3, h4.imp (fun z => ⟨z.1, hb z.2⟩) (fun z => ?_)⟩
  obtain ⟨d, z1, z2, z3, z4⟩ := z
  exact ⟨d, z1, z2, z3, z4.imp (fun y => ⟨y.1, hb y.2⟩) (fun ⟨ts, y1, y2⟩ => ⟨ts, y1, hg ts y2⟩)⟩
def BadE (CB : Addr) (H : Hp) (v : V) (E : XK) : Prop := ∀ (H' : Hp) (dd : Addr), Ex H H' → H dd = none → H' dd = some (.xd [(("walk" : Str), v)]) → E (.ref CB) (some dd) H'
def spChecked (K : PySem.W.Frag) (C CB : Addr) : Sp := fun vs H Q E => ∃ (x : Addr) (v : V), vs = [.ref x, v] ∧ WkArg K C H x v (BadE CB H v E) (fun ts => ∀ (H' : Hp) (p : Addr) (ys : List V), Ex H H' → H' p = some (.lst ys) → DpAll K H' ys (ts.map stD) → Q (.ref p) H')
theorem scChecked : FnScope ["web", "thing", "walk"] ["web", "thing"] (defScope sCheckedWalk) := ⟨rfl, rfl, rfl, by decide +kernel, rfl, by decide +kernel, by decide +kernel⟩
theorem ok_checked {f C CB fI : Addr} {fd fdI : FuncData} (F : L2.Fun K "checked_walk" "checked_walk" sCheckedWalk f fd) (T : BadTxt K mg CB fI) (GI : FnOk P w K mg base CX0 1 fI fdI ["self", "walk"] (spBadInit CB)) (bI : Binds K fdI ["self", "walk"] [])
    (cW : C8.Cal P w K mg base 4 "read_walk" (spReadWalk K C) []) : FnOk P w K mg base (L2.CX P w) 5 f fd ["web", "thing"] (spChecked K C CB) := by
  refine F.okX scChecked (fun vs H Q E h => ?_) (fun cdv A outer s H vs Q E hr h => ?_)
  · obtain ⟨x, v, rfl, _⟩ := h
    rfl
  · obtain ⟨x, v, rfl, n, ss, hW, hnd, hsz, k⟩ := h
    refine ⟨_, pss_cons (ps_set (i := 2) scChecked.nd rfl (Or.inl rfl) (C8.pe_c cW hr (by decide) (by rfl) (pa_cons (pv 0) (pa_cons (pv 1) pa_nil))))
      (pss_cons (ps_if (pt_cmp (pc_isN (pv 2))) (pss_one (ps_raise rfl (takes_of rfl rfl rfl rfl) (pmk_oex T.ox T.iC T.tC GI (hr.mono (by decide)) bI .nil pass0 (by rfl) T.gC (pa_cons (pv 1) pa_nil)))) pss_nil)
      (pss_one (ps_ret (pv 2)))), ?_⟩
    have bad : ∀ H1, Ex H H1 → BadE CB H v E → tIfS (tB (tIsN (tVar 2))) (fun D σ H => tMkO CB (spBadInit CB) [] (tCons (tVar 1) tNil) σ H fun cls d H' => E cls d H') tNext { nx := tRet (tVar 2) { nx := fun x H' => Q .non H', rt := Q }, rt := Q } [some (.ref x), some v, some .non] H1 := by
      intro H1 e1 kb
      refine ⟨_, rfl, true, rfl, ?_⟩
      refine iteT ?_
      refine ⟨_, rfl, by show 1 ≤ 1000; decide, fun a ha => ⟨a, v, rfl, upd_same, fun dx hdx ne => ⟨rfl, dx, _, upd_same, by rw [upd_ne ne]; exact upd_same, ?_, ?_⟩⟩⟩
      · rw [upd_ne ne] at hdx
        exact hdx
      · have hd1 : H1 dx = none := by
          rw [upd_ne ne] at hdx
          exact hdx
        refine kb _ dx (e1.trans fun b o hb => ?_) (fresh_back e1 hd1) upd_same
        have hb1 : b ≠ dx := ne_of_none hb hd1
        have hb2 : b ≠ a := ne_of_none hb ha
        rw [upd_ne hb1, del_ne hb2, upd_ne hb2, upd_ne hb1, upd_ne hb2]
        exact hb
    refine ⟨_, rfl, _, rfl, x, n, ss, v, rfl, hW, hnd, hsz, ?_⟩
    rcases k with ⟨hl, kb⟩ | ⟨d, hd, hl, hdz, k⟩
    · exact .inl ⟨hl, fun H1 e1 => bad H1 e1 kb⟩
    · refine .inr ⟨d, hd, hl, hdz, fun H1 r e1 hr1 => ?_⟩
      rcases k with ⟨hn, kb⟩ | ⟨ts, hts, kg⟩
      · rw [hn] at hr1
        cases (show r = V.non from hr1)
        exact bad H1 e1 kb
      · rw [hts] at hr1
        obtain ⟨p, ys, rfl, h1, h2⟩ := hr1
        refine ⟨_, rfl, false, rfl, iteF ?_⟩
        exact ⟨_, rfl, kg H1 p ys e1 h1 h2⟩
/-- the need of steps gone, and what one has more behind them -/
def goSt (ng : Int × Int) (s : St5) : Int × Int := (if 0 - (ng.2 + s.change) > ng.1 then 0 - (ng.2 + s.change) else ng.1, ng.2 + s.change)
def needW (ts : List St5) : Int × Int := ts.foldl goSt (0, 0)
def spNeed (K : PySem.W.Frag) (C CB : Addr) : Sp := fun vs H Q E => ∃ (x : Addr) (v : V), vs = [.ref x, v] ∧ WkArg K C H x v (BadE CB H v E) (fun ts => ∀ (H' : Hp) (p : Addr), Ex H H' → H' p = some (.tup [.int (needW ts).1, .int (needW ts).2]) → Q (.ref p) H')
theorem scNeed : FnScope ["web", "walk"] ["web", "walk"] (defScope sNeedOf) := ⟨rfl, rfl, rfl, by decide +kernel, rfl, by decide +kernel, by decide +kernel⟩
theorem foldl_take {α β : Type} {g : β → α → β} {b : β} : ∀ {l : List α} {i : Nat} {x : α}, l[i]? = some x → (l.take (i + 1)).foldl g b = g ((l.take i).foldl g b) x := by
  intro l i x h
  rw [List.take_succ, h, List.foldl_append]
  rfl
theorem rdw_len {n : Int} {ss : List St5} : ∀ {ds : List PyData} {acc ws : List St5}, rdWalk n ss ds acc = some ws → ws.length = acc.length + ds.length := by
  intro ds
  induction ds with
  | nil =>
    intro acc ws h
    unfold rdWalk at h
    cases h
    rfl
  | cons d r ih =>
    intro acc ws h
    unfold rdWalk at h
    repeat' split at h
    all_goals first
      | cases h; done
      | (have := ih h; rw [List.length_append] at this; rw [List.length_cons]; simp only [List.length_cons, List.length_nil] at this; omega)
def goI (ng : Int × Int) (c : Int) : Int × Int := (if 0 - (ng.2 + c) > ng.1 then 0 - (ng.2 + c) else ng.1, ng.2 + c)
theorem goI_map (ts : List St5) (b : Int × Int) : (ts.map (·.change)).foldl goI b = ts.foldl goSt b := by
  rw [List.foldl_map]
  rfl
def spSumN (K : PySem.W.Frag) : Sp := fun vs H Q _ => ∃ (p : Addr) (cs : List Int), vs = [.ref p] ∧ H p = some (.lst (cs.map V.int)) ∧ ∀ q, H q = none → Q (.ref q) (upd H q (.tup [.int (cs.foldl goI (0, 0)).1, .int (cs.foldl goI (0, 0)).2]))
theorem scSumN : FnScope ["changes", "need", "gain", "change"] ["changes"] (defScope sNeedSum) := ⟨rfl, rfl, rfl, by decide +kernel, rfl, by decide +kernel, by decide +kernel⟩
theorem ok_sumN {f : Addr} {fd : FuncData} (F : L2.Fun K "need_and_sum" "need_and_sum" sNeedSum f fd) (B : Bn mg) : FnOk P w K mg base CX0 1 f fd ["changes"] (spSumN K) := by
  refine F.ok scSumN (fun vs H Q E h => ?_) (fun cdv A outer s H vs Q E hr h => ?_)
  · obtain ⟨p, cs, rfl, _⟩ := h
    rfl
  · obtain ⟨p, cs, rfl, hp, k⟩ := h
    refine ⟨_, pss_cons (ps_set (i := 1) scSumN.nd rfl (Or.inl rfl) pe_int)
      (pss_cons (ps_set (i := 2) scSumN.nd rfl (Or.inl rfl) pe_int)
      (pss_cons (ps_for PassesOwn.never rfl (pi_list (pv 0)) (pg_name (i := 3) scSumN.nd rfl (Or.inl rfl))
        (pss_cons (ps_set (i := 2) scSumN.nd rfl (Or.inl rfl) (pe_op op_add (pv 2) (pv 3)))
        (pss_one (ps_set (i := 1) scSumN.nd rfl (Or.inl rfl) (pe_callB (call_max2 (by rfl)) (by rfl) B.max boot_max (pa_cons (pv 1) (pa_cons (pe_op op_sub pe_int (pv 2)) pa_nil)))))))
      (pss_one (ps_ret (pe_tup (pa_cons (pv 1) (pa_cons (pv 2) pa_nil))))))), ?_⟩
    refine ⟨_, rfl, p, rfl, ⟨_, SqL.of hp⟩, ?_⟩
    refine for_list (K := K) (a := p) (xs := cs.map V.int) (fun i σ G => ∃ x4 : Option V, σ = [some (.ref p), some (.int ((cs.take i).foldl goI (0, 0)).1), some (.int ((cs.take i).foldl goI (0, 0)).2), x4] ∧ G = H) ⟨none, rfl, rfl⟩ (fun i σ G _ ⟨_, _, e⟩ => by rw [e]; exact SqL.of hp) ?_ ?_
    · rintro i y σ G hy ⟨x4, rfl, rfl⟩
      obtain ⟨c, hc, rfl⟩ := get_ints hy
      refine ⟨_, rfl, _, rfl, _, _, rfl, rfl, ?_⟩
      refine ⟨_, rfl, _, rfl, _, _, rfl, rfl, _, _, rfl, ?_⟩
      rw [foldl_take hc]
      exact ⟨_, rfl, rfl⟩
    · rintro σ G ⟨x4, rfl, rfl⟩
      rw [List.length_map, List.take_length]
      exact ⟨_, rfl, _, rfl, by show 2 ≤ sizeLine; decide, fun q hq => k q hq⟩
def spGain (K : PySem.W.Frag) : Sp := fun vs H Q _ => ∃ (p : Addr) (ys : List V) (ts : List St5), vs = [.ref p] ∧ H p = some (.lst ys) ∧ DpAll K H ys (ts.map stD) ∧ ts.length ≤ 1000000 ∧ ∀ (H' : Hp) q, Ex H H' → H' q = some (.tup [.int (needW ts).1, .int (needW ts).2]) → Q (.ref q) H'
abbrev nmGain : List Str := ["walk", "step"]
theorem scGain : FnScope nmGain ["walk"] (defScope sNeedGain) := ⟨rfl, rfl, rfl, by decide +kernel, rfl, by decide +kernel, by decide +kernel⟩
theorem ok_gain {f : Addr} {fd : FuncData} (F : L2.Fun K "need_and_gain" "need_and_gain" sNeedGain f fd) (cS : C8.Cal P w K mg base 1 "need_and_sum" (spSumN K) []) : FnOk P w K mg base CX0 2 f fd ["walk"] (spGain K) := by
  refine F.ok scGain (fun vs H Q E h => ?_) (fun cdv A outer s H vs Q E hr h => ?_)
  · obtain ⟨p, ys, ts, rfl, _⟩ := h
    rfl
  · obtain ⟨p, ys, ts, rfl, hp, hys, hz, k⟩ := h
    refine ⟨_, pss_one (ps_ret (C8.pe_c cS hr (by decide) (by rfl) (pa_cons (pe_lc (own := [("step", 1)]) (g := gName 1) (tt := tYes) (by rfl) scGain.nd (pi_list (pv 0)) (blkOk_by (N := nmGain) (sc := defScope sNeedGain) (by decide +kernel)) (fun _ _ _ _ _ => pg_name (i := 1) scGain.nd rfl (Or.inl rfl)) (fun _ _ _ _ _ => pts_nil)
          (fun _ _ _ _ _ => pe_ix (r := rIxT K) ix_tup (pv 1) pe_int (fun _ _ => rfl))) pa_nil))), ?_⟩
    have hyl := sts_len hys
    refine ⟨_, rfl, p, rfl, ⟨_, SqL.of hp⟩, fun D hD0 => ?_⟩
    refine lc_list (xs := ys) (fun i G => Ex H G ∧ G D = some (.lst (((ts.take i).map (·.change)).map V.int))) ⟨Ex.new hD0, upd_same⟩ (fun i G _ q => SqL.of (q.1 _ _ hp)) ?_ ?_
    · rintro i x G hx ⟨q1, q2⟩
      have il : i < ys.length := (List.getElem?_eq_some_iff.mp hx).1
      obtain ⟨s, t, hs, rfl, ht⟩ := sts_get hys hx
      obtain ⟨_, u, e, p1, p2⟩ := stD_inv (dp_ex q1 _ _ ht)
      cases e
      refine ⟨rfl, _, rfl, t, _, 4, .int s.change, rfl, rfl, p1, rfl, _, q2, by rw [List.length_map, List.length_map, List.length_take]; exact sz_m (by omega), q1.mut hD0, ?_⟩
      rw [upd_same, List.take_add_one, hs, List.map_append, List.map_append]
      rfl
    · rintro G ⟨q1, q2⟩
      rw [hyl, List.take_length] at q2
      refine ⟨D, ts.map (·.change), rfl, q2, fun q hq => ?_⟩
      rw [goI_map]
      exact k _ q (q1.trans (Ex.new hq)) upd_same
theorem WkArg.imp2 {C : Addr} {H : Hp} {x : Addr} {v : V} {B B' : Prop} {G G' : List St5 → Prop} (h : WkArg K C H x v B G) (hb : B → B') (hg : ∀ ts, ts.length ≤ 1000000 → G ts → G' ts) : WkArg K C H x v B' G' := by
  obtain ⟨n, ss, h1, h2, h3, h4⟩ := h
  refine ⟨n, ss, h1, h2, h3, h4.imp (fun z => ⟨z.1, hb z.2⟩) (fun z => ?_)⟩
  obtain ⟨d, z1, z2, z3, z4⟩ := z
  refine ⟨d, z1, z2, z3, z4.imp (fun y => ⟨y.1, hb y.2⟩) (fun ⟨ts, y1, y2⟩ => ⟨ts, y1, hg ts ?_ y2⟩)⟩
  have := rdw_len y1
  rw [this, List.length_nil]
  omega
theorem ok_need {f fC C CB : Addr} {fd fdC : FuncData} (F : L2.Fun K "need_of" "need_of" sNeedOf f fd) (cG : C8.Cal P w K mg base 2 "need_and_gain" (spGain K) []) (GC : FnOk P w K mg base (L2.CX P w) 5 fC fdC ["web", "thing"] (spChecked K C CB)) (mC : mg "checked_walk" = some (.ref fC)) (kC : PySem.W.keepIn K (.ref fC) = true) (bC : Binds K fdC ["web", "thing"] []) :
    FnOk P w K mg base (L2.CX P w) 6 f fd ["web", "walk"] (spNeed K C CB) := by
  refine F.okX scNeed (fun vs H Q E h => ?_) (fun cdv A outer s H vs Q E hr h => ?_)
  · obtain ⟨x, v, rfl, _⟩ := h
    rfl
  · obtain ⟨x, v, rfl, hW⟩ := h
    refine ⟨_, pss_one (ps_ret (C8.pe_c cG hr (by decide) (by rfl) (pa_cons (pe_callS (E := WE fun cls d _ H => E cls d H) GC (hr.mono (by decide)) (by rfl) mC kC bC (fun σ => passAt (takes_of rfl rfl rfl rfl) σ) (pa_cons (pv 0) (pa_cons (pv 1) pa_nil))) pa_nil))), ?_⟩
    refine ⟨_, rfl, _, rfl, x, v, rfl, hW.imp2 id (fun ts hz k H1 p ys e1 hp hys => ?_)⟩
    exact ⟨p, ys, ts, rfl, hp, hys, hz, fun H2 q e2 hq => k _ q (e1.trans e2) hq⟩
end
end AA

set_option Elab.async false
set_option linter.all false
set_option maxRecDepth 100000
set_option maxHeartbeats 4000000
namespace AA
open PySem PySem.Spec PyProof.Rows L2 Evl
/-- each step begins where the one ahead of it ends -/
def Chn : List St5 → Prop
  | [] => True
  | [_] => True
  | s :: t :: r => s.other = t.one ∧ Chn (t :: r)
theorem chn_snoc : ∀ {ws : List St5} {s t : St5}, Chn (ws ++ [s]) → s.other = t.one → Chn (ws ++ [s] ++ [t])
  | [], s, t, _, h => ⟨h, trivial⟩
  | [x], s, t, h, k => ⟨h.1, k, trivial⟩
  | x :: y :: r, s, t, h, k => by
    have h2 : x.other = y.one ∧ Chn (y :: (r ++ [s])) := h
    exact ⟨h2.1, chn_snoc (ws := y :: r) h2.2 k⟩
/-- a step that may be gone behind others -/
def Fits (ws : List St5) (s : St5) : Prop := ws = [] ∨ ∃ l, ws.getLast? = some l ∧ s.one = l.other
theorem chn_fits {ws : List St5} {s : St5} (h : Chn ws) (f : Fits ws s) : Chn (ws ++ [s]) := by
  rcases f with rfl | ⟨l, hl, e⟩
  · exact trivial
  · rcases List.eq_nil_or_concat ws with h0 | ⟨wr, wl, h0⟩
    · subst h0
      cases hl
    · rw [List.concat_eq_append] at h0
      subst h0
      have : (wr ++ [wl]).getLast? = some wl := by simp
      rw [this] at hl
      cases hl
      exact chn_snoc h e.symm
theorem eqv_sts_nil : ∀ ss : List St5, PyData.eqv (.list (ss.map stD)) (.list []) = ss.isEmpty
  | [] => rfl
  | s :: r => rfl
section
variable {P : Program} {w : World} {K : PySem.W.Frag} {mg : Str → Option Value} {base : Heap}
/-! ### _law_walk -/
def spWalk (K : PySem.W.Frag) : Sp := fun vs H Q _ => ∃ (a b : Addr) (n : Nat) (t : Addr) (vs0 : List V) (ss : List St5) (m : Nat), vs = [.ref a, .ref t, .int (m : Int)] ∧ SAt H a b n ∧ n + m < 900000000 ∧ m ≤ 1000 ∧ hid a b H t = some (.lst vs0) ∧ DpAll K (tps H) vs0 (ss.map stD) ∧ ss.length ≤ 1000 ∧
  ∀ (H' : Hp) (p : Addr) (us : List V) (ws : List St5), ExS a b H H' → SAt H' a b (n + m) → H p = none → H' p = some (.lst us) → DpAll K (tps H') us (ws.map stD) → (∀ s ∈ ws, s ∈ ss) → Chn ws → ws.length ≤ m → Q (.ref p) H'
theorem scWalk : FnScope ["_law_stream_here", "_law_steps", "_law_many", "_law_found", "_law_k", "_law_some", "_law_step_here"] ["_law_stream_here", "_law_steps", "_law_many"] (defScope sWalk) := ⟨rfl, rfl, rfl, by decide +kernel, rfl, by decide +kernel, by decide +kernel⟩
theorem ok_walk {f : Addr} {fd : FuncData} (F : L2.Fun K "_law_walk" "_law_walk" sWalk f fd) (T : Bn mg) (cP : C8.Cal P w K mg base 2 "_law_pick" (spPick K) []) : FnOk P w K mg base CX0 3 f fd ["_law_stream_here", "_law_steps", "_law_many"] (spWalk K) := by
  refine F.ok scWalk (fun vs H Q E h => ?_) (fun cdv A outer s H vs Q E hr h => ?_)
  · obtain ⟨a, b, n, t, vs0, ss, m, rfl, _⟩ := h
    rfl
  · obtain ⟨a, b, n, t, vs0, ss, m, rfl, hS, hn, hm, hT, hD, hsz, k⟩ := h
    refine ⟨_, pss_cons (ps_set (i := 3) scWalk.nd rfl (Or.inr rfl) (pe_lst pa_nil))
      (pss_cons (ps_for PassesOwn.never rfl (pi_range1 rfl T.range (pa_cons (pv 2) pa_nil)) (pg_name (i := 4) scWalk.nd rfl (Or.inl rfl))
        (pss_cons (ps_setLc (i := 5) (own := [("_law_step_here", 6)]) (g := gName 6) (by rfl) scWalk.nd rfl rfl (sw_true rfl rfl rfl (by decide +kernel)) (pi_list (pv 1)) (blkOk_by (N := ["_law_stream_here", "_law_steps", "_law_many", "_law_found", "_law_k", "_law_some", "_law_step_here"]) (sc := defScope sWalk) (by decide +kernel))
            (fun _ _ _ _ _ => pg_name (i := 6) scWalk.nd rfl (Or.inl rfl))
            (fun _ _ _ _ _ => pts_one (PW.pt (pw_or (pt_cmpR (r := rEqD K) (op_eqD hr.units) (pv 3) (pe_lst pa_nil) (nomark _)) (pw_or1 (pt_cmpR op_eq (pe_ix (r := rIxT K) ix_tup (pv 6) pe_int (fun _ _ => rfl)) (pe_ix (r := rIxT K) ix_tup (pe_ix (r := rIxL K) ix_list (pv 3) (pe_un un_neg pe_int) (fun _ _ => rfl)) pe_int (fun _ _ => rfl)) (nomark _))))))
            (fun _ _ _ _ _ => pv 6))
        (pss_cons (ps_if (pt_cmpR (op_eqD hr.units) (pv 5) (pe_lst pa_nil) (nomark _)) (pss_one (ps_ret (pv 3))) pss_nil)
        (pss_one (ps_expr (pe_bm PySem.F.plainAttrs_list PySem.F.slot_list_append PySem.F.type_list_append mt_append (pv 3) (pa_cons (C8.pe_c cP hr (by decide) (by rfl) (pa_cons (pv 0) (pa_cons (pv 5) pa_nil))) pa_nil)))))))
      (pss_one (ps_ret (pv 3)))), ?_⟩
    refine ⟨Nat.zero_le _, fun g hg => ?_⟩
    obtain ⟨hT1, ta, tb⟩ := hid_some hT
    have ga := hS.nea hg
    have gb := hS.neb hg
    have gt : t ≠ g := ne_of_none hT1 hg
    have hvl := sts_len (dpa_ex tps_le _ _ hD)
    refine ⟨_, rfl, (m : Int), rfl, ?_, ?_, for_range (lo := 0) (n := ((m : Int)).toNat) (fun i σ G => ∃ (us : List V) (ws : List St5) (x4 x5 : Option V), σ = [some (.ref a), some (.ref t), some (.int m), some (.ref g), x4, x5, none] ∧
        ExS a b H G ∧ SAt G a b (n + i) ∧ G g = some (.lst us) ∧ DpAll K (tps G) us (ws.map stD) ∧ (∀ s ∈ ws, s ∈ ss) ∧ Chn ws ∧ ws.length = i) ?_ ?_ ?_⟩
    · omega
    · omega
    · exact ⟨[], [], none, none, rfl, ExS.own ExS.rfl hg ga gb, hS.upd ga gb, upd_same, .nil, fun s h => absurd h (by simp), trivial, rfl⟩
    · rintro i σ G hi ⟨us, ws, x4, x5, rfl, hE, hS1, hG, hU, hin, hch, hwl⟩
      have hT2 : G t = some (.lst vs0) := hE.at hT1 ta tb
      have hD2 : DpAll K (tps G) vs0 (ss.map stD) := dpa_ex (tps_hid hE hS) _ _ hD
      have hul : us.length = ws.length := sts_len (dpa_ex tps_le _ _ hU)
      refine ⟨_, rfl, t, rfl, ⟨vs0, SqL.of hT2⟩, fun D hDn => ?_⟩
      have gD : g ≠ D := ne_of_none hG hDn
      refine lc_list (xs := vs0) (fun j G' => Ex G G' ∧ ∃ (acc : List V) (cs : List St5), G' D = some (.lst acc) ∧ DpAll K (tps G') acc (cs.map stD) ∧ (∀ s ∈ cs, s ∈ ss ∧ Fits ws s) ∧ cs.length ≤ j) ⟨Ex.new hDn, [], [], upd_same, .nil, fun s h => absurd h (by simp), Nat.le_refl _⟩ (fun j G' _ q => ex_l q.1 (SqL.of hT2)) ?_ ?_
      · rintro j y G' hy ⟨q1, acc, cs, q2, q3, q4, q5⟩
        obtain ⟨s, c, hs, rfl, hc⟩ := sts_get hD2 hy
        have hjl := (List.getElem?_eq_some_iff.mp hs).1
        have hacc : acc.length ≤ 1000000 := by
          have := sts_len (dpa_ex tps_le _ _ q3)
          omega
        refine ⟨rfl, ?_⟩
        refine ⟨_, rfl, Nat.zero_le _, fun L hL => ?_⟩
        have hG1 : G' g = some (.lst us) := q1 _ _ hG
        have eL : Ex G' (upd G' L (.lst [])) := Ex.new hL
        have hU1 : DpAll K (upd G' L (.lst [])) us (ws.map stD) := dpa_ex (tps_le.trans (q1.trans eL)) _ _ hU
        have hc1 : Dp K (tps (upd G' L (.lst []))) (.ref c) (stD s) := dp_ex (tps_mono (q1.trans eL)) _ _ hc
        have LD : D ≠ L := ne_of_none q2 hL
        have fin : Fits ws s → ∃ acc', upd G' L (.lst []) D = some (.lst acc') ∧ acc'.length < sizeLine ∧ (Ex G (upd (upd G' L (.lst [])) D (.lst (acc' ++ [.ref c]))) ∧ ∃ (acc2 : List V) (cs2 : List St5), upd (upd G' L (.lst [])) D (.lst (acc' ++ [.ref c])) D = some (.lst acc2) ∧
            DpAll K (tps (upd (upd G' L (.lst [])) D (.lst (acc' ++ [.ref c])))) acc2 (cs2.map stD) ∧ (∀ s ∈ cs2, s ∈ ss ∧ Fits ws s) ∧ cs2.length ≤ j + 1) := fun hf => by
          have hDL : upd G' L (.lst []) D = some (.lst acc) := by rw [upd_ne LD]; exact q2
          have tp := tps_upd (H := upd G' L (.lst [])) (o := .lst (acc ++ [.ref c])) (NoTup.lst hDL)
          refine ⟨acc, hDL, sz_m hacc, Ex.mut (q1.trans eL) hDn, _, cs ++ [s], upd_same, ?_, fun z hz => ?_, by rw [List.length_append]; simp; omega⟩
          · rw [List.map_append]
            exact dpa_app (dpa_ex ((tps_mono eL).trans tp) _ _ q3) (.cons (dp_ex tp _ _ hc1) .nil)
          · rcases List.mem_append.mp hz with hz | hz
            · exact q4 z hz
            · rw [List.mem_singleton] at hz
              subst hz
              exact ⟨mem_of_get hs, hf⟩
        refine ⟨.list (ws.map stD), .list [], .lst (SqL.of (eL _ _ hG1)) hU1, .lst (SqL.of upd_same) .nil, stDs_shaped ws, rfl, _, rfl, ?_⟩
        rw [eqv_sts_nil]
        rcases List.eq_nil_or_concat ws with h0 | ⟨wr, wl, h0⟩
        · subst h0
          refine iteT ?_
          refine iteT ?_
          exact ⟨_, rfl, fin (.inl rfl)⟩
        · rw [List.concat_eq_append] at h0
          have hlast : ws.getLast? = some wl := by
            rw [h0]
            simp
          have hne : ws.isEmpty = false := by
            rw [h0]
            simp
          rw [hne]
          refine iteF ?_
          rcases List.eq_nil_or_concat us with h1 | ⟨ur, ul, h1⟩
          · rw [h1, h0] at hul
            simp at hul
          · rw [List.concat_eq_append] at h1
            have hlen2 : ur.length = wr.length := by
              rw [h1, h0] at hul
              simp at hul
              exact hul
            obtain ⟨t2, b2, g1, g2, g3⟩ := sts_get (i := ur.length) (y := ul) hU1 (by rw [h1]; simp)
            have et : t2 = wl := by
              have z : ws[wr.length]? = some wl := by
                rw [h0]
                simp
              rw [hlen2, z] at g1
              exact (Option.some.inj g1).symm
            subst et
            subst g2
            obtain ⟨b3, c3, hb3, g4, g5⟩ := stD_inv g3
            cases hb3
            obtain ⟨c4, c5, hc4, g6, g7⟩ := stD_inv (dp_ex tps_le _ _ hc1)
            cases hc4
            have hat : atI us (-1) = some (V.ref b2) := by
              rw [h1]
              exact atI_last ur _
            refine ⟨_, rfl, c, _, 0, .int s.one, rfl, rfl, g6, rfl, _, rfl, _, rfl, g, us, -1, .ref b2, rfl, rfl, SqL.of (eL _ _ hG1), hat, b2, _, 1, .int t2.other, rfl, rfl, g4, rfl, rfl, _, rfl, ?_⟩
            by_cases heq : s.one = t2.other
            · rw [decide_eq_true (by rw [heq])]
              refine iteT ?_
              exact ⟨_, rfl, fin (.inr ⟨t2, hlast, heq⟩)⟩
            · rw [decide_eq_false (fun z => heq (V.int.inj z))]
              refine iteF ?_
              exact ⟨q1.trans eL, acc, cs, by rw [upd_ne LD]; exact q2, dpa_ex (tps_mono eL) _ _ q3, q4, by omega⟩
      · rintro G' ⟨q1, acc, cs, q2, q3, q4, q5⟩
        have hacc : acc.length = cs.length := sts_len (dpa_ex tps_le _ _ q3)
        refine ⟨_, rfl, Nat.zero_le _, fun L hL => ?_⟩
        have eL : Ex G' (upd G' L (.lst [])) := Ex.new hL
        have e0 : Ex G (upd G' L (.lst [])) := q1.trans eL
        have hEL : ExS a b H (upd G' L (.lst [])) := hE.trans (hid_mono e0)
        have hSL : SAt (upd G' L (.lst [])) a b (n + i) := hS1.ex e0
        have hGL : upd G' L (.lst []) g = some (.lst us) := e0 _ _ hG
        have hUL : DpAll K (tps (upd G' L (.lst []))) us (ws.map stD) := dpa_ex (tps_mono e0) _ _ hU
        have hDL : upd G' L (.lst []) D = some (.lst acc) := eL _ _ q2
        have hAL : DpAll K (tps (upd G' L (.lst []))) acc (cs.map stD) := dpa_ex (tps_mono eL) _ _ q3
        refine ⟨.list (cs.map stD), .list [], .lst (SqL.of hDL) (dpa_ex tps_le _ _ hAL), .lst (SqL.of upd_same) .nil, stDs_shaped cs, rfl, _, rfl, ?_⟩
        rw [eqv_sts_nil]
        have Dn : H D = none := ExS.back hE hS1 hDn
        have da := hS.nea Dn
        have db := hS.neb Dn
        by_cases hc : cs.isEmpty = true
        · rw [hc]
          refine iteT ?_
          exact ⟨_, rfl, k _ g us ws hEL (hSL.mono (by omega)) hg hGL hUL hin hch (by omega)⟩
        · have hcf : cs.isEmpty = false := by simpa using hc
          have hcl : 0 < cs.length := by
            cases cs with
            | nil => cases hcf
            | cons _ _ => exact Nat.succ_pos _
          rw [hcf]
          refine iteF ?_
          refine ⟨_, rfl, .inl ⟨rfl, _, SqL.of hGL⟩, _, rfl, _, rfl, a, b, n + i, D, acc, rfl, hSL, by omega, SqL.of (by rw [hid_ne da db]; exact hDL), by omega, by omega, fun H2 i2 x e2 s2 hx2 => ?_⟩
          obtain ⟨s, c, hs, rfl, hcd⟩ := sts_get hAL hx2
          have hG2 := e2.at hGL ga gb
          have tp := (tps_hid e2 hSL).trans (tps_upd (H := H2) (o := .lst (us ++ [.ref c])) (NoTup.lst hG2))
          have hsm := q4 s (mem_of_get hs)
          refine ⟨g, us, _, rfl, rfl, hG2, sz_m (by omega), ?_⟩
          refine ⟨us ++ [.ref c], ws ++ [s], _, _, rfl, ExS.own (hEL.trans e2) hg ga gb, (s2.upd ga gb), upd_same, ?_, fun z hz => ?_, chn_fits hch hsm.2, by rw [List.length_append, hwl]; rfl⟩
          · rw [List.map_append]
            exact dpa_app (dpa_ex tp _ _ hUL) (.cons (dp_ex tp _ _ hcd) .nil)
          · rcases List.mem_append.mp hz with hz | hz
            · exact hin z hz
            · rw [List.mem_singleton] at hz
              subst hz
              exact hsm.1
    · rintro σ G ⟨us, ws, x4, x5, rfl, hE, hS1, hG, hU, hin, hch, hwl⟩
      have e : ((m : Int)).toNat = m := by omega
      rw [e] at hS1 hwl
      exact ⟨_, rfl, k G g us ws hE hS1 hg hG hU hin hch (by omega)⟩
end
end AA

set_option Elab.async false
set_option linter.all false
set_option maxRecDepth 100000
set_option maxHeartbeats 4000000
namespace AA
open PySem PySem.Spec PyProof.Rows L2 Evl
def canGo : List St5 → Int → Bool
  | [], _ => true
  | s :: r, st => if st + s.change < 0 then false else canGo r (st + s.change)
theorem go_iff : ∀ (ws : List St5) (n g st : Int), ((ws.foldl goSt (n, g)).1 ≤ st ↔ (n ≤ st ∧ canGo ws (st + g) = true))
  | [], n, g, st => ⟨fun h => ⟨h, rfl⟩, fun h => h.1⟩
  | s :: r, n, g, st => by
    show (r.foldl goSt (if 0 - (g + s.change) > n then 0 - (g + s.change) else n, g + s.change)).1 ≤ st ↔ (n ≤ st ∧ (if st + g + s.change < 0 then false else canGo r (st + g + s.change)) = true)
    rw [go_iff r]
    have e : st + (g + s.change) = st + g + s.change := by omega
    rw [e]
    by_cases h : st + g + s.change < 0
    · rw [if_pos h]
      constructor
      · rintro ⟨h1, _⟩
        split at h1 <;> omega
      · rintro ⟨_, h1⟩
        cases h1
    · rw [if_neg h]
      constructor
      · rintro ⟨h1, h2⟩
        refine ⟨?_, h2⟩
        split at h1 <;> omega
      · rintro ⟨h1, h2⟩
        refine ⟨?_, h2⟩
        split <;> omega
theorem go_gain : ∀ (ws : List St5) (n g : Int), (ws.foldl goSt (n, g)).2 = g + (ws.map (·.change)).sum
  | [], n, g => by simp
  | s :: r, n, g => by
    show (r.foldl goSt (_, g + s.change)).2 = _
    rw [go_gain r, List.map_cons, List.sum_cons]
    omega
theorem need_go (ws : List St5) {st : Int} (h : 0 ≤ st) : canGo ws st = decide ((needW ws).1 ≤ st) := by
  have q := go_iff ws 0 0 st
  rw [Int.add_zero] at q
  by_cases c : canGo ws st = true
  · rw [c]
    exact (decide_eq_true (q.mpr ⟨h, c⟩)).symm
  · have cf : canGo ws st = false := by simpa using c
    rw [cf]
    exact (decide_eq_false (fun z => c (q.mp z).2)).symm
theorem need_pos (ws : List St5) : 0 ≤ (needW ws).1 := ((go_iff ws 0 0 _).mp (Int.le_refl _)).1
theorem gain_is (ws : List St5) : (needW ws).2 = (ws.map (·.change)).sum := by
  have := go_gain ws 0 0
  rw [Int.zero_add] at this
  exact this
section
variable {P : Program} {w : World} {K : PySem.W.Frag} {mg : Str → Option Value} {base : Heap}
def spCan (K : PySem.W.Frag) : Sp := fun vs H Q _ => ∃ (p : Addr) (st : Int) (us : List V) (ws : List St5), vs = [.ref p, .int st] ∧ H p = some (.lst us) ∧ DpAll K H us (ws.map stD) ∧ Q (.bl (canGo ws st)) H
theorem scCan : FnScope ["_law_walk_here", "_law_stock", "_law_step_here"] ["_law_walk_here", "_law_stock"] (defScope sCanGo) := ⟨rfl, rfl, rfl, by decide +kernel, rfl, by decide +kernel, by decide +kernel⟩
theorem ok_can {f : Addr} {fd : FuncData} (F : L2.Fun K "_law_can_go" "_law_can_go" sCanGo f fd) : FnOk P w K mg base CX0 1 f fd ["_law_walk_here", "_law_stock"] (spCan K) := by
  refine F.ok scCan (fun vs H Q E h => ?_) (fun cdv A outer s H vs Q E hr h => ?_)
  · obtain ⟨p, st, us, ws, rfl, _⟩ := h
    rfl
  · obtain ⟨p, st, us, ws, rfl, hp, hU, k⟩ := h
    refine ⟨_, pss_cons (ps_for PassesOwn.never rfl (pi_list (pv 0)) (pg_name (i := 2) scCan.nd rfl (Or.inl rfl))
        (pss_cons (ps_set (i := 1) scCan.nd rfl (Or.inl rfl) (pe_op op_add (pv 1) (pe_ix ix_tup (pv 2) pe_int (fun _ _ => rfl))))
        (pss_one (ps_if (pt_cmpR op_lt (pv 1) pe_int (nomark _)) (pss_one (ps_ret pe_bl)) pss_nil))))
      (pss_one (ps_ret pe_bl)), ?_⟩
    refine ⟨_, rfl, p, rfl, ⟨us, SqL.of hp⟩, for_list (K := K) (a := p) (xs := us) (fun i σ G => ∃ (c : Int) (x2 : Option V), σ = [some (.ref p), some (.int c), x2] ∧ G = H ∧ canGo ws st = canGo (ws.drop i) c) ⟨st, none, rfl, rfl, by rw [List.drop_zero]⟩ (fun i σ G _ ⟨_, _, _, e, _⟩ => by rw [e]; exact SqL.of hp) ?_ ?_⟩
    · rintro i y σ G hy ⟨c, x2, rfl, rfl, q⟩
      obtain ⟨t, b, ht, rfl, hb⟩ := sts_get hU hy
      obtain ⟨b', c', hb', g1, g2⟩ := stD_inv hb
      cases hb'
      rw [drop_get ht] at q
      have q2 : canGo ws st = if c + t.change < 0 then false else canGo (ws.drop (i + 1)) (c + t.change) := q
      refine ⟨_, rfl, _, rfl, b, _, 4, .int t.change, rfl, rfl, g1, rfl, _, _, rfl, rfl, ?_⟩
      refine ⟨_, rfl, _, _, rfl, rfl, _, rfl, ?_⟩
      refine dec_ite (fun z => ?_) (fun z => ?_)
      · rw [if_pos z] at q2
        rw [q2] at k
        exact k
      · rw [if_neg z] at q2
        exact ⟨_, _, rfl, rfl, q2⟩
    · rintro σ G ⟨c, x2, rfl, rfl, q⟩
      rw [sts_len hU, List.drop_length] at q
      rw [q] at k
      exact k
/-! ### _law_due -/
def spDue (K : PySem.W.Frag) : Sp := fun vs H Q _ => ∃ (p : Addr) (us : List V) (ws : List St5), vs = [.ref p] ∧ H p = some (.lst us) ∧ DpAll K H us (ws.map stD) ∧ ws.length ≤ 1000000 ∧
  ∀ H' q, Ex H H' → H' q = some (.tup [.int (needW ws).1, .int (needW ws).2]) → Q (.ref q) H'
theorem scDue : FnScope ["_law_walk_here", "_law_stock", "_law_step_here"] ["_law_walk_here"] (defScope sDue) := ⟨rfl, rfl, rfl, by decide +kernel, rfl, by decide +kernel, by decide +kernel⟩
theorem ok_due {f : Addr} {fd : FuncData} (F : L2.Fun K "_law_due" "_law_due" sDue f fd) (T : Bn mg) (cC : C8.Cal P w K mg base 1 "_law_can_go" (spCan K) []) : FnOk P w K mg base CX0 2 f fd ["_law_walk_here"] (spDue K) := by
  refine F.ok scDue (fun vs H Q E h => ?_) (fun cdv A outer s H vs Q E hr h => ?_)
  · obtain ⟨p, us, ws, rfl, _⟩ := h
    rfl
  · obtain ⟨p, us, ws, rfl, hp, hU, hsz, k⟩ := h
    refine ⟨_, pss_cons (ps_set (i := 1) scDue.nd rfl (Or.inl rfl) pe_int)
      (Evl.pss_cut (ps_while PassesOwn.never (pt_not (pt_val (C8.pe_c cC hr (by decide) (by rfl) (pa_cons (pv 0) (pa_cons (pv 1) pa_nil))))) (pss_one (ps_set (i := 1) scDue.nd rfl (Or.inl rfl) (pe_op op_add (pv 1) pe_int))))
      (pss_one (ps_ret (pe_tup (pa_cons (pv 1) (pa_cons (pe_callB (cr_sum (by rfl)) (by rfl) T.sum boot_sum (pa_cons (pe_lc (own := [("_law_step_here", 2)]) (g := gName 2) (tt := tYes) (by rfl) scDue.nd (pi_list (pv 0)) (blkOk_by (N := ["_law_walk_here", "_law_stock", "_law_step_here"]) (sc := defScope sDue) (by decide +kernel))
          (fun _ _ _ _ _ => pg_name (i := 2) scDue.nd rfl (Or.inl rfl)) (fun _ _ _ _ _ => pts_nil) (fun _ _ _ _ _ => pe_ix (r := rIxT K) ix_tup (pv 2) pe_int (fun _ _ => rfl))) pa_nil)) pa_nil)))))), ?_⟩
    have hn0 := need_pos ws
    refine ⟨fun σ G => σ = [some (.ref p), some (.int (needW ws).1), none] ∧ G = H, ?_, ?_⟩
    · refine ⟨fun mm σ G => ∃ c : Int, σ = [some (.ref p), some (.int c), none] ∧ G = H ∧ 0 ≤ c ∧ c ≤ (needW ws).1 ∧ mm = ((needW ws).1 - c).toNat, ⟨_, 0, rfl, rfl, Int.le_refl _, hn0, rfl⟩, ?_⟩
      rintro mm σ G ⟨c, rfl, rfl, c0, c1, rfl⟩
      refine ⟨_, rfl, _, rfl, p, c, us, ws, rfl, hp, hU, _, rfl, ?_⟩
      rw [need_go ws c0]
      by_cases h : (needW ws).1 ≤ c
      · rw [decide_eq_true h]
        refine iteF ?_
        have e : c = (needW ws).1 := by omega
        subst e
        exact ⟨rfl, rfl⟩
      · rw [decide_eq_false h]
        refine iteT ?_
        refine ⟨fun σ G' => ∃ d : Int, σ = [some (.ref p), some (.int d), none] ∧ G' = G ∧ d = c + 1, ?_, ?_⟩
        · rintro σ' G' ⟨d, rfl, rfl, rfl⟩
          exact ⟨_, by omega, c + 1, rfl, rfl, by omega, by omega, rfl⟩
        · exact ⟨_, rfl, _, _, rfl, rfl, c + 1, rfl, rfl, rfl⟩
    · rintro σ G ⟨rfl, rfl⟩
      refine ⟨_, rfl, _, rfl, p, rfl, ⟨us, SqL.of hp⟩, fun D hD => ?_⟩
      refine lc_list (xs := us) (fun i G' => Ex G G' ∧ G' D = some (.lst ((ws.take i).map fun s => V.int s.change))) ⟨Ex.new hD, by rw [List.take_zero]; exact upd_same⟩ (fun i G' _ q => ex_l q.1 (SqL.of hp)) ?_ ?_
      · rintro i y G' hy ⟨q1, q2⟩
        obtain ⟨t, b, ht, rfl, hb⟩ := sts_get hU hy
        obtain ⟨b', c', hb', g1, g2⟩ := stD_inv (dp_ex q1 _ _ hb)
        cases hb'
        refine ⟨rfl, _, rfl, b, _, 4, .int t.change, rfl, rfl, g1, rfl, _, q2, by rw [List.length_map, List.length_take]; exact sz_m (by omega), Ex.mut q1 hD, ?_⟩
        rw [upd_same, List.take_succ, ht, List.map_append]
        rfl
      · rintro G' ⟨q1, q2⟩
        rw [sts_len hU, List.take_length] at q2
        refine ⟨D, ws.map (·.change), rfl, SqL.of (by rw [List.map_map]; exact q2), by show 2 ≤ sizeLine; decide, fun q hq => k _ q (q1.trans (Ex.new hq)) ?_⟩
        rw [gain_is]
        exact upd_same
end
end AA

set_option Elab.async false
set_option linter.all false
set_option maxRecDepth 100000
set_option maxHeartbeats 4000000
namespace AA
open PySem PySem.Spec PyProof.Rows L2 Evl
section
variable {P : Program} {w : World} {K : PySem.W.Frag} {mg : Str → Option Value} {base : Heap}
/-! ### _law_refused -/
def spRefused (K : PySem.W.Frag) (C : Addr) : Sp := fun vs H Q _ => ∃ (x : Addr) (v : V), vs = [.ref x, v] ∧ WkArg K C H x v True (fun _ => False) ∧ ∀ H' p, Ex H H' → H p = none → H' p = some (.lst [v]) → Q (.ref p) H'
theorem scRefused : FnScope ["_law_web_here", "_law_thing", "e"] ["_law_web_here", "_law_thing"] (defScope sRefused) := ⟨rfl, rfl, rfl, by decide +kernel, rfl, by decide +kernel, by decide +kernel⟩
theorem ok_refused {f fN fI C CB : Addr} {fd fdN : FuncData} (F : L2.Fun K "_law_refused" "_law_refused" sRefused f fd) (T : BadTxt K mg CB fI) (GN : FnOk P w K mg base (L2.CX P w) 6 fN fdN ["web", "walk"] (spNeed K C CB)) (mN : mg "need_of" = some (.ref fN)) (kN : PySem.W.keepIn K (.ref fN) = true) (bN : Binds K fdN ["web", "walk"] []) :
    FnOk P w K mg base CX0 7 f fd ["_law_web_here", "_law_thing"] (spRefused K C) := by
  refine F.ok scRefused (fun vs H Q E h => ?_) (fun cdv A outer s H vs Q E hr h => ?_)
  · obtain ⟨x, v, rfl, _⟩ := h
    rfl
  · obtain ⟨x, v, rfl, hW, k⟩ := h
    refine ⟨_, pss_cons (ps_try_as (i := 2) (tb := fun W => tDrop (tCallS (spNeed K C CB) (WE W) (tCons (tVar 0) (tCons (tVar 1) tNil)))) (ts := fun a cls d => tRet (tLst (tCons (tXf a cls d CB "walk" (tVar 2)) tNil))) (Wout := fun _ _ _ _ => False) rfl rfl scRefused.nd rfl rfl ⟨rfl, by decide, Or.inl T.gC⟩ takes0
          (fun W pn xe tk _ => pss_one (ps_expr (by exact (pe_callS GN hr (by rfl) mN kN bN (fun σ => passAt tk σ) (by exact (pa_cons (pv 0) (pa_cons (pv 1) pa_nil)))))))
          (fun a oe cls d pn hz hf => pss_one (ps_ret (by exact (pe_lst (pa_cons (pe_xf T.xf T.no hz hf (pv 2)) pa_nil))))))
      (pss_one (ps_ret (pe_lst pa_nil))), ?_⟩
    refine ⟨_, rfl, _, rfl, x, v, rfl, hW.imp (fun _ H1 dd e1 h0 h1 => ⟨true, T.te, fun _ a ha => ?_, fun q => Bool.noConfusion q⟩) (fun ts z => z.elim)⟩
    exact ⟨_, rfl, rfl, rfl, dd, _, v, rfl, h1, rfl, by show 1 ≤ sizeLine; decide, fun p hp => k _ p (e1.trans (Ex.new hp)) (fresh_back e1 hp) upd_same⟩
end
end AA

set_option Elab.async false
set_option linter.all false
set_option maxRecDepth 100000
set_option maxHeartbeats 4000000
namespace AA
open PySem PySem.Spec PyProof.Rows L2 Evl
mutual
def dOk : PyData → Bool
  | .list xs => decide (xs.length ≤ 1000000) && dOkA xs
  | .tuple xs => decide (xs.length ≤ 1000000) && dOkA xs
  | .str z => PyData.strOk z
  | .dict _ => false
  | _ => true
def dOkA : List PyData → Bool
  | [] => true
  | x :: xs => dOk x && dOkA xs
end
mutual
theorem sm_dp {K : PySem.W.Frag} {C : Addr} {R : Addr → Addr → Hp → Prop} {H : Hp} : ∀ (d : PyData) (v : V) (n : Nat), Dp K H v d → dOk d = true → d.depth < n → Sm K C R H n v v
  | .none, v, 0, _, _, h => absurd h (Nat.not_lt_zero _)
  | .none, v, n + 1, hd, _, _ => by
    cases hd
    exact .inl ⟨rfl, rfl⟩
  | .bool b, v, 0, _, _, h => absurd h (Nat.not_lt_zero _)
  | .bool b, v, n + 1, hd, _, _ => by
    cases hd
    exact .inl ⟨rfl, rfl⟩
  | .int i, v, 0, _, _, h => absurd h (Nat.not_lt_zero _)
  | .int i, v, n + 1, hd, _, _ => by
    cases hd
    exact .inl ⟨rfl, rfl⟩
  | .str z, v, 0, _, _, h => absurd h (Nat.not_lt_zero _)
  | .str z, v, n + 1, hd, ho, _ => by
    cases hd
    exact .inl ⟨rfl, ho⟩
  | .list xs, v, 0, _, _, h => absurd h (Nat.not_lt_zero _)
  | .list xs, v, n + 1, hd, ho, h => by
    cases hd with
    | lst h1 h2 =>
      have ho' : (decide (xs.length ≤ 1000000) && dOkA xs) = true := ho
      rw [Bool.and_eq_true] at ho'
      have hl := dpa_len h2
      have hz := of_decide_eq_true ho'.1
      exact .inr (.inl ⟨_, _, _, _, rfl, rfl, h1, h1, sm_dpa xs _ n h2 ho'.2 (Nat.lt_of_succ_lt_succ h), by omega⟩)
  | .tuple xs, v, 0, _, _, h => absurd h (Nat.not_lt_zero _)
  | .tuple xs, v, n + 1, hd, ho, h => by
    cases hd with
    | tup h1 h2 =>
      have ho' : (decide (xs.length ≤ 1000000) && dOkA xs) = true := ho
      rw [Bool.and_eq_true] at ho'
      have hl := dpa_len h2
      have hz := of_decide_eq_true ho'.1
      exact .inr (.inr (.inl ⟨_, _, _, _, rfl, rfl, h1, h1, sm_dpa xs _ n h2 ho'.2 (Nat.lt_of_succ_lt_succ h), by omega⟩))
  | .dict _, v, n, _, ho, _ => by cases ho
theorem sm_dpa {K : PySem.W.Frag} {C : Addr} {R : Addr → Addr → Hp → Prop} {H : Hp} : ∀ (ds : List PyData) (vs : List V) (n : Nat), DpAll K H vs ds → dOkA ds = true → PyData.depthAll ds < n → Paired (Sm K C R H n) vs vs
  | [], _, _, h, _, _ => by
    cases h
    exact .nil
  | d :: ds, _, n, h, ho, hn => by
    cases h with
    | cons h1 h2 =>
      have ho' : (dOk d && dOkA ds) = true := ho
      rw [Bool.and_eq_true] at ho'
      have hn' : max (PyData.depth d) (PyData.depthAll ds) < n := hn
      exact .cons (sm_dp d _ n h1 ho'.1 (by omega)) (sm_dpa ds _ n h2 ho'.2 (by omega))
end
/-- a thing that is no walk, and is itself -/
def OddOk (K : PySem.W.Frag) (C : Addr) (x : Addr) (H : Hp) (v : V) : Prop := WkArg K C H x v True (fun _ => False) ∧ Sm K C (WebR K C) H 6 v v
theorem wk_ex {K : PySem.W.Frag} {C x : Addr} {H H' : Hp} {v : V} {B : Prop} {G : List St5 → Prop} (h : WkArg K C H x v B G) (e : Ex H H') : WkArg K C H' x v B G := by
  obtain ⟨n, ss, h1, h2, h3, h4⟩ := h
  refine ⟨n, ss, h1.ex e, h2, h3, h4.imp (fun z => ⟨z.1.ex e, z.2⟩) (fun z => ?_)⟩
  obtain ⟨d, z1, z2⟩ := z
  exact ⟨d, dp_ex e _ _ z1, z2⟩
theorem OddOk.ex {K : PySem.W.Frag} {C x : Addr} {H H' : Hp} {v : V} (h : OddOk K C x H v) (e : Ex H H') : OddOk K C x H' v := ⟨wk_ex h.1 e, sm_ex webR_ex e _ _ _ h.2⟩
section
variable {K : PySem.W.Frag} {C x : Addr} {H : Hp} {n : Int} {ss : List St5}
theorem odd_not {v : V} (hW : WebAt K C H x n ss) (hn : ss.Nodup) (hz : ss.length ≤ 1000000) (h : Lk K H v false) (hs : Sm K C (WebR K C) H 6 v v) : OddOk K C x H v := ⟨⟨n, ss, hW, hn, hz, .inl ⟨h, trivial⟩⟩, hs⟩
theorem odd_leaf {v : V} {d : PyData} (hW : WebAt K C H x n ss) (hn : ss.Nodup) (hz : ss.length ≤ 1000000) (h : Dp K H v d) (hl : isListD d = false) (ho : dOk d = true) (hd : d.depth < 6) : OddOk K C x H v :=
  odd_not hW hn hz (by have := lk_dp h; rw [hl] at this; exact this) (sm_dp d v 6 h ho hd)
theorem odd_list {v : V} {d : PyData} (hW : WebAt K C H x n ss) (hn : ss.Nodup) (hz : ss.length ≤ 1000000) (h : Dp K H v d) (hl : isListD d = true) (hr : rdWalk n ss (itemsD d) [] = none) (hm : (itemsD d).length ≤ 1000000) (ho : dOk d = true) (hd : d.depth < 6) : OddOk K C x H v :=
  ⟨⟨n, ss, hW, hn, hz, .inr ⟨d, h, hl, hm, .inl ⟨hr, trivial⟩⟩⟩, sm_dp d v 6 h ho hd⟩
theorem odd_web (IC : InsK K C) (hW : WebAt K C H x n ss) (hn : ss.Nodup) (hz : ss.length ≤ 1000000) : OddOk K C x H (.ref x) := by
  obtain ⟨dx, l, kd, ys, h1, h2, h3⟩ := id hW
  refine odd_not hW hn hz ⟨.ref C, fun H' e => .inl (.base (.ins (e _ _ h1) IC.cl IC.ha IC.hn IC.ht IC.hm)), IC.n1⟩ ?_
  exact .inr (.inr (.inr (.inr (.inl ⟨x, dx, _, rfl, rfl, h1, rfl, n, ss, hW, hz⟩))))
theorem odd_fn {f : Addr} {o : Obj} (hW : WebAt K C H x n ss) (hn : ss.Nodup) (hz : ss.length ≤ 1000000) (h1 : K.lookup f = some o) (h2 : o.cls = .type "function") : OddOk K C x H (.ref f) :=
  odd_not hW hn hz ⟨.type "function", fun H' e => .inr ⟨f, o, rfl, h1, h2, rfl⟩, kit_no2 (by decide +kernel) (by decide +kernel)⟩ (.inr (.inr (.inr (.inr (.inr ⟨f, o, rfl, rfl, h1, h2⟩)))))
theorem odd_dict {p : Addr} (hW : WebAt K C H x n ss) (hn : ss.Nodup) (hz : ss.length ≤ 1000000) (h : H p = some (.dK [])) : OddOk K C x H (.ref p) :=
  odd_not hW hn hz ⟨.type "dict", fun H' e => .inl (.base (.dK (e _ _ h))), kit_no2 (by decide +kernel) (by decide +kernel)⟩ (.inr (.inr (.inr (.inl ⟨p, p, rfl, rfl, h, h, by decide⟩))))
/-- a list of one thing that is no step -/
theorem odd_one {p : Addr} {v : V} {d : PyData} (hW : WebAt K C H x n ss) (hn : ss.Nodup) (hz : ss.length ≤ 1000000) (hp : H p = some (.lst [v])) (hv : Dp K H v d) (hr : rdStep n d = none ∨ ∃ s, rdStep n d = some s ∧ s ∉ ss) (ho : dOk d = true) (hd : d.depth < 5) : OddOk K C x H (.ref p) := by
  refine odd_list (d := .list [d]) hW hn hz (.lst (SqL.of hp) (.cons hv .nil)) rfl ?_ (by show 1 ≤ 1000000; decide) ?_ ?_
  · show rdWalk n ss [d] [] = none
    unfold rdWalk
    rcases hr with hr | ⟨s, hr, hs⟩
    · rw [hr]
    · rw [hr]
      show (if s ∈ ss then _ else none) = none
      rw [if_neg hs]
  · show (decide (1 ≤ 1000000) && (dOk d && true)) = true
    rw [ho]
    rfl
  · show max (PyData.depth d) 0 + 1 < 6
    omega
end
theorem tps_in {H : Hp} {a b : Addr} {m : Nat} (S : SAt H a b m) : Ex (tps H) (hid a b H) := fun x o h => by
  obtain ⟨h1, xs, rfl⟩ := tps_some h
  obtain ⟨ns, c1, c2, c3, ha, hb, _⟩ := S
  have xa : x ≠ a := fun z => by
    rw [z, ha] at h1
    cases h1
  have xb : x ≠ b := fun z => by
    rw [z, hb] at h1
    cases h1
  rw [hid_ne xa xb]
  exact h1
theorem ex_f {H G : Hp} {a b g : Addr} (e : ExS a b H G) (h : H g = none) : Ex (hid a b H) (hid g g (hid a b G)) := fun x o hx => by
  obtain ⟨h1, _, _⟩ := hid_some hx
  have xg : x ≠ g := ne_of_none h1 h
  rw [hid_ne xg xg]
  exact e _ _ hx
theorem f_upd {G : Hp} {a b g : Addr} {o : HO} (ha : g ≠ a) (hb : g ≠ b) : hid g g (hid a b (upd G g o)) = hid g g (hid a b G) := by
  rw [hid_upd ha hb, hid_upda]
/-- what is new stands in the heap without the stream and the list g -/
theorem in_f {H G : Hp} {a b g p : Addr} {m : Nat} {o : HO} (S : SAt H a b m) (h0 : H p = none) (h : G p = some o) (hg : p ≠ g) : hid g g (hid a b G) p = some o := by
  rw [hid_ne hg hg, hid_ne (S.nea h0) (S.neb h0)]
  exact h
/-- the odds so far -/
def OddsAt (K : PySem.W.Frag) (C x a b g : Addr) (G : Hp) (N : Nat) : Prop := ∃ os : List V, G g = some (.lst os) ∧ (∀ o ∈ os, OddOk K C x (hid g g (hid a b G)) o) ∧ os.length ≤ N
theorem OddsAt.go {K : PySem.W.Frag} {C x a b g : Addr} {G G' : Hp} {N : Nat} (h : OddsAt K C x a b g G N) (ga : g ≠ a) (gb : g ≠ b) (e : ExS a b G G') : OddsAt K C x a b g G' N := by
  obtain ⟨os, h1, h2, h3⟩ := h
  exact ⟨os, e.at h1 ga gb, fun o ho => (h2 o ho).ex (hid_mono e), h3⟩
theorem OddsAt.mono {K : PySem.W.Frag} {C x a b g : Addr} {G : Hp} {N M : Nat} (h : OddsAt K C x a b g G N) (l : N ≤ M) : OddsAt K C x a b g G M := by
  obtain ⟨os, h1, h2, h3⟩ := h
  exact ⟨os, h1, h2, Nat.le_trans h3 l⟩
theorem OddsAt.add {K : PySem.W.Frag} {C x a b g : Addr} {G : Hp} {os ys : List V} {N M : Nat} (ga : g ≠ a) (gb : g ≠ b) (h2 : ∀ o ∈ os, OddOk K C x (hid g g (hid a b G)) o) (hl : os.length ≤ N) (hy : ∀ o ∈ ys, OddOk K C x (hid g g (hid a b G)) o) (hm : N + ys.length ≤ M) : OddsAt K C x a b g (upd G g (.lst (os ++ ys))) M := by
  refine ⟨_, upd_same, fun o ho => ?_, by rw [List.length_append]; omega⟩
  rw [f_upd ga gb]
  rcases List.mem_append.mp ho with ho | ho
  · exact h2 o ho
  · exact hy o ho
theorem rd_st {n : Int} {s : St5} (h : StOk n s) : rdStep n (stD s) = some s := by
  rw [rd_at (d := stD s) (c := .tuple [.int s.p, .int s.q]) rfl rfl, if_pos ⟨h.o0, h.o1, h.t0, h.t1, h.k⟩]
theorem tps_f {H : Hp} {a b g : Addr} {m : Nat} (S : SAt H a b m) (h : NoTup H g) : Ex (tps H) (hid g g (hid a b H)) := fun x o hx => by
  obtain ⟨h1, xs, rfl⟩ := tps_some hx
  have xg : x ≠ g := fun z => h xs (by rw [← z]; exact h1)
  rw [hid_ne xg xg]
  exact tps_in S _ _ hx
/-- one more list out of sight -/
theorem ff_ex {F F' : Hp} {D : Addr} (e : Ex F F') (h : ∀ z o, F z = some o → z ≠ D) : Ex F (hid D D F') := fun z o hz => by
  rw [hid_ne (h z o hz) (h z o hz)]
  exact e _ _ hz
theorem ff_upd {G : Hp} {a b g D : Addr} {o : HO} (ha : D ≠ a) (hb : D ≠ b) (hg : D ≠ g) : hid D D (hid g g (hid a b (upd G D o))) = hid D D (hid g g (hid a b G)) := by
  rw [hid_upd ha hb, hid_upd hg hg, hid_upda]
theorem odd_two {K : PySem.W.Frag} {C x : Addr} {H : Hp} {n : Int} {ss : List St5} {p c1 c2 : Addr} {s1 s2 : St5} (hW : WebAt K C H x n ss) (hn : ss.Nodup) (hz : ss.length ≤ 1000000) (hp : H p = some (.lst [.ref c1, .ref c2])) (h1 : Dp K H (.ref c1) (stD s1)) (h2 : Dp K H (.ref c2) (stD s2)) (m1 : s1 ∈ ss) (m2 : s2 ∈ ss) (o1 : StOk n s1) (o2 : StOk n s2) (hne : ¬ s1.other = s2.one) : OddOk K C x H (.ref p) := by
  refine odd_list (d := .list [stD s1, stD s2]) hW hn hz (.lst (SqL.of hp) (.cons h1 (.cons h2 .nil))) rfl ?_ (by show 2 ≤ 1000000; decide) rfl (by show 3 < 6; decide)
  show rdWalk n ss [stD s1, stD s2] [] = none
  unfold rdWalk
  rw [rd_st o1]
  show (if s1 ∈ ss then rdWalk n ss [stD s2] [s1] else none) = none
  rw [if_pos m1]
  unfold rdWalk
  rw [rd_st o2]
  show (if s2 ∈ ss then (if s1.other = s2.one then rdWalk n ss [] [s1, s2] else none) else none) = none
  rw [if_pos m2, if_neg hne]
section
variable {P : Program} {w : World} {K : PySem.W.Frag} {mg : Str → Option Value} {base : Heap}
def spRefusedRight (K : PySem.W.Frag) (C : Addr) : Sp := fun vs H Q _ => ∃ (a b : Addr) (m : Nat) (x t : Addr) (n : Int) (vs0 : List V) (ss : List St5), vs = [.ref a, .ref x, .int n, .ref t] ∧ SAt H a b m ∧ m < 900000000 ∧ WebAt K C (hid a b H) x n ss ∧ hid a b H t = some (.lst vs0) ∧ (∃ ts : List St5, DpAll K (tps H) vs0 (ts.map stD) ∧ ts.Perm ss) ∧ WbOk n ss ∧ ss.length ≤ 1000 ∧
  ∀ H', ExS a b H H' → SAt H' a b (m + 1) → Q (.bl true) H'
theorem scRefusedRight : FnScope ["_law_stream_here", "_law_web_here", "_law_places", "_law_steps", "_law_odds", "_law_one", "_law_other", "_law_amounts_here", "_law_ticks", "_law_change", "_law_step_here", "_law_odd", "_law_held", "_law_found", "_law_again"] ["_law_stream_here", "_law_web_here", "_law_places", "_law_steps"] (defScope sRefusedRight) := ⟨rfl, rfl, rfl, by decide +kernel, rfl, by decide +kernel, by decide +kernel⟩
theorem ok_refusedRight {f fP C : Addr} {fd : FuncData} {oP : Obj} (F : L2.Fun K "_law_refused_right" "_law_refused_right" sRefusedRight f fd) (B : Bn mg) (IC : InsK K C) (mP : mg "_law_pick" = some (.ref fP)) (lP : K.lookup fP = some oP) (tP : oP.cls = .type "function")
    (cP : C8.Cal P w K mg base 2 "_law_pick" (spPick K) []) (cR : C8.Cal P w K mg base 7 "_law_refused" (spRefused K C) []) (cS : C8.Cal P w K mg base 9 "_law_same" (spSame K C (WebR K C) 7) []) :
    FnOk P w K mg base CX0 10 f fd ["_law_stream_here", "_law_web_here", "_law_places", "_law_steps"] (spRefusedRight K C) := by
  refine F.ok scRefusedRight (fun vs H Q E h => ?_) (fun cdv A outer s H vs Q E hr h => ?_)
  · obtain ⟨a, b, m, x, t, n, vs0, ss, rfl, _⟩ := h
    rfl
  · obtain ⟨a, b, m, x, t, n, vs0, ss, rfl, hS, hm, hW, hT, ⟨ts, hD, hts⟩, hWb, hsz, k⟩ := h
    have hok := hWb.nd
    refine ⟨_, pss_cons (ps_set (i := 4) scRefusedRight.nd rfl (Or.inl rfl) (pe_lst (pa_cons pe_non (pa_cons pe_int (pa_cons pe_str (pa_cons pe_dnewK (pa_cons pe_bl (pa_cons (pv 1) (pa_cons (pe_glob (v := .ref fP) (by rfl) mP rfl)
        (pa_cons (pe_lst (pa_cons pe_non pa_nil)) (pa_cons (pe_lst (pa_cons (pe_tup pa_nil) pa_nil)) (pa_cons (pe_lst (pa_cons (pe_lst pa_nil) pa_nil)) (pa_cons (pe_lst (pa_cons (pe_tup (pa_cons pe_int (pa_cons pe_int (pa_cons (pe_tup (pa_cons pe_int (pa_cons pe_int pa_nil))) (pa_cons pe_int pa_nil))))) pa_nil)) pa_nil)))))))))))))
      (pss_cons (ps_expr (pe_bm PySem.F.plainAttrs_list PySem.F.slot_list_append PySem.F.type_list_append mt_append (pv 4) (pa_cons (pe_lst (pa_cons (pe_tup (pa_cons (pv 2) (pa_cons pe_int (pa_cons (pe_tup (pa_cons pe_int (pa_cons pe_int pa_nil))) (pa_cons pe_int (pa_cons pe_int pa_nil)))))) pa_nil)) pa_nil)))
      (Evl.pss_cut (ps_if (pt_cmpR (op_neD hr.units) (pv 3) (pe_lst pa_nil) (nomark _))
          (pss_cons (ps_asg (C8.pe_c cP hr (by decide) (by rfl) (pa_cons (pv 0) (pa_cons (pv 3) pa_nil))) (pg_tup (n := 5) rfl (pgs_cons (pg_name (i := 5) scRefusedRight.nd rfl (Or.inl rfl)) (pgs_cons (pg_name (i := 6) scRefusedRight.nd rfl (Or.inl rfl)) (pgs_cons (pg_name (i := 7) scRefusedRight.nd rfl (Or.inl rfl)) (pgs_cons (pg_name (i := 8) scRefusedRight.nd rfl (Or.inl rfl)) (pgs_cons (pg_name (i := 9) scRefusedRight.nd rfl (Or.inl rfl)) pgs_nil)))))))
          (pss_cons (ps_expr (pe_bm PySem.F.plainAttrs_list PySem.F.slot_list_extend PySem.F.type_list_extend mt_extend (pv 4) (pa_cons (pe_lst (pa_cons (pe_lst (pa_cons (pe_tup (pa_cons (pv 5) (pa_cons (pv 6) (pa_cons (pv 7) (pa_cons (pv 8) (pa_cons (pe_op op_add (pv 9) pe_int) pa_nil)))))) pa_nil))
              (pa_cons (pe_lst (pa_cons (pe_tup (pa_cons (pv 5) (pa_cons (pv 6) (pa_cons (pv 7) (pa_cons pe_bl (pa_cons (pv 9) pa_nil)))))) pa_nil)) (pa_cons (pe_lst (pa_cons (pv 5) (pa_cons (pv 6) pa_nil))) pa_nil)))) pa_nil)))
          (pss_one (ps_for PassesOwn.never rfl (pi_list (pe_slice sl_list (pv 3) po_none (po_some pe_int))) (pg_name (i := 10) scRefusedRight.nd rfl (Or.inr rfl))
            (pss_one (ps_expr (pe_bm PySem.F.plainAttrs_list PySem.F.slot_list_extend PySem.F.type_list_extend mt_extend (pv 4) (pa_cons (pe_lc (own := [("_law_again", 14)]) (g := gName 14) (by rfl) scRefusedRight.nd (pi_list (pe_slice sl_list (pv 3) po_none (po_some pe_int))) (blkOk_by (N := ["_law_stream_here", "_law_web_here", "_law_places", "_law_steps", "_law_odds", "_law_one", "_law_other", "_law_amounts_here", "_law_ticks", "_law_change", "_law_step_here", "_law_odd", "_law_held", "_law_found", "_law_again"]) (sc := defScope sRefusedRight) (by decide +kernel))
                (fun _ _ _ _ _ => pg_name (i := 14) scRefusedRight.nd rfl (Or.inl rfl)) (fun _ _ _ _ _ => pts_one (pt_cmpR op_ne (pe_ix (r := rIxT K) ix_tup (pv 10) pe_int (fun _ _ => rfl)) (pe_ix (r := rIxT K) ix_tup (pv 14) pe_int (fun _ _ => rfl)) (nomark _))) (fun _ _ _ _ _ => pe_lst (pa_cons (pv 10) (pa_cons (pv 14) pa_nil)))) pa_nil)))))))) pss_nil)
      (Evl.pss_cut (ps_for PassesOwn.never rfl (pi_list (pv 4)) (pg_name (i := 11) scRefusedRight.nd rfl (Or.inl rfl))
          (pss_one (ps_if (pt_not (pt_val (C8.pe_c cS hr (by decide) (by rfl) (pa_cons (C8.pe_c cR hr (by decide) (by rfl) (pa_cons (pv 1) (pa_cons (pv 11) pa_nil))) (pa_cons (pe_lst (pa_cons (pv 11) pa_nil)) pa_nil))))) (pss_one (ps_ret pe_bl)) pss_nil)))
      (pss_cons (ps_set (i := 12) scRefusedRight.nd rfl (Or.inl rfl) (pe_lst (pa_cons pe_int pa_nil)))
      (pss_cons (ps_set (i := 13) scRefusedRight.nd rfl (Or.inl rfl) (C8.pe_c cR hr (by decide) (by rfl) (pa_cons (pv 1) (pa_cons (pv 12) pa_nil))))
      (pss_cons (ps_expr (pe_bm PySem.F.plainAttrs_list PySem.F.slot_list_append PySem.F.type_list_append mt_append (pv 12) (pa_cons pe_str pa_nil)))
      (pss_one (ps_ret (C8.pe_c cS hr (by decide) (by rfl) (pa_cons (pv 13) (pa_cons (pe_lst (pa_cons (pe_lst (pa_cons pe_int (pa_cons pe_str pa_nil))) pa_nil)) pa_nil))))))))))), ?_⟩
    refine fun d hd => ⟨_, rfl, by show 1 ≤ sizeLine; decide, fun l1 h1 => ⟨by show 0 ≤ sizeLine; decide, fun t1 ht1 => ⟨by show 1 ≤ sizeLine; decide, fun l2 h2 => ⟨by show 0 ≤ sizeLine; decide, fun l3 h3 => ⟨by show 1 ≤ sizeLine; decide, fun l4 h4 =>
      ⟨by show 2 ≤ sizeLine; decide, fun t2 ht2 => ⟨by show 4 ≤ sizeLine; decide, fun t3 ht3 => ⟨by show 1 ≤ sizeLine; decide, fun l5 h5 => ⟨by show 11 ≤ sizeLine; decide, fun g hg => ?_⟩⟩⟩⟩⟩⟩⟩⟩⟩
    have z1 := Ex.new (o := (.dK [])) hd
    have f1 : upd H d (.dK []) d = some (.dK []) := upd_same
    generalize upd H d (.dK []) = G1 at z1 f1 h1 ht1 h2 h3 h4 ht2 ht3 h5 hg ⊢
    have z2 := Ex.new (o := (.lst [.non])) h1
    have f2 : upd G1 l1 (.lst [.non]) l1 = some (.lst [.non]) := upd_same
    generalize upd G1 l1 (.lst [.non]) = G2 at z2 f2 ht1 h2 h3 h4 ht2 ht3 h5 hg ⊢
    have z3 := Ex.new (o := (.tup [])) ht1
    have f3 : upd G2 t1 (.tup []) t1 = some (.tup []) := upd_same
    generalize upd G2 t1 (.tup []) = G3 at z3 f3 h2 h3 h4 ht2 ht3 h5 hg ⊢
    have z4 := Ex.new (o := (.lst [.ref t1])) h2
    have f4 : upd G3 l2 (.lst [.ref t1]) l2 = some (.lst [.ref t1]) := upd_same
    generalize upd G3 l2 (.lst [.ref t1]) = G4 at z4 f4 h3 h4 ht2 ht3 h5 hg ⊢
    have z5 := Ex.new (o := (.lst [])) h3
    have f5 : upd G4 l3 (.lst []) l3 = some (.lst []) := upd_same
    generalize upd G4 l3 (.lst []) = G5 at z5 f5 h4 ht2 ht3 h5 hg ⊢
    have z6 := Ex.new (o := (.lst [.ref l3])) h4
    have f6 : upd G5 l4 (.lst [.ref l3]) l4 = some (.lst [.ref l3]) := upd_same
    generalize upd G5 l4 (.lst [.ref l3]) = G6 at z6 f6 ht2 ht3 h5 hg ⊢
    have z7 := Ex.new (o := (.tup [.int 0, .int 0])) ht2
    have f7 : upd G6 t2 (.tup [.int 0, .int 0]) t2 = some (.tup [.int 0, .int 0]) := upd_same
    generalize upd G6 t2 (.tup [.int 0, .int 0]) = G7 at z7 f7 ht3 h5 hg ⊢
    have z8 := Ex.new (o := (.tup [.int 0, .int 0, .ref t2, .int 1])) ht3
    have f8 : upd G7 t3 (.tup [.int 0, .int 0, .ref t2, .int 1]) t3 = some (.tup [.int 0, .int 0, .ref t2, .int 1]) := upd_same
    generalize upd G7 t3 (.tup [.int 0, .int 0, .ref t2, .int 1]) = G8 at z8 f8 h5 hg ⊢
    have z9 := Ex.new (o := (.lst [.ref t3])) h5
    have f9 : upd G8 l5 (.lst [.ref t3]) l5 = some (.lst [.ref t3]) := upd_same
    generalize upd G8 l5 (.lst [.ref t3]) = G9 at z9 f9 hg ⊢
    generalize hLs : ([V.non, V.int 5, V.str _, V.ref d, V.bl true, V.ref x, V.ref fP, V.ref l1, V.ref l2, V.ref l4, V.ref l5] : List V) = Ls
    have zg := Ex.new (o := .lst Ls) hg
    have fg : upd G9 g (.lst Ls) g = some (.lst Ls) := upd_same
    have e8 := z8.trans z9
    have e7 := z7.trans e8
    have e6 := z6.trans e7
    have e5 := z5.trans e6
    have e4 := z4.trans e5
    have e3 := z3.trans e4
    have e2 := z2.trans e3
    have e1 := z1.trans e2
    have g0 : H g = none := fresh_back e1 hg
    have ga := hS.nea g0
    have gb := hS.neb g0
    generalize upd G9 g (.lst Ls) = GA at zg fg ⊢
    have eA := e1.trans zg
    refine ⟨_, rfl, .inl ⟨rfl, _, SqL.of fg⟩, _, rfl, by show 2 ≤ sizeLine; decide, fun t4 ht4 => ⟨by show 5 ≤ sizeLine; decide, fun t5 ht5 => ⟨by show 1 ≤ sizeLine; decide, fun l6 h6 => ?_⟩⟩⟩
    have zB := Ex.new (o := (.tup [.int 0, .int 0])) ht4
    have fB : upd GA t4 (.tup [.int 0, .int 0]) t4 = some (.tup [.int 0, .int 0]) := upd_same
    generalize upd GA t4 (.tup [.int 0, .int 0]) = GB at zB fB ht5 h6 ⊢
    have zC := Ex.new (o := (.tup [.int n, .int 0, .ref t4, .int 1, .int 0])) ht5
    have fC : upd GB t5 (.tup [.int n, .int 0, .ref t4, .int 1, .int 0]) t5 = some (.tup [.int n, .int 0, .ref t4, .int 1, .int 0]) := upd_same
    generalize upd GB t5 (.tup [.int n, .int 0, .ref t4, .int 1, .int 0]) = GC at zC fC h6 ⊢
    have zD := Ex.new (o := (.lst [.ref t5])) h6
    have fD : upd GC l6 (.lst [.ref t5]) l6 = some (.lst [.ref t5]) := upd_same
    generalize upd GC l6 (.lst [.ref t5]) = GD at zD fD  ⊢
    have eD := (zB.trans zC).trans zD
    have fgD := eD _ _ fg
    refine ⟨g, Ls, _, rfl, rfl, fgD, by rw [← hLs]; show 11 < sizeLine; decide, ?_⟩
    have hz1 : ss.length ≤ 1000000 := by omega
    have eHD : ExS a b H GD := hid_mono (eA.trans eD)
    have odds0 : OddsAt K C x a b g (upd GD g (.lst (Ls ++ [.ref l6]))) 12 := by
      refine ⟨_, upd_same, fun o ho => ?_, by rw [← hLs]; show 12 ≤ 12; decide⟩
      rw [f_upd ga gb]
      have hWF := hW.ex (ex_f eHD g0)
      have k9 : ∀ {p : Addr} {u : HO}, G9 p = some u → H p = none → hid g g (hid a b GD) p = some u := fun h h0 => in_f hS h0 (eD _ _ (zg _ _ h)) (ne_of_none h hg)
      have kD : ∀ {p : Addr} {u : HO}, GD p = some u → GA p = none → hid g g (hid a b GD) p = some u := fun h h0 => in_f hS (fresh_back eA h0) h (ne_of_none fg h0).symm
      have y1 := k9 (e2 _ _ f1) hd
      have y2 := k9 (e3 _ _ f2) (fresh_back z1 h1)
      have y3 := k9 (e4 _ _ f3) (fresh_back (z1.trans z2) ht1)
      have y4 := k9 (e5 _ _ f4) (fresh_back (z1.trans (z2.trans z3)) h2)
      have y5 := k9 (e6 _ _ f5) (fresh_back (z1.trans (z2.trans (z3.trans z4))) h3)
      have y6 := k9 (e7 _ _ f6) (fresh_back (z1.trans (z2.trans (z3.trans (z4.trans z5)))) h4)
      have y7 := k9 (e8 _ _ f7) (fresh_back (z1.trans (z2.trans (z3.trans (z4.trans (z5.trans z6))))) ht2)
      have y8 := k9 (z9 _ _ f8) (fresh_back (z1.trans (z2.trans (z3.trans (z4.trans (z5.trans (z6.trans z7)))))) ht3)
      have y9 := k9 f9 (fresh_back (z1.trans (z2.trans (z3.trans (z4.trans (z5.trans (z6.trans (z7.trans z8))))))) h5)
      have yB := kD ((zC.trans zD) _ _ fB) ht4
      have yC := kD (zD _ _ fC) (fresh_back zB ht5)
      have yD := kD fD (fresh_back (zB.trans zC) h6)
      rw [← hLs] at ho
      simp only [List.mem_append, List.mem_cons, List.not_mem_nil, or_false] at ho
      rcases ho with (rfl | rfl | rfl | rfl | rfl | rfl | rfl | rfl | rfl | rfl | rfl) | rfl
      · exact odd_leaf (d := .none) hWF hok hz1 .non rfl rfl (by decide)
      · exact odd_leaf (d := .int 5) hWF hok hz1 (.int 5) rfl rfl (by decide)
      · exact odd_leaf (d := .str _) hWF hok hz1 (.str _) rfl (by decide +kernel) (by decide)
      · exact odd_dict hWF hok hz1 y1
      · exact odd_leaf (d := .bool true) hWF hok hz1 (.bl true) rfl rfl (by decide)
      · exact odd_web IC hWF hok hz1
      · exact odd_fn hWF hok hz1 lP tP
      · exact odd_one (d := .none) hWF hok hz1 y2 .non (.inl rfl) rfl (by decide)
      · exact odd_one (d := .tuple []) hWF hok hz1 y4 (.tup (SqT.of y3) .nil) (.inl rfl) (by decide +kernel) (by decide)
      · exact odd_one (d := .list []) hWF hok hz1 y6 (.lst (SqL.of y5) .nil) (.inl rfl) (by decide +kernel) (by decide)
      · exact odd_one (d := .tuple [.int 0, .int 0, .tuple [.int 0, .int 0], .int 1]) hWF hok hz1 y9 (.tup (SqT.of y8) (.cons (.int 0) (.cons (.int 0) (.cons (.tup (SqT.of y7) (.cons (.int 0) (.cons (.int 0) .nil))) (.cons (.int 1) .nil))))) (.inl rfl) (by decide +kernel) (by decide)
      · refine odd_one (d := .tuple [.int n, .int 0, .tuple [.int 0, .int 0], .int 1, .int 0]) hWF hok hz1 yD (.tup (SqT.of yC) (.cons (.int n) (.cons (.int 0) (.cons (.tup (SqT.of yB) (.cons (.int 0) (.cons (.int 0) .nil))) (.cons (.int 1) (.cons (.int 0) .nil)))))) (.inl ?_) rfl (by show 2 < 5; decide)
        rw [rd_at (a := n) (b := 0) (e := 1) (f := 0) (p := 0) (q := 0) rfl rfl, if_neg (fun z => by omega)]
    generalize hLs2 : Ls ++ [V.ref l6] = L2s at odds0 ⊢
    have eHE : ExS a b H (upd GD g (.lst L2s)) := ExS.own eHD g0 ga gb
    have hSE : SAt (upd GD g (.lst L2s)) a b m := (hS.ex (eA.trans eD)).upd ga gb
    generalize upd GD g (.lst L2s) = GE at odds0 eHE hSE ⊢
    refine ⟨fun σ G => ∃ (x5 x6 x7 x8 x9 x10 : Option V), σ = [some (.ref a), some (.ref x), some (.int n), some (.ref t), some (.ref g), x5, x6, x7, x8, x9, x10, none, none, none, none] ∧ ExS a b H G ∧ (∃ mm, mm ≤ m + 1 ∧ SAt G a b mm) ∧ OddsAt K C x a b g G 50, ?_, ?_⟩
    · refine ⟨_, rfl, by show 0 ≤ sizeLine; decide, fun L hL => ?_⟩
      obtain ⟨hT1, tna, tnb⟩ := hid_some hT
      have hTE : GE t = some (.lst vs0) := eHE.at hT1 tna tnb
      have zL := Ex.new (o := .lst []) hL
      have fL : upd GE L (.lst []) L = some (.lst []) := upd_same
      generalize upd GE L (.lst []) = G0 at zL fL ⊢
      have eH0 : ExS a b H G0 := eHE.trans (hid_mono zL)
      have hS0 : SAt G0 a b m := hSE.ex zL
      have hT0 : G0 t = some (.lst vs0) := zL _ _ hTE
      have hD0 : DpAll K (tps G0) vs0 (ts.map stD) := dpa_ex (tps_hid eH0 hS) _ _ hD
      have od0 := odds0.go ga gb (hid_mono zL)
      have hvl := sts_len (dpa_ex tps_le _ _ hD)
      have hsl := hts.length_eq
      refine ⟨.list (ts.map stD), .list [], .lst (SqL.of hT0) (dpa_ex tps_le _ _ hD0), .lst (SqL.of fL) .nil, stDs_shaped ts, rfl, _, rfl, ?_⟩
      rw [eqv_sts_nil]
      by_cases hte : ts.isEmpty = true
      · rw [hte]
        refine iteF ?_
        exact ⟨none, none, none, none, none, none, rfl, eH0, ⟨m, by omega, hS0⟩, od0.mono (by decide)⟩
      have htf : ts.isEmpty = false := by simpa using hte
      have htl : 0 < ts.length := by
        cases ts with
        | nil => cases htf
        | cons _ _ => exact Nat.succ_pos _
      rw [htf]
      refine iteT ?_
      refine ⟨_, rfl, _, rfl, a, b, m, t, vs0, rfl, hS0, by omega, SqL.of (by rw [hid_ne tna tnb]; exact hT0), by omega, by omega, fun G1 i v e1' s1 hi => ?_⟩
      obtain ⟨st, c, hst, rfl, hc⟩ := sts_get hD0 hi
      have hc1 := dp_ex (tps_hid e1' hS0) _ _ hc
      obtain ⟨c', c2, hcc, g1t, g2t⟩ := stD_inv hc1
      cases hcc
      have g1 := ex_t tps_le g1t
      have eH1 : ExS a b H G1 := eH0.trans e1'
      obtain ⟨os, hgo, hos, hol⟩ := od0.go ga gb e1'
      refine ⟨c, _, rfl, g1, rfl, _, _, rfl, _, _, rfl, _, _, rfl, _, _, rfl, _, _, rfl, rfl, ?_⟩
      refine ⟨_, rfl, .inl ⟨rfl, _, SqL.of hgo⟩, _, rfl, _, rfl, _, rfl, _, rfl, _, rfl, _, _, rfl, rfl, by show 5 ≤ sizeLine; decide, fun t6 ht6 => ⟨by show 1 ≤ sizeLine; decide, fun l7 h7 => ⟨_, rfl, _, rfl, _, rfl, _, rfl, by show 5 ≤ sizeLine; decide, fun t7 ht7 => ⟨by show 1 ≤ sizeLine; decide, fun l8 h8 => ⟨_, rfl, _, rfl, by show 2 ≤ sizeLine; decide, fun l9 h9 => ⟨by show 3 ≤ sizeLine; decide, fun l10 h10 => ?_⟩⟩⟩⟩⟩⟩
      have w1 := Ex.new (o := (.tup [.int st.one, .int st.other, .ref c2, .int st.ticks, .int (st.change + 40)])) ht6
      have x1 : upd G1 t6 (.tup [.int st.one, .int st.other, .ref c2, .int st.ticks, .int (st.change + 40)]) t6 = some (.tup [.int st.one, .int st.other, .ref c2, .int st.ticks, .int (st.change + 40)]) := upd_same
      generalize upd G1 t6 (.tup [.int st.one, .int st.other, .ref c2, .int st.ticks, .int (st.change + 40)]) = K1 at w1 x1 h7 ht7 h8 h9 h10 ⊢
      have w2 := Ex.new (o := (.lst [.ref t6])) h7
      have x2 : upd K1 l7 (.lst [.ref t6]) l7 = some (.lst [.ref t6]) := upd_same
      generalize upd K1 l7 (.lst [.ref t6]) = K2 at w2 x2 ht7 h8 h9 h10 ⊢
      have w3 := Ex.new (o := (.tup [.int st.one, .int st.other, .ref c2, .bl true, .int st.change])) ht7
      have x3 : upd K2 t7 (.tup [.int st.one, .int st.other, .ref c2, .bl true, .int st.change]) t7 = some (.tup [.int st.one, .int st.other, .ref c2, .bl true, .int st.change]) := upd_same
      generalize upd K2 t7 (.tup [.int st.one, .int st.other, .ref c2, .bl true, .int st.change]) = K3 at w3 x3 h8 h9 h10 ⊢
      have w4 := Ex.new (o := (.lst [.ref t7])) h8
      have x4 : upd K3 l8 (.lst [.ref t7]) l8 = some (.lst [.ref t7]) := upd_same
      generalize upd K3 l8 (.lst [.ref t7]) = K4 at w4 x4 h9 h10 ⊢
      have w5 := Ex.new (o := (.lst [.int st.one, .int st.other])) h9
      have x5 : upd K4 l9 (.lst [.int st.one, .int st.other]) l9 = some (.lst [.int st.one, .int st.other]) := upd_same
      generalize upd K4 l9 (.lst [.int st.one, .int st.other]) = K5 at w5 x5 h10 ⊢
      have w6 := Ex.new (o := (.lst [.ref l7, .ref l8, .ref l9])) h10
      have x6 : upd K5 l10 (.lst [.ref l7, .ref l8, .ref l9]) l10 = some (.lst [.ref l7, .ref l8, .ref l9]) := upd_same
      generalize upd K5 l10 (.lst [.ref l7, .ref l8, .ref l9]) = K6 at w6 x6  ⊢
      have v5 := w5.trans w6
      have v4 := w4.trans v5
      have v3 := w3.trans v4
      have v2 := w2.trans v3
      have v1 := w1.trans v2
      have gG : K6 g = some (.lst os) := v1 _ _ hgo
      have eH6 : ExS a b H K6 := eH1.trans (hid_mono v1)
      have hS6 : SAt K6 a b (m + 1) := s1.ex v1
      have hWF := hW.ex (ex_f eH6 g0)
      have inK : ∀ {p : Addr} {u : HO}, K6 p = some u → G1 p = none → hid g g (hid a b K6) p = some u := fun h h0 => in_f hS (ExS.back eH1 s1 h0) h (ne_of_none hgo h0).symm
      have y1 := inK (v2 _ _ x1) ht6
      have y2 := inK (v3 _ _ x2) (fresh_back w1 h7)
      have y3 := inK (v4 _ _ x3) (fresh_back (w1.trans w2) ht7)
      have y4 := inK (v5 _ _ x4) (fresh_back (w1.trans (w2.trans w3)) h8)
      have y5 := inK (w6 _ _ x5) (fresh_back (w1.trans (w2.trans (w3.trans w4))) h9)
      have hms : st ∈ ss := hts.mem_iff.mp (mem_of_get hst)
      have hin : Dp K (hid g g (hid a b K6)) (.ref c) (stD st) := dp_ex ((tps_f (H := K6) hS6 (NoTup.lst gG))) _ _ (dp_ex (tps_mono v1) _ _ hc1)
      have g4 : SqT K (hid g g (hid a b K6)) c2 [.int st.p, .int st.q] := ex_t (tps_f (H := K6) hS6 (NoTup.lst gG)) (ex_t (tps_mono v1) g2t)
      have okst := hWb.ok st hms
      have smst := hWb.sm st hms
      refine ⟨g, l10, os, [.ref l7, .ref l8, .ref l9], rfl, rfl, gG, x6, by show os.length + 3 ≤ sizeLine; exact sz_le (by omega), ?_⟩
      have oK := OddsAt.add (K := K) (C := C) (x := x) (ys := [.ref l7, .ref l8, .ref l9]) (N := 12) (M := 15) ga gb (fun o ho => (hos o ho).ex (hid_mono (hid_mono v1))) hol (fun o ho => by
        simp only [List.mem_cons, List.not_mem_nil, or_false] at ho
        rcases ho with rfl | rfl | rfl
        · refine odd_one (d := stD { st with change := st.change + 40 }) hWF hok hz1 y2 (stD_mk (s := { st with change := st.change + 40 }) (SqT.of y1) g4) (.inr ⟨{ st with change := st.change + 40 }, rd_st ⟨okst.o0, okst.o1, okst.t0, okst.t1, okst.k⟩, fun z => ?_⟩) rfl (by show 2 < 5; decide)
          have h1 := (hWb.sm _ z).c1
          have h2 := smst.c0
          have h3 : st.change + 40 ≤ 9 := h1
          omega
        · exact odd_one (d := .tuple [.int st.one, .int st.other, .tuple [.int st.p, .int st.q], .bool true, .int st.change]) hWF hok hz1 y4 (.tup (SqT.of y3) (.cons (.int _) (.cons (.int _) (.cons (.tup g4 (.cons (.int _) (.cons (.int _) .nil))) (.cons (.bl true) (.cons (.int _) .nil)))))) (.inl rfl) rfl (by show 2 < 5; decide)
        · exact odd_list (d := .list [.int st.one, .int st.other]) hWF hok hz1 (.lst (SqL.of y5) (.cons (.int _) (.cons (.int _) .nil))) rfl rfl (by show 2 ≤ 1000000; decide) rfl (by show 1 < 6; decide)) (by show 12 + 3 ≤ 15; decide)
      have eH7 : ExS a b H (upd K6 g (.lst (os ++ [.ref l7, .ref l8, .ref l9]))) := ExS.own eH6 g0 ga gb
      have hS7 : SAt (upd K6 g (.lst (os ++ [.ref l7, .ref l8, .ref l9]))) a b (m + 1) := hS6.upd ga gb
      generalize upd K6 g (.lst (os ++ [.ref l7, .ref l8, .ref l9])) = G7' at oK eH7 hS7 ⊢
      have hT7 : G7' t = some (.lst vs0) := eH7.at hT1 tna tnb
      refine ⟨_, rfl, _, rfl, t, vs0, rfl, SqL.of hT7, fun u hu => ⟨u, rfl, ?_⟩⟩
      have hcut : cutV vs0 none (some 3) = vs0.take 3 := cut_to vs0 3
      rw [hcut]
      have zu := Ex.new (o := .lst (vs0.take 3)) hu
      have fu : upd G7' u (.lst (vs0.take 3)) u = some (.lst (vs0.take 3)) := upd_same
      generalize upd G7' u (.lst (vs0.take 3)) = G8' at zu fu ⊢
      have eH8 : ExS a b H G8' := eH7.trans (hid_mono zu)
      have u0 : H u = none := ExS.back eH7 hS7 hu
      have ua := hS.nea u0
      have ub := hS.neb u0
      obtain ⟨osk, hgk, _⟩ := id (oK.go ga gb (hid_mono zu))
      have ug : u ≠ g := fun z => by
        rw [z, hgk] at fu
        obtain ⟨o7, hg7, _⟩ := oK
        rw [z, hg7] at hu
        cases hu
      refine ⟨⟨_, SqL.of fu⟩, for_list (K := K) (a := u) (xs := vs0.take 3) (fun i σ G => ∃ x10 : Option V, σ = [some (.ref a), some (.ref x), some (.int n), some (.ref t), some (.ref g), some (.int st.one), some (.int st.other), some (.ref c2), some (.int st.ticks), some (.int st.change), x10, none, none, none, none] ∧
          ExS a b H G ∧ SAt G a b (m + 1) ∧ OddsAt K C x a b g G (15 + 3 * i) ∧ G u = some (.lst (vs0.take 3))) ⟨none, rfl, eH8, hS7.ex zu, oK.go ga gb (hid_mono zu), fu⟩ (fun i σ G _ ⟨_, _, _, _, _, e⟩ => SqL.of e) ?_ ?_⟩
      · rintro i y σ G hy ⟨x10, rfl, eG, hSG, ⟨os', hgo', hos', hol'⟩, huG⟩
        rw [List.getElem?_take] at hy
        have hi3 : i < 3 := by
          by_cases h : i < 3
          · exact h
          · rw [if_neg h] at hy
            cases hy
        rw [if_pos hi3] at hy
        have hDG : DpAll K (tps G) vs0 (ts.map stD) := dpa_ex (tps_hid eG hS) _ _ hD
        obtain ⟨s1', c1, hs1', rfl, hc1'⟩ := sts_get hDG hy
        have hTG : G t = some (.lst vs0) := eG.at hT1 tna tnb
        refine ⟨_, rfl, .inl ⟨rfl, _, SqL.of hgo'⟩, ?_⟩
        refine ⟨_, rfl, _, rfl, t, vs0, rfl, SqL.of hTG, fun u2 hu2 => ⟨u2, rfl, ⟨_, SqL.of upd_same⟩, fun D hDn => ?_⟩⟩
        rw [hcut] at hDn ⊢
        have zu2 := Ex.new (o := .lst (vs0.take 3)) hu2
        have fu2 : upd G u2 (.lst (vs0.take 3)) u2 = some (.lst (vs0.take 3)) := upd_same
        generalize upd G u2 (.lst (vs0.take 3)) = Gu at zu2 fu2 hDn ⊢
        have eGu : ExS a b H Gu := eG.trans (hid_mono zu2)
        have hSGu : SAt Gu a b (m + 1) := hSG.ex zu2
        have D0 : H D = none := ExS.back eGu hSGu hDn
        have Da := hS.nea D0
        have Db := hS.neb D0
        have Dg : D ≠ g := (ne_of_none (zu2 _ _ hgo') hDn).symm
        refine lc_list (xs := vs0.take 3) (fun j G' => Ex Gu G' ∧ ∃ acc : List V, G' D = some (.lst acc) ∧ (∀ o ∈ acc, OddOk K C x (hid D D (hid g g (hid a b G'))) o) ∧ acc.length ≤ j) ⟨Ex.new hDn, [], upd_same, fun o h => absurd h (by simp), Nat.le_refl _⟩ (fun j G' _ q => SqL.of (q.1 _ _ fu2)) ?_ ?_
        · rintro j z G' hz ⟨r1, acc, r2, r3, r4⟩
          rw [List.getElem?_take] at hz
          have hj3 : j < 3 := by
            by_cases h : j < 3
            · exact h
            · rw [if_neg h] at hz
              cases hz
          rw [if_pos hj3] at hz
          obtain ⟨s2', c2', hs2', rfl, hc2'⟩ := sts_get hDG hz
          have eG' : ExS a b H G' := eGu.trans (hid_mono r1)
          have b1 := dp_ex (tps_mono (zu2.trans r1)) _ _ hc1'
          have b2 := dp_ex (tps_mono (zu2.trans r1)) _ _ hc2'
          obtain ⟨d1, d2, hd1, p1, _⟩ := stD_inv (dp_ex tps_le _ _ b1)
          cases hd1
          obtain ⟨d3, d4, hd3, p2, _⟩ := stD_inv (dp_ex tps_le _ _ b2)
          cases hd3
          refine ⟨rfl, _, rfl, c1, _, 1, .int s1'.other, rfl, rfl, p1, rfl, _, rfl, c2', _, 0, .int s2'.one, rfl, rfl, p2, rfl, rfl, _, rfl, ?_⟩
          by_cases hne : s1'.other = s2'.one
          · rw [decide_eq_true (by rw [hne])]
            refine iteF ?_
            exact ⟨r1, acc, r2, r3, by omega⟩
          · rw [decide_eq_false (fun y => hne (V.int.inj y))]
            refine iteT ?_
            refine ⟨_, rfl, _, rfl, by show 2 ≤ sizeLine; decide, fun q hq => ?_⟩
            have zq := Ex.new (o := .lst [V.ref c1, V.ref c2']) hq
            have fq : upd G' q (.lst [V.ref c1, V.ref c2']) q = some (.lst [V.ref c1, V.ref c2']) := upd_same
            generalize upd G' q (.lst [V.ref c1, V.ref c2']) = Gq at zq fq ⊢
            have eGq : ExS a b H Gq := eG'.trans (hid_mono zq)
            have hSq : SAt Gq a b (m + 1) := hSGu.ex (r1.trans zq)
            have fD : Gq D = some (.lst acc) := zq _ _ r2
            have hWD : WebAt K C (hid D D (hid g g (hid a b Gq))) x n ss := hW.ex (ff_ex (ex_f eGq g0) fun y o hy => ne_of_none (hid_some hy).1 D0)
            have tD : Ex (tps Gq) (hid D D (hid g g (hid a b Gq))) := ff_ex (tps_f hSq (NoTup.lst (zq _ _ (r1 _ _ (zu2 _ _ hgo'))))) fun y o hy e => by
              obtain ⟨h1, xs, rfl⟩ := tps_some hy
              rw [e, fD] at h1
              cases h1
            have q0 : H q = none := ExS.back eG' (hSGu.ex r1) hq
            have qD : q ≠ D := (ne_of_none r2 hq).symm
            have qg : q ≠ g := (ne_of_none (r1 _ _ (zu2 _ _ hgo')) hq).symm
            have yq : hid D D (hid g g (hid a b Gq)) q = some (.lst [V.ref c1, V.ref c2']) := by
              rw [hid_ne qD qD]
              exact in_f hS q0 fq qg
            have mm1 := hts.mem_iff.mp (mem_of_get hs1')
            have mm2 := hts.mem_iff.mp (mem_of_get hs2')
            have odq := odd_two hWD hok hz1 yq (dp_ex tD _ _ (dp_ex (tps_mono zq) _ _ b1)) (dp_ex tD _ _ (dp_ex (tps_mono zq) _ _ b2)) mm1 mm2 (hWb.ok _ mm1) (hWb.ok _ mm2) hne
            refine ⟨acc, fD, sz_m (by omega), Ex.mut (r1.trans zq) hDn, _, upd_same, fun o ho => ?_, by rw [List.length_append]; exact Nat.succ_le_succ r4⟩
            rw [ff_upd Da Db Dg]
            rcases List.mem_append.mp ho with ho | ho
            · exact (r3 o ho).ex (hid_mono (hid_mono (hid_mono zq)))
            · rw [List.mem_singleton] at ho
              subst ho
              exact odq
        · rintro G' ⟨r1, acc, r2, r3, r4⟩
          rw [List.length_take] at r4
          have hgG : G' g = some (.lst os') := r1 _ _ (zu2 _ _ hgo')
          refine ⟨g, D, os', acc, rfl, rfl, hgG, r2, sz_le (by omega), ?_⟩
          have od := OddsAt.add (K := K) (C := C) (x := x) (ys := acc) (N := 15 + 3 * i) (M := 15 + 3 * (i + 1)) ga gb (fun o ho => (hos' o ho).ex (hid_mono (hid_mono (zu2.trans r1)))) hol' (fun o ho => (r3 o ho).ex hid_ex) (by omega)
          have eG' : ExS a b H G' := eGu.trans (hid_mono r1)
          have huG' : G' u = some (.lst (vs0.take 3)) := r1 _ _ (zu2 _ _ huG)
          exact ⟨_, rfl, ExS.own eG' g0 ga gb, (hSGu.ex r1).upd ga gb, od, by rw [upd_ne ug]; exact huG'⟩
      · rintro σ G ⟨x10, rfl, eG, hSG, oG, huG⟩
        refine ⟨_, _, _, _, _, x10, rfl, eG, ⟨m + 1, Nat.le_refl _, hSG⟩, oG.mono ?_⟩
        rw [List.length_take]
        omega
    · rintro σ G ⟨x5, x6, x7, x8, x9, x10, rfl, eG, ⟨mm, hmm, hSG⟩, os, hgo, hos, hol⟩
      refine ⟨fun σ G' => ∃ x11 : Option V, σ = [some (.ref a), some (.ref x), some (.int n), some (.ref t), some (.ref g), x5, x6, x7, x8, x9, x10, x11, none, none, none] ∧ Ex G G', ?_, ?_⟩
      · refine ⟨_, rfl, g, rfl, ⟨os, SqL.of hgo⟩, for_list (K := K) (a := g) (xs := os) (fun i σ G' => ∃ x11 : Option V, σ = [some (.ref a), some (.ref x), some (.int n), some (.ref t), some (.ref g), x5, x6, x7, x8, x9, x10, x11, none, none, none] ∧ Ex G G') ⟨none, rfl, Ex.refl _⟩ (fun i σ G' _ ⟨_, _, e⟩ => ex_l e (SqL.of hgo)) ?_ (fun σ G' z => z)⟩
        rintro i y σ G' hy ⟨x11, rfl, q1⟩
        have ho := (hos y (mem_of_get hy)).ex ((hid_ex.trans hid_ex).trans q1)
        refine ⟨_, rfl, _, rfl, x, y, rfl, ho.1, fun G2 p e2 hp0 hp => ⟨_, rfl, by show 1 ≤ sizeLine; decide, fun q hq => ?_⟩⟩
        have zq := Ex.new (o := .lst [y]) hq
        refine ⟨.ref p, .ref q, rfl, .inr (.inl ⟨p, q, [y], [y], rfl, rfl, SqL.of (zq _ _ hp), SqL.of upd_same, .cons ((ho.ex (e2.trans zq)).2) .nil, by show 1 ≤ 1000000; decide⟩), fun G3 e3 => ⟨_, rfl, iteF ?_⟩⟩
        exact ⟨_, rfl, q1.trans (e2.trans (zq.trans e3))⟩
      · rintro σ G' ⟨x11, rfl, q1⟩
        refine ⟨by show 1 ≤ sizeLine; decide, fun l hl => ?_⟩
        have zl := Ex.new (o := .lst [V.int 5]) hl
        have fl : upd G' l (.lst [V.int 5]) l = some (.lst [V.int 5]) := upd_same
        generalize upd G' l (.lst [V.int 5]) = G1 at zl fl ⊢
        have eG1 : ExS a b H G1 := eG.trans (hid_mono (q1.trans zl))
        have hW1 : WebAt K C G1 x n ss := (hW.ex eG1).ex hid_ex
        have hl0 : H l = none := ExS.back eG hSG (fresh_back q1 hl)
        have hwk : WkArg K C G1 x (.ref l) True (fun _ => False) := (odd_one (d := .int 5) hW1 hok hz1 fl (.int 5) (.inl rfl) rfl (by decide)).1
        refine ⟨_, rfl, _, rfl, x, .ref l, rfl, hwk, fun G3 p e3 hp0 hp => ?_⟩
        have fl3 := e3 _ _ fl
        have hpl : p ≠ l := (ne_of_none fl hp0).symm
        refine ⟨_, rfl, .inl ⟨rfl, _, SqL.of fl3⟩, l, [V.int 5], _, rfl, rfl, fl3, by show 1 < sizeLine; decide, ?_⟩
        have fl4 : upd G3 l (.lst ([V.int 5] ++ [V.str "late"])) l = some (.lst ([V.int 5] ++ [V.str "late"])) := upd_same
        have fp4 : upd G3 l (.lst ([V.int 5] ++ [V.str "late"])) p = some (.lst [.ref l]) := by rw [upd_ne hpl]; exact hp
        have la := hS.nea hl0
        have lb := hS.neb hl0
        have eG4 : ExS a b H (upd G3 l (.lst ([V.int 5] ++ [V.str "late"]))) := ExS.own (eG1.trans (hid_mono e3)) hl0 la lb
        have hS4 : SAt (upd G3 l (.lst ([V.int 5] ++ [V.str "late"]))) a b mm := (hSG.ex (q1.trans (zl.trans e3))).upd la lb
        generalize upd G3 l (.lst ([V.int 5] ++ [V.str "late"])) = G4 at fl4 fp4 eG4 hS4 ⊢
        refine ⟨_, rfl, by show 2 ≤ sizeLine; decide, fun l2 h2 => ⟨by show 1 ≤ sizeLine; decide, fun l3 h3 => ?_⟩⟩
        have z5 := Ex.new (o := .lst [V.int 5, V.str "late"]) h2
        have f5 : upd G4 l2 (.lst [V.int 5, V.str "late"]) l2 = some (.lst [V.int 5, V.str "late"]) := upd_same
        generalize upd G4 l2 (.lst [V.int 5, V.str "late"]) = G5 at z5 f5 h3 ⊢
        have z6 := Ex.new (o := .lst [V.ref l2]) h3
        have f6 : upd G5 l3 (.lst [V.ref l2]) l3 = some (.lst [V.ref l2]) := upd_same
        generalize upd G5 l3 (.lst [V.ref l2]) = G6 at z6 f6 ⊢
        have lf : ∀ N, Sm K C (WebR K C) G6 (N + 1) (.int 5) (.int 5) := fun N => .inl ⟨rfl, rfl⟩
        have ls : ∀ N, Sm K C (WebR K C) G6 (N + 1) (.str "late") (.str "late") := fun N => .inl ⟨rfl, by decide +kernel⟩
        refine ⟨.ref p, .ref l3, rfl, .inr (.inl ⟨p, l3, [.ref l], [.ref l2], rfl, rfl, SqL.of (z6 _ _ (z5 _ _ fp4)), SqL.of f6, .cons (.inr (.inl ⟨l, l2, _, _, rfl, rfl, SqL.of (z6 _ _ (z5 _ _ fl4)), SqL.of (z6 _ _ f5), .cons (lf _) (.cons (ls _) .nil), by show 2 ≤ 1000000; decide⟩)) .nil, by show 1 ≤ 1000000; decide⟩), fun G7 e7 => ?_⟩
        exact k G7 (eG4.trans (hid_mono (z5.trans (z6.trans e7)))) ((hS4.ex (z5.trans (z6.trans e7))).mono hmm)
end
end AA

set_option Elab.async false
set_option linter.all false
set_option maxRecDepth 100000
set_option maxHeartbeats 4000000
/-! What _law_walk_right leans on: walks read again, cut, and shown. -/
namespace AA
open PySem PySem.Spec PyProof.Rows L2 Evl
/-! ### walks read again -/
theorem lsa_two {i j : Int} {ys : List PyData} (h : LsA [.int i, .int j] ys) : ys = [.int i, .int j] := by
  cases h with
  | cons h1 h =>
    cases h with
    | cons h2 h =>
      cases h
      cases h1
      cases h2
      rfl
theorem ls_items {xs : List PyData} {d : PyData} (h : Ls (.tuple xs) d ∨ Ls (.list xs) d) : LsA xs (itemsD d) ∧ isListD d = true := by
  rcases h with h | h
  · cases h with
    | tl h => exact ⟨h, rfl⟩
    | tt h => exact ⟨h, rfl⟩
  · cases h with
    | ll h => exact ⟨h, rfl⟩
    | lt h => exact ⟨h, rfl⟩
theorem ls_step {n : Int} {s : St5} {d : PyData} (h : Ls (stD s) d) (o : StOk n s) : rdStep n d = some s := by
  obtain ⟨h1, _⟩ := ls_items (.inl (show Ls (.tuple [.int s.one, .int s.other, .tuple [.int s.p, .int s.q], .int s.ticks, .int s.change]) d from h))
  generalize hit : itemsD d = l at h1
  cases h1 with
  | cons a1 h1 =>
    cases h1 with
    | cons a2 h1 =>
      cases h1 with
      | cons a3 h1 =>
        cases h1 with
        | cons a4 h1 =>
          cases h1 with
          | cons a5 h1 =>
            cases h1
            cases a1
            cases a2
            cases a4
            cases a5
            obtain ⟨h2, _⟩ := ls_items (.inl a3)
            rw [rd_at hit (lsa_two h2), if_pos ⟨o.o0, o.o1, o.t0, o.t1, o.k⟩]
theorem ls_steps {n : Int} : ∀ {ws : List St5} {ds : List PyData}, LsA (ws.map stD) ds → (∀ s ∈ ws, StOk n s) → ds.map (rdStep n) = ws.map some
  | [], _, h, _ => by
    cases h
    rfl
  | s :: ws, _, h, o => by
    cases h with
    | cons h1 h2 =>
      rw [List.map_cons, List.map_cons, ls_step h1 (o s List.mem_cons_self), ls_steps h2 fun t ht => o t (List.mem_cons_of_mem _ ht)]
theorem rd_steps {n : Int} : ∀ {ws : List St5}, (∀ s ∈ ws, StOk n s) → (ws.map stD).map (rdStep n) = ws.map some
  | [], _ => rfl
  | s :: ws, o => by
    rw [List.map_cons, List.map_cons, List.map_cons, rd_st (o s List.mem_cons_self), rd_steps fun t ht => o t (List.mem_cons_of_mem _ ht)]
theorem rd_go {n : Int} {ss : List St5} : ∀ {ds : List PyData} {ws acc : List St5}, ds.map (rdStep n) = ws.map some → (∀ s ∈ ws, s ∈ ss) → Chn (acc ++ ws) → rdWalk n ss ds acc = some (acc ++ ws)
  | [], [], acc, _, _, _ => by
    rw [List.append_nil]
    rfl
  | [], _ :: _, _, h, _, _ => by cases h
  | _ :: _, [], _, h, _, _ => by cases h
  | d :: ds, s :: ws, acc, h, hi, hc => by
    rw [List.map_cons, List.map_cons] at h
    injection h with h1 h2
    have e : acc ++ s :: ws = (acc ++ [s]) ++ ws := by simp
    rw [e] at hc ⊢
    have ih := rd_go (acc := acc ++ [s]) h2 (fun t ht => hi t (List.mem_cons_of_mem _ ht)) hc
    have hs : s ∈ ss := hi s List.mem_cons_self
    unfold rdWalk
    rw [h1]
    show (if s ∈ ss then _ else none) = _
    rw [if_pos hs]
    rcases List.eq_nil_or_concat acc with h0 | ⟨r, l, h0⟩
    · subst h0
      exact ih
    · rw [List.concat_eq_append] at h0
      subst h0
      have hl : (r ++ [l]).getLast? = some l := by simp
      rw [hl]
      have key : ∀ (r : List St5), Chn (r ++ [l] ++ [s] ++ ws) → l.other = s.one := by
        intro r
        induction r with
        | nil => exact fun h => h.1
        | cons x r ih =>
          intro h
          cases r with
          | nil => exact ih h.2
          | cons y r => exact ih h.2
      show (if l.other = s.one then _ else none) = _
      rw [if_pos (key r hc)]
      exact ih
theorem chn_tail : ∀ {s : St5} {ws : List St5}, Chn (s :: ws) → Chn ws
  | _, [], _ => trivial
  | _, _ :: _, h => h.2
theorem chn_drop : ∀ {ws : List St5} (i : Nat), Chn ws → Chn (ws.drop i)
  | [], i, _ => by
    rw [List.drop_nil]
    trivial
  | s :: ws, 0, h => h
  | s :: ws, i + 1, h => chn_drop (ws := ws) i (chn_tail h)
theorem chn_take : ∀ {ws : List St5} (i : Nat), Chn ws → Chn (ws.take i)
  | [], i, _ => by
    rw [List.take_nil]
    trivial
  | s :: ws, 0, h => trivial
  | [s], i + 1, h => by
    rw [List.take_succ_cons, List.take_nil]
    trivial
  | s :: t :: ws, 1, h => trivial
  | s :: t :: ws, i + 2, h => ⟨h.1, chn_take (ws := t :: ws) (i + 1) h.2⟩
/-! ### the need of a walk and one behind it -/
theorem can_app : ∀ (us vs : List St5) (st : Int), canGo (us ++ vs) st = (canGo us st && canGo vs (st + (us.map (·.change)).sum))
  | [], vs, st => by simp [canGo]
  | s :: us, vs, st => by
    show (if st + s.change < 0 then false else canGo (us ++ vs) (st + s.change)) = ((if st + s.change < 0 then false else canGo us (st + s.change)) && _)
    rw [List.map_cons, List.sum_cons]
    by_cases h : st + s.change < 0
    · rw [if_pos h, if_pos h]
      rfl
    · rw [if_neg h, if_neg h, can_app us vs]
      have e : st + s.change + (us.map (·.change)).sum = st + (s.change + (us.map (·.change)).sum) := by omega
      rw [e]
theorem can_end : ∀ (us : List St5) (st : Int), 0 ≤ st → canGo us st = true → 0 ≤ st + (us.map (·.change)).sum
  | [], st, h, _ => by
    simp
    exact h
  | s :: us, st, h, g => by
    have g2 : (if st + s.change < 0 then false else canGo us (st + s.change)) = true := g
    by_cases c : st + s.change < 0
    · rw [if_pos c] at g2
      cases g2
    · rw [if_neg c] at g2
      have := can_end us (st + s.change) (by omega) g2
      rw [List.map_cons, List.sum_cons]
      omega
theorem need_split (us vs : List St5) : (needW (us ++ vs)).1 = (if (needW vs).1 - (needW us).2 > (needW us).1 then (needW vs).1 - (needW us).2 else (needW us).1) ∧ (needW (us ++ vs)).2 = (needW us).2 + (needW vs).2 := by
  have hu := need_pos us
  have hv := need_pos vs
  have hw := need_pos (us ++ vs)
  have gu := gain_is us
  have gv := gain_is vs
  refine ⟨?_, ?_⟩
  · have key : ∀ st : Int, 0 ≤ st → ((needW (us ++ vs)).1 ≤ st ↔ ((needW us).1 ≤ st ∧ (needW vs).1 ≤ st + (needW us).2)) := by
      intro st h0
      have a1 := need_go (us ++ vs) h0
      have a2 := need_go us h0
      rw [can_app] at a1
      constructor
      · intro h
        rw [decide_eq_true h, Bool.and_eq_true] at a1
        have b1 := a1.1
        rw [a2, decide_eq_true_eq] at b1
        have b2 := can_end us st h0 a1.1
        have b3 := a1.2
        rw [need_go vs b2, decide_eq_true_eq] at b3
        rw [gu]
        exact ⟨b1, b3⟩
      · rintro ⟨h1, h2⟩
        have b1 : canGo us st = true := by rw [a2]; exact decide_eq_true h1
        have b2 := can_end us st h0 b1
        have b3 : canGo vs (st + (us.map (·.change)).sum) = true := by
          rw [need_go vs b2]
          rw [gu] at h2
          exact decide_eq_true h2
        rw [b1, b3] at a1
        exact of_decide_eq_true a1.symm
    generalize (needW (us ++ vs)).1 = w at key hw ⊢
    generalize (needW us).1 = u at key hu ⊢
    generalize (needW vs).1 = v at key hv ⊢
    generalize (needW us).2 = g at key ⊢
    have k1 := key w hw
    by_cases c : v - g > u
    · rw [if_pos c]
      have k2 := key (v - g) (by omega)
      omega
    · rw [if_neg c]
      have k2 := key u hu
      omega
  · rw [gain_is, gu, gv, List.map_append, List.sum_append]
end AA

set_option Elab.async false
set_option linter.all false
set_option maxRecDepth 100000
set_option maxHeartbeats 4000000
/-! How long a walk is when it is shown. -/
namespace AA
open PySem PySem.Spec PyProof.Rows L2 Evl
mutual
/-- small integers in lists and tuples alone -/
def smD : PyData → Bool
  | .int i => decide (i.natAbs < 1024)
  | .list xs => smDA xs
  | .tuple xs => smDA xs
  | _ => false
def smDA : List PyData → Bool
  | [] => true
  | x :: xs => smD x && smDA xs
end
theorem log_lt {n : Nat} (h : n < 1024) : n.log2 < 10 := by
  by_cases z : n = 0
  · subst z
    decide
  · exact (Nat.log2_lt z).mpr h
mutual
theorem sm_facts : ∀ d : PyData, smD d = true → d.canLay0 = true ∧ d.showable = true ∧ d.hasDict = false ∧ d.intsShort 13 = true ∧ d.weight + 1 ≤ 12 * cnt d
  | .int i, h => by
    have h1 : i.natAbs < 1024 := of_decide_eq_true h
    have h2 := log_lt h1
    refine ⟨rfl, ?_, rfl, ?_, ?_⟩
    · exact decide_eq_true (by omega)
    · exact decide_eq_true (PyData.shown_int_le (Nat.lt_trans h1 (by decide)))
    · show (if i == 0 then 0 else i.natAbs.log2 + 1) + 1 ≤ 12 * 1
      split <;> omega
  | .list xs, h => by
    obtain ⟨h1, h2, h3, h4, h5⟩ := sm_factsA xs h
    refine ⟨h1, h2, h3, h4, ?_⟩
    show PyData.weightAll xs + 1 ≤ 12 * (cntA xs + 1)
    omega
  | .tuple xs, h => by
    obtain ⟨h1, h2, h3, h4, h5⟩ := sm_factsA xs h
    refine ⟨h1, h2, h3, h4, ?_⟩
    show PyData.weightAll xs + 1 ≤ 12 * (cntA xs + 1)
    omega
  | .none, h => by cases h
  | .bool _, h => by cases h
  | .str _, h => by cases h
  | .dict _, h => by cases h
theorem sm_factsA : ∀ ds : List PyData, smDA ds = true → PyData.canLayAll0 ds = true ∧ PyData.showableAll ds = true ∧ PyData.hasDictAll ds = false ∧ PyData.intsShortAll 13 ds = true ∧ PyData.weightAll ds ≤ 12 * cntA ds
  | [], _ => ⟨rfl, rfl, rfl, rfl, Nat.le_refl _⟩
  | d :: ds, h => by
    have h' : (smD d && smDA ds) = true := h
    rw [Bool.and_eq_true] at h'
    obtain ⟨a1, a2, a3, a4, a5⟩ := sm_facts d h'.1
    obtain ⟨b1, b2, b3, b4, b5⟩ := sm_factsA ds h'.2
    have hc := cnt_pos d
    refine ⟨?_, ?_, ?_, ?_, ?_⟩
    · show (PyData.canLay0 d && PyData.canLayAll0 ds) = true
      rw [a1, b1]
      rfl
    · show (PyData.showable d && PyData.showableAll ds) = true
      rw [a2, b2]
      rfl
    · show (PyData.hasDict d || PyData.hasDictAll ds) = false
      rw [a3, b3]
      rfl
    · show (PyData.intsShort 13 d && PyData.intsShortAll 13 ds) = true
      rw [a4, b4]
      rfl
    · show PyData.weight d + 1 + PyData.weightAll ds ≤ 12 * (cnt d + cntA ds)
      omega
end
mutual
theorem ls_keep : ∀ (d d' : PyData), Ls d d' → smD d = true → smD d' = true ∧ cnt d' = cnt d ∧ PyData.depth d' = PyData.depth d
  | .int i, _, h, hs => by
    cases h
    exact ⟨hs, rfl, rfl⟩
  | .list xs, _, h, hs => by
    cases h with
    | ll h =>
      obtain ⟨h1, h2, h3⟩ := lsa_keep xs _ h hs
      refine ⟨h1, ?_, ?_⟩
      · show cntA _ + 1 = cntA xs + 1
        rw [h2]
      · show PyData.depthAll _ + 1 = PyData.depthAll xs + 1
        rw [h3]
    | lt h =>
      obtain ⟨h1, h2, h3⟩ := lsa_keep xs _ h hs
      refine ⟨h1, ?_, ?_⟩
      · show cntA _ + 1 = cntA xs + 1
        rw [h2]
      · show PyData.depthAll _ + 1 = PyData.depthAll xs + 1
        rw [h3]
  | .tuple xs, _, h, hs => by
    cases h with
    | tl h =>
      obtain ⟨h1, h2, h3⟩ := lsa_keep xs _ h hs
      refine ⟨h1, ?_, ?_⟩
      · show cntA _ + 1 = cntA xs + 1
        rw [h2]
      · show PyData.depthAll _ + 1 = PyData.depthAll xs + 1
        rw [h3]
    | tt h =>
      obtain ⟨h1, h2, h3⟩ := lsa_keep xs _ h hs
      refine ⟨h1, ?_, ?_⟩
      · show cntA _ + 1 = cntA xs + 1
        rw [h2]
      · show PyData.depthAll _ + 1 = PyData.depthAll xs + 1
        rw [h3]
  | .none, _, _, hs => by cases hs
  | .bool _, _, _, hs => by cases hs
  | .str _, _, _, hs => by cases hs
  | .dict _, _, _, hs => by cases hs
theorem lsa_keep : ∀ (ds es : List PyData), LsA ds es → smDA ds = true → smDA es = true ∧ cntA es = cntA ds ∧ PyData.depthAll es = PyData.depthAll ds
  | [], _, h, _ => by
    cases h
    exact ⟨rfl, rfl, rfl⟩
  | d :: ds, _, h, hs => by
    cases h with
    | cons h1 h2 =>
      have hs' : (smD d && smDA ds) = true := hs
      rw [Bool.and_eq_true] at hs'
      obtain ⟨a1, a2, a3⟩ := ls_keep d _ h1 hs'.1
      obtain ⟨b1, b2, b3⟩ := lsa_keep ds _ h2 hs'.2
      refine ⟨?_, ?_, ?_⟩
      · show (smD _ && smDA _) = true
        rw [a1, b1]
        rfl
      · show cnt _ + cntA _ = cnt d + cntA ds
        rw [a2, b2]
      · show max (PyData.depth _) (PyData.depthAll _) = max (PyData.depth d) (PyData.depthAll ds)
        rw [a3, b3]
end
/-- a small step, between few places -/
theorem st_sm {n : Int} {s : St5} (hn : n ≤ 100) (o : StOk n s) (m : StSm s) : smD (stD s) = true := by
  have h1 := o.o0
  have h2 := o.o1
  have h3 := o.t0
  have h4 := o.t1
  have h5 := o.k
  have h6 := m.p0
  have h7 := m.p1
  have h8 := m.q0
  have h9 := m.q1
  have h10 := m.k1
  have h11 := m.c0
  have h12 := m.c1
  show (decide (s.one.natAbs < 1024) && (decide (s.other.natAbs < 1024) && ((decide (s.p.natAbs < 1024) && (decide (s.q.natAbs < 1024) && true)) && (decide (s.ticks.natAbs < 1024) && (decide (s.change.natAbs < 1024) && true))))) = true
  rw [decide_eq_true (by omega : s.one.natAbs < 1024), decide_eq_true (by omega : s.other.natAbs < 1024), decide_eq_true (by omega : s.p.natAbs < 1024), decide_eq_true (by omega : s.q.natAbs < 1024), decide_eq_true (by omega : s.ticks.natAbs < 1024), decide_eq_true (by omega : s.change.natAbs < 1024)]
  rfl
theorem sts_sm {n : Int} (hn : n ≤ 100) : ∀ {ws : List St5}, (∀ s ∈ ws, StOk n s ∧ StSm s) → smDA (ws.map stD) = true ∧ cntA (ws.map stD) = 8 * ws.length
  | [], _ => ⟨rfl, rfl⟩
  | s :: ws, h => by
    obtain ⟨h1, h2⟩ := sts_sm hn (ws := ws) fun t ht => h t (List.mem_cons_of_mem _ ht)
    have h3 := h s List.mem_cons_self
    refine ⟨?_, ?_⟩
    · show (smD (stD s) && smDA (ws.map stD)) = true
      rw [st_sm hn h3.1 h3.2, h1]
      rfl
    · show cnt (stD s) + cntA (ws.map stD) = 8 * (ws.length + 1)
      have e : cnt (stD s) = 8 := rfl
      rw [e, h2]
      omega
/-- what repr needs of a walk in any form -/
theorem walk_shown {n : Int} {ws : List St5} {d : PyData} (hn : n ≤ 100) (h : ∀ s ∈ ws, StOk n s ∧ StSm s) (hl : ws.length ≤ 1000) (e : Ls (.list (ws.map stD)) d) : d.showable = true ∧ d.hasDict = false ∧ d.depth ≤ 60 ∧ d.shown.length ≤ sizeLine ∧ isListD d = true ∧ (itemsD d).length = ws.length ∧ dOk (.list (ws.map stD)) = true := by
  obtain ⟨h1, h2⟩ := sts_sm hn h
  obtain ⟨k1, k2, k3⟩ := ls_keep (.list (ws.map stD)) d e h1
  obtain ⟨f1, f2, f3, f4, f5⟩ := sm_facts d k1
  have hc : cnt (.list (ws.map stD)) = 8 * ws.length + 1 := by
    show cntA (ws.map stD) + 1 = _
    rw [h2]
  have hd : PyData.depth (.list (ws.map stD)) ≤ 3 := by
    have := stDs_depth ws
    show PyData.depthAll (ws.map stD) + 1 ≤ 3
    omega
  have hlay : PyData.layable0 d = true := by
    show (PyData.canLay0 d && decide (PyData.depth d ≤ 64) && decide (PyData.weight d ≤ 2 ^ 20)) = true
    have e20 : (2 : Nat) ^ 20 = 1048576 := by decide
    rw [f1, decide_eq_true (by omega : PyData.depth d ≤ 64), decide_eq_true (by omega : PyData.weight d ≤ 2 ^ 20)]
    rfl
  obtain ⟨i1, i2⟩ := ls_items (.inr e)
  have hi : ∀ {xs ys : List PyData}, LsA xs ys → ys.length = xs.length := by
    intro xs
    induction xs with
    | nil =>
      intro ys z
      cases z
      rfl
    | cons x xs ih =>
      intro ys z
      cases z with
      | cons _ z => rw [List.length_cons, List.length_cons, ih z]
  refine ⟨f2, f3, by omega, PyData.shown_fits_of_layable0 (B := 13) (by decide) (by decide) hlay f4, i2, by rw [hi i1, List.length_map], ?_⟩
  have all : ∀ us : List St5, dOkA (us.map stD) = true := by
    intro us
    induction us with
    | nil => rfl
    | cons s us ih =>
      show (dOk (stD s) && dOkA (us.map stD)) = true
      rw [ih]
      rfl
  show (decide ((ws.map stD).length ≤ 1000000) && dOkA (ws.map stD)) = true
  rw [all, decide_eq_true (by rw [List.length_map]; omega)]
  rfl
end AA

set_option Elab.async false
set_option linter.all false
set_option maxRecDepth 100000
set_option maxHeartbeats 4000000
namespace AA
open PySem PySem.Spec PyProof.Rows L2 Evl
/-- f(k = v, ..) alone -/
theorem pe_callK0 {X : Cx} {CX : CXT} {k : Nat} {f : Addr} {fd : FuncData} {ps ks : List Str} {sp : Sp} {E : XK} {x : Str} {p pos : Pos} {kws : List Keyword} {tk : TA} {g : List Value → List Value → List Value} {gV : List V → List V → List V} (F : FnOk X.prog X.w X.K X.mg X.base CX k f fd ps sp) (hr : Room k X.A) (hg : Gl X x) (hm : X.mg x = some (.ref f)) (hk : PySem.W.keepIn X.K (.ref f) = true) (hb : KBinds X.K fd ps ks g gV) (hx : Passes CX X E)
    (hkw : PK X kws tk) (hall : (backToKw pos (keywordEach kws X.env)).all (·.1.isSome) = true := by rfl) (hks : (backToKw pos (keywordEach kws X.env)).filterMap (·.1) = ks := by rfl) (hdb : (x == ("__debug__" : Str)) = false := by decide)
    (hpl : ((backTo pos (starEach [] X.env)).any (·.1) || (backToKw pos (keywordEach kws X.env)).any (·.1.isNone)) = false := by rfl) :
    PE X (.Call (.Name x p) [] kws pos) (fun σ H Q => tk σ H fun zs H2 => sp (gV [] zs) H2 Q E) := ⟨fun pins s σ H Q I h =>
  wpAny_Call_Name_kw (ld_glob I hg hm (PySem.W.callWith_KW0 (h₀ := X.base) I.ok.mod.kin hk hall (thn (hkw.run pos pins s σ H _ I h) fun ws s2 ⟨zs, H2, I2, rz, q2⟩ => ⟨I2.kIn, by
    rw [hks]
    exact run_fnk (us := []) (vs := []) F hr hb hx I2 .nil rz q2⟩) hpl) hdb)⟩
def swap2 : List V → List V → List V := fun vs zs => match vs, zs with
  | [], [a, b] => [b, a]
  | _, _ => []
def swap3 : List Value → List Value → List Value := fun us ws => match us, ws with
  | [], [a, b] => [b, a]
  | _, _ => []
theorem swap_rel {vs : List V} {us : List Value} {zs : List V} {ws : List Value} (h : Vals vs us) (k : Vals zs ws) : Vals (swap2 vs zs) (swap3 us ws) := by
  cases h with
  | cons _ _ => exact .nil
  | nil =>
    cases k with
    | nil => exact .nil
    | cons k1 k =>
      cases k with
      | nil => exact .nil
      | cons k2 k =>
        cases k with
        | nil => exact .cons k2 (.cons k1 .nil)
        | cons _ _ => exact .nil
theorem cut_from (xs : List V) (j : Nat) : cutV xs (some (j : Int)) none = xs.drop j := by
  unfold cutV
  rw [HT.sIx_none, HT.sIx_nat]
  by_cases h : j ≤ xs.length
  · rw [Nat.min_eq_left h, List.take_of_length_le (by rw [List.length_drop]; omega)]
  · rw [Nat.min_eq_right (by omega), Nat.sub_self, List.drop_of_length_le (by omega), List.take_nil]
    exact (List.drop_of_length_le (by omega)).symm
theorem all_sts : ∀ ws : List St5, allIA (ws.map stD) = true
  | [] => rfl
  | s :: ws => by
    show (allI (stD s) && allIA (ws.map stD)) = true
    rw [all_sts ws]
    rfl
/-- a walk of the web's steps, told as it is or with lists for tuples, is read as it is -/
theorem good_walk {K : PySem.W.Frag} {C x : Addr} {H : Hp} {n : Int} {ss ws : List St5} {v : V} {d : PyData} {B : Prop} {G : List St5 → Prop} (hW : WebAt K C H x n ss) (hWb : WbOk n ss) (hz : ss.length ≤ 1000) (hd : Dp K H v d) (hl : isListD d = true) (hr : (itemsD d).map (rdStep n) = ws.map some) (hin : ∀ s ∈ ws, s ∈ ss) (hch : Chn ws) (hwl : ws.length ≤ 1000) (g : G ws) : WkArg K C H x v B G := by
  have hlen : (itemsD d).length = ws.length := by
    have := congrArg List.length hr
    rw [List.length_map, List.length_map] at this
    exact this
  exact ⟨n, ss, hW, hWb.nd, by omega, .inr ⟨d, hd, hl, by omega, .inr ⟨ws, by have := rd_go (acc := []) hr hin (by rw [List.nil_append]; exact hch); rw [List.nil_append] at this; exact this, g⟩⟩⟩
theorem dpa_take {K : PySem.W.Frag} {H : Hp} : ∀ {xs : List V} {ds : List PyData} (j : Nat), DpAll K H xs ds → DpAll K H (xs.take j) (ds.take j)
  | [], _, j, h => by
    cases h
    rw [List.take_nil, List.take_nil]
    exact .nil
  | x :: xs, _, 0, h => .nil
  | x :: xs, _, j + 1, h => by
    cases h with
    | cons h1 h2 => exact .cons h1 (dpa_take j h2)
theorem dpa_drop {K : PySem.W.Frag} {H : Hp} : ∀ {xs : List V} {ds : List PyData} (j : Nat), DpAll K H xs ds → DpAll K H (xs.drop j) (ds.drop j)
  | [], _, j, h => by
    cases h
    rw [List.drop_nil, List.drop_nil]
    exact .nil
  | x :: xs, _, 0, h => h
  | x :: xs, _, j + 1, h => by
    cases h with
    | cons h1 h2 => exact dpa_drop j h2
theorem eqv_pair (i j : Int) : PyData.eqv (.tuple [.int i, .int j]) (.tuple [.int i, .int j]) = true := by
  have : PyData.eqv (.tuple [.int i, .int j]) (.tuple [.int i, .int j]) = ((i == i) && ((j == j) && true)) := rfl
  rw [this]
  simp
section
variable {P : Program} {w : World} {K : PySem.W.Frag} {mg : Str → Option Value} {base : Heap}
/-- need_of where nothing is raised -/
abbrev spNeed0 (K : PySem.W.Frag) (C CB : Addr) : Sp := fun vs H Q _ => spNeed K C CB vs H Q E0
def spWalkRight (K : PySem.W.Frag) (C : Addr) : Sp := fun vs H Q _ => ∃ (a b : Addr) (m : Nat) (x t : Addr) (n : Int) (ss : List St5) (us : List V) (ws : List St5), vs = [.ref a, .ref x, .ref t] ∧ SAt H a b m ∧ m < 800000000 ∧ WebAt K C (hid a b H) x n ss ∧ WbOk n ss ∧ n ≤ 100 ∧ ss.length ≤ 1000 ∧
  hid a b H t = some (.lst us) ∧ DpAll K (tps H) us (ws.map stD) ∧ (∀ s ∈ ws, s ∈ ss) ∧ Chn ws ∧ ws.length ≤ 1000 ∧
  ∀ H', ExS a b H H' → SAt H' a b (m + 10000) → Q (.bl true) H'
theorem scWalkRight : FnScope ["_law_stream_here", "_law_web_here", "_law_walk_here", "_law_due_here", "_law_passed", "_law_was", "_law_at", "_law_one", "_law_other"] ["_law_stream_here", "_law_web_here", "_law_walk_here"] (defScope sWalkRight) := ⟨rfl, rfl, rfl, by decide +kernel, rfl, by decide +kernel, by decide +kernel⟩
theorem ok_walkRight {f fN C CB : Addr} {fd fdN : FuncData} {g : List Value → List Value → List Value} (F : L2.Fun K "_law_walk_right" "_law_walk_right" sWalkRight f fd) (B : Bn mg)
    (GN : FnOk P w K mg base CX0 6 fN fdN ["web", "walk"] (spNeed0 K C CB)) (mN : mg "need_of" = some (.ref fN)) (kN : PySem.W.keepIn K (.ref fN) = true) (bN : KBinds K fdN ["web", "walk"] ["walk", "web"] g swap2)
    (cN : C8.Cal P w K mg base 6 "need_of" (spNeed0 K C CB) []) (cD : C8.Cal P w K mg base 1 "_law_draw" spDraw []) (cU : C8.Cal P w K mg base 2 "_law_due" (spDue K) []) (cL : C8.Cal P w K mg base 8 "_law_loose" (spLoose K 6) []) (cS : C8.Cal P w K mg base 9 "_law_same" (spSame K C (WebR K C) 7) []) :
    GOk P w K mg base 10 f fd ["_law_stream_here", "_law_web_here", "_law_walk_here"] (spWalkRight K C) := by
  refine gok_of F scWalkRight (fun vs H Q E h => ?_) (fun cdv A outer s H vs Q hgd hr h => ?_)
  · obtain ⟨a, b, m, x, t, n, ss, us, ws, rfl, _⟩ := h
    rfl
  · obtain ⟨a, b, m, x, t, n, ss, us, ws, rfl, hS, hm, hW, hWb, hn, hsz, hT, hU, hin, hch, hwl, k⟩ := h
    have hgd2 : (cxOf CX0 P w K mg base ["_law_stream_here", "_law_web_here", "_law_walk_here", "_law_due_here", "_law_passed", "_law_was", "_law_at", "_law_one", "_law_other"] "_law_walk_right" (defScope sWalkRight) f cdv A outer s H E0).A.guards = some [] := hgd
    refine ⟨_, pss_cons (ps_par (i := 3) (j := 4) (by rfl) scWalkRight.nd rfl rfl (by decide) rfl rfl (pa_cons (C8.pe_c cU hr (by decide) (by rfl) (pa_cons (pv 2) pa_nil)) (pa_cons (C8.pe_c cL hr (by decide) (by rfl) (pa_cons (pv 0) (pa_cons (pv 2) pa_nil))) pa_nil)) (by rfl))
      (pss_cons (ps_set (i := 5) scWalkRight.nd rfl (Or.inl rfl) (pe_callB (call_rep hgd2 hr) (by rfl) B.repr boot_repr (pa_cons (pv 4) pa_nil)))
      (pss_cons (ps_if (PW.pt (pw_or (pt_not (pt_val (C8.pe_c cS hr (by decide) (by rfl) (pa_cons (pe_lst (pa_cons (C8.pe_c cN hr (by decide) (by rfl) (pa_cons (pv 1) (pa_cons (pv 4) pa_nil))) (pa_cons (pe_callK0 GN (hr.mono (by decide)) (by rfl) mN kN bN pass0 (pk_cons (pv 2) (pk_cons (pv 1) pk_nil))) pa_nil))) (pa_cons (pe_lst (pa_cons (pv 3) (pa_cons (pv 3) pa_nil))) pa_nil)))))
            (pw_or1 (pt_cmpR op_ne (pe_callB (call_rep hgd2 hr) (by rfl) B.repr boot_repr (pa_cons (pv 4) pa_nil)) (pv 5) (nomark _))))) (pss_one (ps_ret pe_bl)) pss_nil)
      (pss_cons (ps_set (i := 6) scWalkRight.nd rfl (Or.inl rfl) (C8.pe_c cD hr (by decide) (by rfl) (pa_cons (pv 0) (pa_cons (pe_op op_add (pe_callB call_len_seq (by rfl) B.len PySem.boot_len (pa_cons (pv 2) pa_nil)) pe_int) pa_nil))))
      (pss_cons (ps_par (i := 7) (j := 8) (by rfl) scWalkRight.nd rfl rfl (by decide) rfl rfl (pa_cons (C8.pe_c cN hr (by decide) (by rfl) (pa_cons (pv 1) (pa_cons (pe_slice sl_list (pv 2) po_none (po_some (pv 6))) pa_nil))) (pa_cons (C8.pe_c cN hr (by decide) (by rfl) (pa_cons (pv 1) (pa_cons (pe_slice sl_list (pv 2) (po_some (pv 6)) po_none) pa_nil))) pa_nil)) (by rfl))
      (pss_one (ps_ret (pe_cmpR (op_eqD hr.units) (pe_tup (pa_cons (pe_callB (call_max2 (by rfl)) (by rfl) B.max boot_max (pa_cons (pe_ix ix_tup (pv 7) pe_int (fun _ _ => rfl)) (pa_cons (pe_op op_sub (pe_ix ix_tup (pv 8) pe_int (fun _ _ => rfl)) (pe_ix ix_tup (pv 7) pe_int (fun _ _ => rfl))) pa_nil))) (pa_cons (pe_op op_add (pe_ix ix_tup (pv 7) pe_int (fun _ _ => rfl)) (pe_ix ix_tup (pv 8) pe_int (fun _ _ => rfl))) pa_nil))) (pv 3) (nomark _)))))))), ?_⟩
    obtain ⟨hT1, ta, tb⟩ := hid_some hT
    have hok : ∀ s ∈ ws, StOk n s ∧ StSm s := fun s hs => ⟨hWb.ok s (hin s hs), hWb.sm s (hin s hs)⟩
    have hUH : DpAll K H us (ws.map stD) := dpa_ex tps_le _ _ hU
    have hul := sts_len hUH
    have hcn : cnt (.list (ws.map stD)) = 8 * ws.length + 1 := by
      show cntA (ws.map stD) + 1 = _
      rw [(sts_sm hn hok).2]
    have hdp : PyData.depth (.list (ws.map stD)) ≤ 3 := by
      have := stDs_depth ws
      show PyData.depthAll (ws.map stD) + 1 ≤ 3
      omega
    refine ⟨_, rfl, t, us, ws, rfl, hT1, hUH, by omega, fun H1 q e1 hq => ?_⟩
    have hT1' := e1 _ _ hT1
    refine ⟨_, rfl, _, rfl, a, b, m, .ref t, .list (ws.map stD), rfl, hS.ex e1, .lst (SqL.of (by rw [hid_ne ta tb]; exact hT1')) (dpa_ex (tps_in (hS.ex e1)) _ _ (dpa_ex (tps_mono e1) _ _ hU)), all_sts ws, by omega, by omega, by omega, fun H2 v' d' e2 s2 hd' hls => ⟨_, _, rfl, ?_⟩⟩
    obtain ⟨k1, k2, k3, k4, k5, k6, _⟩ := walk_shown hn hok hwl hls
    have hd2 : Dp K H2 v' d' := dp_ex nw_le _ _ hd'
    obtain ⟨p', xs', ds', rfl, _, _⟩ := dp_seq hd2 k5
    have hread : (itemsD d').map (rdStep n) = ws.map some := ls_steps (ls_items (.inr hls)).1 fun s hs => (hok s hs).1
    have eH2 : ExS a b H H2 := (hid_mono e1).trans e2
    have hW2 : WebAt K C H2 x n ss := (hW.ex eH2).ex hid_ex
    have hT2 : H2 t = some (.lst us) := eH2.at hT1 ta tb
    have hU2 : DpAll K (tps H2) us (ws.map stD) := dpa_ex (tps_hid eH2 hS) _ _ hU
    have hq2 : H2 q = some (.tup [.int (needW ws).1, .int (needW ws).2]) := tps_le _ _ (tps_hid e2 (hS.ex e1) _ _ (tps_of hq))
    refine ⟨_, rfl, p', d', rfl, hd2, k1, k2, k3, k4, ?_⟩
    refine ⟨_, rfl, _, rfl, x, .ref p', rfl, good_walk hW2 hWb hsz hd2 k5 hread hin hch hwl fun H3 p3 e3 hp3 => ?_⟩
    refine ⟨_, rfl, _, rfl, x, .ref t, rfl, good_walk (hW2.ex e3) hWb hsz (.lst (SqL.of (e3 _ _ hT2)) (dpa_ex (tps_le.trans e3) _ _ hU2)) rfl (rd_steps fun s hs => (hok s hs).1) hin hch hwl fun H4 p4 e4 hp4 => ?_⟩
    refine ⟨by show 2 ≤ sizeLine; decide, fun l hl => ⟨_, rfl, _, rfl, by show 2 ≤ sizeLine; decide, fun l2 hl2 => ?_⟩⟩
    have y1 := Ex.new (o := .lst [V.ref p3, V.ref p4]) hl
    have f1 : upd H4 l (.lst [V.ref p3, V.ref p4]) l = some (.lst [V.ref p3, V.ref p4]) := upd_same
    generalize upd H4 l (.lst [V.ref p3, V.ref p4]) = H5 at y1 f1 hl2 ⊢
    have y2 := Ex.new (o := .lst [V.ref q, V.ref q]) hl2
    have f2 : upd H5 l2 (.lst [V.ref q, V.ref q]) l2 = some (.lst [V.ref q, V.ref q]) := upd_same
    generalize upd H5 l2 (.lst [V.ref q, V.ref q]) = H6 at y2 f2 ⊢
    have e36 := (e4.trans (y1.trans y2))
    have e26 := e3.trans e36
    have li : ∀ (N : Nat) (i : Int), Sm K C (WebR K C) H6 (N + 1) (.int i) (.int i) := fun N i => .inl ⟨rfl, rfl⟩
    have tq : SqT K H6 q [.int (needW ws).1, .int (needW ws).2] := SqT.of (e26 _ _ hq2)
    have t3 : Sm K C (WebR K C) H6 6 (.ref p3) (.ref q) := .inr (.inr (.inl ⟨p3, q, _, _, rfl, rfl, SqT.of (e36 _ _ hp3), tq, .cons (li _ _) (.cons (li _ _) .nil), by show 2 ≤ 1000000; decide⟩))
    have t4 : Sm K C (WebR K C) H6 6 (.ref p4) (.ref q) := .inr (.inr (.inl ⟨p4, q, _, _, rfl, rfl, SqT.of ((y1.trans y2) _ _ hp4), tq, .cons (li _ _) (.cons (li _ _) .nil), by show 2 ≤ 1000000; decide⟩))
    refine ⟨.ref l, .ref l2, rfl, .inr (.inl ⟨l, l2, _, _, rfl, rfl, SqL.of (y2 _ _ f1), SqL.of f2, .cons t3 (.cons t4 .nil), by show 2 ≤ 1000000; decide⟩), fun H7 e7 => ⟨_, rfl, iteF ?_⟩⟩
    have e27 := e26.trans e7
    refine ⟨_, rfl, p', d', rfl, dp_ex e27 _ _ hd2, k1, k2, k3, k4, _, rfl, rfl, _, rfl, ?_⟩
    rw [decide_eq_true rfl]
    refine iteF ?_
    have hS7 : SAt H7 a b (m + cnt (.list (ws.map stD))) := s2.ex e27
    have hT7 := e27 _ _ hT2
    refine ⟨_, rfl, _, rfl, t, us, rfl, .inl (SqL.of hT7), _, _, rfl, rfl, a, b, _, _, rfl, hS7, by omega, by omega, by omega, fun H8 i e8 s8 i0 i1 => ?_⟩
    obtain ⟨j, rfl⟩ : ∃ j : Nat, i = (j : Int) := ⟨i.toNat, by omega⟩
    have eH7 : ExS a b H H7 := eH2.trans (hid_mono e27)
    have eH8 : ExS a b H H8 := eH7.trans e8
    have hT8 : H8 t = some (.lst us) := eH8.at hT1 ta tb
    have hW8 : WebAt K C H8 x n ss := (hW.ex eH8).ex hid_ex
    have hU8 : DpAll K H8 us (ws.map stD) := dpa_ex tps_le _ _ (dpa_ex (tps_hid eH8 hS) _ _ hU)
    have hq8 : H8 q = some (.tup [.int (needW ws).1, .int (needW ws).2]) := tps_le _ _ (tps_hid e8 hS7 _ _ (tps_of (e27 _ _ hq2)))
    have sub1 : ∀ s ∈ ws.take j, s ∈ ws := fun s hs => List.mem_of_mem_take hs
    have sub2 : ∀ s ∈ ws.drop j, s ∈ ws := fun s hs => List.mem_of_mem_drop hs
    refine ⟨_, rfl, _, rfl, _, rfl, _, rfl, t, us, rfl, SqL.of hT8, fun u hu => ?_⟩
    rw [cut_to]
    have dt : DpAll K H8 (us.take j) ((ws.take j).map stD) := by
      rw [List.map_take]
      exact dpa_take j hU8
    have dd : DpAll K H8 (us.drop j) ((ws.drop j).map stD) := by
      rw [List.map_drop]
      exact dpa_drop j hU8
    have yu := Ex.new (o := .lst (us.take j)) hu
    have fu : upd H8 u (.lst (us.take j)) u = some (.lst (us.take j)) := upd_same
    generalize upd H8 u (.lst (us.take j)) = H9 at yu fu ⊢
    refine ⟨x, .ref u, rfl, good_walk (hW8.ex yu) hWb hsz (.lst (SqL.of fu) (dpa_ex yu _ _ dt)) rfl (rd_steps fun s hs => (hok s (sub1 s hs)).1) (fun s hs => hin s (sub1 s hs)) (chn_take j hch) (by rw [List.length_take]; omega) fun H10 p10 e10 hp10 => ?_⟩
    have eA := yu.trans e10
    refine ⟨_, rfl, _, rfl, _, rfl, _, rfl, t, us, rfl, SqL.of (eA _ _ hT8), fun u2 hu2 => ?_⟩
    rw [cut_from]
    have yu2 := Ex.new (o := .lst (us.drop j)) hu2
    have fu2 : upd H10 u2 (.lst (us.drop j)) u2 = some (.lst (us.drop j)) := upd_same
    generalize upd H10 u2 (.lst (us.drop j)) = H11 at yu2 fu2 ⊢
    have eB := eA.trans yu2
    refine ⟨x, .ref u2, rfl, good_walk (hW8.ex eB) hWb hsz (.lst (SqL.of fu2) (dpa_ex eB _ _ dd)) rfl (rd_steps fun s hs => (hok s (sub2 s hs)).1) (fun s hs => hin s (sub2 s hs)) (chn_drop j hch) (by rw [List.length_drop]; omega) fun H12 p12 e12 hp12 => ⟨_, _, rfl, ?_⟩⟩
    have hp10' : H12 p10 = some (.tup [.int (needW (ws.take j)).1, .int (needW (ws.take j)).2]) := e12 _ _ (yu2 _ _ hp10)
    have hq12 := (eB.trans e12) _ _ hq8
    refine ⟨_, rfl, p10, _, 0, _, rfl, rfl, SqT.of hp10', rfl, _, rfl, p12, _, 0, _, rfl, rfl, SqT.of hp12, rfl, _, rfl, p10, _, 1, _, rfl, rfl, SqT.of hp10', rfl, _, _, rfl, rfl, _, _, rfl, ?_⟩
    obtain ⟨sp1, sp2⟩ := need_split (ws.take j) (ws.drop j)
    rw [List.take_append_drop] at sp1 sp2
    rw [← sp1]
    refine ⟨_, rfl, p10, _, 1, _, rfl, rfl, SqT.of hp10', rfl, _, rfl, p12, _, 1, _, rfl, rfl, SqT.of hp12, rfl, _, _, rfl, rfl, by show 2 ≤ sizeLine; decide, fun tp htp => ?_⟩
    dsimp only
    rw [← sp2]
    have yt := Ex.new (o := .tup [V.int (needW ws).1, V.int (needW ws).2]) htp
    refine ⟨_, rfl, .tuple [.int (needW ws).1, .int (needW ws).2], .tuple [.int (needW ws).1, .int (needW ws).2], .tup (SqT.of upd_same) (.cons (.int _) (.cons (.int _) .nil)), .tup (SqT.of (yt _ _ hq12)) (.cons (.int _) (.cons (.int _) .nil)), rfl, rfl, ?_⟩
    rw [eqv_pair]
    exact k _ (eH8.trans (hid_mono ((eB.trans e12).trans yt))) ((s8.ex ((eB.trans e12).trans yt)).mono (by omega))
end
end AA

set_option Elab.async false
set_option linter.all false
set_option maxRecDepth 100000
set_option maxHeartbeats 4000000
namespace AA
open PySem PySem.Spec PyProof.Rows L2 Evl
theorem sqt_hid {G : Hp} {K : PySem.W.Frag} {a b t : Addr} {m : Nat} {xs : List V} (S : SAt G a b m) (h : SqT K G t xs) : SqT K (hid a b G) t xs := by
  obtain ⟨ns, c1, c2, c3, ha, hb, _⟩ := S
  rcases h with h | h
  · refine .inl ?_
    rcases h with h | ⟨u, h⟩
    · have xa : t ≠ a := fun z => by rw [z, ha] at h; cases h
      have xb : t ≠ b := fun z => by rw [z, hb] at h; cases h
      exact .inl (by rw [hid_ne xa xb]; exact h)
    · have xa : t ≠ a := fun z => by rw [z, ha] at h; cases h
      have xb : t ≠ b := fun z => by rw [z, hb] at h; cases h
      exact .inr ⟨u, by rw [hid_ne xa xb]; exact h⟩
  · exact .inr h
theorem sts_hid {G : Hp} {K : PySem.W.Frag} {a b : Addr} {m : Nat} (S : SAt G a b m) : ∀ {vs : List V} {ss : List St5}, DpAll K G vs (ss.map stD) → DpAll K (hid a b G) vs (ss.map stD)
  | [], [], _ => .nil
  | v :: vs, s :: ss, h => by
    cases h with
    | cons h1 h2 =>
      obtain ⟨t, u, rfl, h3, h4⟩ := stD_inv h1
      exact .cons (stD_mk (sqt_hid S h3) (sqt_hid S h4)) (sts_hid S h2)
  | [], _ :: _, h => by cases h
  | _ :: _, [], h => by cases h
theorem made_ex {H : Hp} {x dx : Addr} {o : HO} (nx : H x = none) (ndx : H dx = none) : Ex H (hid x x (upd (upd H dx (.own x)) x o)) := fun z u h => by
  have h1 : z ≠ x := ne_of_none h nx
  have h2 : z ≠ dx := ne_of_none h ndx
  rw [hid_ne h1 h1, upd_ne h1, upd_ne h2]
  exact h
/-- a walk of these steps stands at p -/
def WalkAt (K : PySem.W.Frag) (ss : List St5) (F : Hp) (p : Addr) : Prop := ∃ (us : List V) (ws : List St5), F p = some (.lst us) ∧ DpAll K (tps F) us (ws.map stD) ∧ (∀ s ∈ ws, s ∈ ss) ∧ Chn ws ∧ ws.length ≤ 1000
theorem WalkAt.ex {K : PySem.W.Frag} {ss : List St5} {F F' : Hp} {p : Addr} (h : WalkAt K ss F p) (e : Ex F F') : WalkAt K ss F' p := by
  obtain ⟨us, ws, h1, h2, h3⟩ := h
  exact ⟨us, ws, e _ _ h1, dpa_ex (tps_mono e) _ _ h2, h3⟩
theorem tps_into {F G : Hp} (e : Ex (tps G) F) : Ex (tps G) (tps F) := fun x o h => by
  obtain ⟨_, xs, rfl⟩ := tps_some h
  exact tps_of (e _ _ h)
section
variable {P : Program} {w : World} {K : PySem.W.Frag} {mg : Str → Option Value} {base : Heap}
def spLaw22 (K : PySem.W.Frag) : Sp := fun vs H Q _ => ∃ (s : Addr) (ns : List Int), vs = [.ref s] ∧ SqL K H s (ns.map V.int) ∧ ns.length ≤ 63 ∧ ∀ H', Q (.bl true) H'
theorem scLaw : FnScope ["_law_script", "_law_stream_here", "_law_turn", "_law_places", "_law_steps", "_law_web_here", "_law_sizes", "_law_walks", "_law_walk_here", "_law_many"] ["_law_script"] (defScope sLaw) := ⟨rfl, rfl, rfl, by decide +kernel, rfl, by decide +kernel, by decide +kernel⟩
theorem ok_law {f fI C : Addr} {fd fdI : FuncData} (F : L2.Fun K "law" "law" sLaw f fd) (B : Bn mg) (T : WebTxt K mg C) (M : Mk K C fI) (GI : FnOk P w K mg base CX0 5 fI fdI ["self", "places", "steps"] (spWebInit K C)) (bI : Binds K fdI ["self", "places", "steps"] [])
    (cS : C8.Cal P w K mg base 1 "_law_stream" (spStream K) []) (cW : C8.Cal P w K mg base 5 "_law_web" (spWeb K) []) (cL : C8.Cal P w K mg base 8 "_law_loose" (spLoose K 6) []) (cK : C8.Cal P w K mg base 3 "_law_walk" (spWalk K) [])
    (cR : C8.Cal P w K mg base 10 "_law_refused_right" (spRefusedRight K C) []) (gW : GCal P w K mg base 10 "_law_walk_right" (spWalkRight K C)) :
    GOk P w K mg base 11 f fd ["_law_script"] (spLaw22 K) := by
  refine gok_of F scLaw (fun vs H Q E h => ?_) (fun cdv A outer s H vs Q hgd hr h => ?_)
  · obtain ⟨s, ns, rfl, _⟩ := h
    rfl
  · obtain ⟨s0, ns, rfl, hS0, hns, k⟩ := h
    have hgd2 : (cxOf CX0 P w K mg base ["_law_script", "_law_stream_here", "_law_turn", "_law_places", "_law_steps", "_law_web_here", "_law_sizes", "_law_walks", "_law_walk_here", "_law_many"] "law" (defScope sLaw) f cdv A outer s H E0).A.guards = some [] := hgd
    refine ⟨_, pss_cons (ps_set (i := 1) scLaw.nd rfl (Or.inr rfl) (C8.pe_c cS hr (by decide) (by rfl) (pa_cons (pv 0) pa_nil)))
      (pss_cons (ps_for (passes_of rfl) rfl (pi_range1 (by rfl) B.range (pa_cons pe_int pa_nil)) (pg_name (i := 2) scLaw.nd rfl (Or.inl rfl))
        (pss_cons (ps_asg (C8.pe_c cW hr (by decide) (by rfl) (pa_cons (pv 1) (pa_cons pe_int (pa_cons pe_int pa_nil)))) (pg_tup (n := 2) rfl (pgs_cons (pg_name (i := 3) scLaw.nd rfl (Or.inl rfl)) (pgs_cons (pg_name (i := 4) scLaw.nd rfl (Or.inr rfl)) pgs_nil))))
        (pss_cons (ps_set (i := 5) scLaw.nd rfl (Or.inl rfl) (pe_make M GI (hr.mono (by decide)) (by rfl) T.mgC bI .nil pass0 (pa_cons (pv 3) (pa_cons (C8.pe_c cL hr (by decide) (by rfl) (pa_cons (pv 1) (pa_cons (pv 4) pa_nil))) pa_nil))))
        (Evl.pss_cut (ps_set (i := 6) scLaw.nd rfl (Or.inl rfl) (pe_ifExp (pt_cmpR (op_neD hr.units) (pv 4) (pe_lst pa_nil) (nomark _)) (pe_lst (pa_cons pe_int (pa_cons pe_int (pa_cons pe_int (pa_cons pe_int (pa_cons (pe_ifExp (pt_cmpR op_gt (pv 2) pe_int (nomark _)) pe_int pe_int) pa_nil)))))) (pe_lst pa_nil)))
        (pss_cons (ps_set (i := 7) scLaw.nd rfl (Or.inl rfl) (pe_op op_cat (pe_lst (pa_cons (pe_lst pa_nil) pa_nil)) (pe_lc (own := [("_law_many", 9)]) (g := gName 9) (tt := tYes) (by rfl) scLaw.nd (pi_list (pv 6)) (blkOk_by (N := ["_law_script", "_law_stream_here", "_law_turn", "_law_places", "_law_steps", "_law_web_here", "_law_sizes", "_law_walks", "_law_walk_here", "_law_many"]) (sc := defScope sLaw) (by decide +kernel))
            (fun _ _ _ _ _ => pg_name (i := 9) scLaw.nd rfl (Or.inl rfl)) (fun _ _ _ _ _ => pts_nil) (fun _ _ _ _ _ => C8.pe_c cK hr (by decide) (by rfl) (pa_cons (pv 1) (pa_cons (pv 4) (pa_cons (pv 9) pa_nil)))))))
        (pss_cons (ps_for (passes_of rfl) rfl (pi_list (pv 7)) (pg_name (i := 8) scLaw.nd rfl (Or.inl rfl))
          (pss_one (ps_if (pt_not (pt_val (pe_g gW hgd2 hr (by decide) (by rfl) (pa_cons (pv 1) (pa_cons (pv 5) (pa_cons (pv 8) pa_nil)))))) (pss_one (ps_ret pe_bl)) pss_nil)))
        (pss_one (ps_if (pt_not (pt_val (C8.pe_c cR hr (by decide) (by rfl) (pa_cons (pv 1) (pa_cons (pv 5) (pa_cons (pv 3) (pa_cons (pv 4) pa_nil))))))) (pss_one (ps_ret pe_bl)) pss_nil))))))))
      (pss_one (ps_ret pe_bl))), ?_⟩
    refine ⟨_, rfl, s0, ns, rfl, hS0, hns, fun H0 a b e0 ha hb hst => ?_⟩
    refine ⟨(6 : Int), rfl, by decide, by decide, for_range (lo := 0) (n := ((6 : Int)).toNat) (fun i σ G => ∃ (x2 x3 x4 x5 x6 x7 x8 : Option V), σ = [some (.ref s0), some (.ref a), x2, x3, x4, x5, x6, x7, x8, none] ∧ ∃ m, m ≤ 100000 * i ∧ SAt G a b m) ?_ ?_ ?_⟩
    · exact ⟨none, none, none, none, none, none, none, rfl, 0, Nat.le_refl _, hst⟩
    · rintro i σ G hi ⟨x2, x3, x4, x5, x6, x7, x8, rfl, m, hm, hSG⟩
      have hi6 : i < 6 := hi
      refine ⟨_, rfl, a, b, m, 6, 14, rfl, hSG, by omega, by decide, by decide, by decide, by decide, fun H1 p l kk vs ss e1 s1 hp0 hl0 hp hl hD hWb hk6 hlen => ?_⟩
      refine ⟨p, _, rfl, SqT.of hp, rfl, _, _, rfl, _, _, rfl, rfl, ?_⟩
      have la := hSG.nea hl0
      have lb := hSG.neb hl0
      have hcn : cnt (.list (ss.map stD)) = 8 * ss.length + 1 := by
        show cntA (ss.map stD) + 1 = _
        rw [(sts_sm (n := kk) (by omega) (fun s hs => ⟨hWb.ok s hs, hWb.sm s hs⟩)).2]
      have hdp : PyData.depth (.list (ss.map stD)) ≤ 3 := by
        have := stDs_depth ss
        show PyData.depthAll (ss.map stD) + 1 ≤ 3
        omega
      refine ⟨_, rfl, _, rfl, _, rfl, a, b, m + 20000, .ref l, .list (ss.map stD), rfl, s1, .lst (SqL.of (by rw [hid_ne la lb]; exact hl)) (dpa_ex (tps_in s1) _ _ hD), all_sts ss, by omega, by omega, by omega, fun H2 v' d' e2 s2 hd' hls => ?_⟩
      refine fun x dx nx ndx nex => ?_
      have me := made_ex (o := .ins C dx []) nx ndx
      obtain ⟨it1, it2⟩ := ls_items (.inr hls)
      refine ⟨x, dx, kk, v', d', ss, rfl, upd_same, hWb.n1, dp_ex (nw_le.trans me) _ _ hd', it2, ls_steps it1 (fun s hs => hWb.ok s hs), hWb.nd, by omega, fun H3 ts dy lw kd ys e3 fx flw0 flw hys hts => ⟨rfl, ?_⟩⟩
      have E3 : Ex H2 H3 := me.trans e3
      have hS3 := s2.ex E3
      rw [hcn] at hS3
      have hWb3 : WbOk kk ts := hWb.perm hts
      have xa := s2.nea nx
      have xb := s2.neb nx
      have lw2 : H2 lw = none := by
        by_cases q1 : lw = x
        · rw [q1]
          exact nx
        · by_cases q2 : lw = dx
          · rw [q2]
            exact ndx
          · rw [upd_ne q1, upd_ne q2] at flw0
            exact flw0
      have lwa := s2.nea lw2
      have lwb := s2.neb lw2
      have hl3 : H3 l = some (.lst vs) := E3 _ _ (e2.at hl la lb)
      have hD3 : DpAll K (tps H3) vs (ss.map stD) := dpa_ex ((tps_hid e2 s1).trans (tps_mono E3)) _ _ hD
      have hW3 : WebAt K C (hid a b H3) x kk ts := ⟨dy, lw, kd, ys, by rw [hid_ne xa xb]; exact fx, by rw [hid_ne lwa lwb]; exact flw, sts_hid hS3 hys⟩
      have hsl : ss.length ≤ 14 := by omega
      have htl := hts.length_eq
      generalize hm3 : m + 20000 + (8 * ss.length + 1) = m3 at hS3
      refine ⟨fun σ G' => ∃ z, σ = [some (.ref s0), some (.ref a), some (.int (0 + (i : Int))), some (.int kk), some (.ref l), some (.ref x), some (.ref z), x7, x8, none] ∧ Ex H3 G' ∧ H3 z = none ∧ ∃ zs : List Nat, G' z = some (.lst (zs.map fun j : Nat => V.int (j : Int))) ∧ (∀ j ∈ zs, j ≤ 200) ∧ zs.length ≤ 5, ?_, ?_⟩
      · refine ⟨_, rfl, Nat.zero_le _, fun L hL => ?_⟩
        have zL := Ex.new (o := .lst []) hL
        refine ⟨.list (ss.map stD), .list [], .lst (SqL.of (zL _ _ hl3)) (dpa_ex (tps_le.trans zL) _ _ hD3), .lst (SqL.of upd_same) .nil, stDs_shaped ss, rfl, _, rfl, ?_⟩
        rw [eqv_sts_nil]
        cases ss.isEmpty with
        | true =>
          refine iteF ?_
          exact ⟨Nat.zero_le _, fun z hz => ⟨z, rfl, zL.trans (Ex.new hz), fresh_back zL hz, [], upd_same, fun j h => absurd h (by simp), Nat.zero_le _⟩⟩
        | false =>
          refine iteT ?_
          refine ⟨_, rfl, _, _, rfl, rfl, _, rfl, ?_⟩
          refine dec_ite (fun _ => ?_) (fun _ => ?_)
          · exact ⟨by show 5 ≤ sizeLine; decide, fun z hz => ⟨z, rfl, zL.trans (Ex.new hz), fresh_back zL hz, [1, 2, 5, 12, 40], upd_same, by decide, by decide⟩⟩
          · exact ⟨by show 5 ≤ sizeLine; decide, fun z hz => ⟨z, rfl, zL.trans (Ex.new hz), fresh_back zL hz, [1, 2, 5, 12, 200], upd_same, by decide, by decide⟩⟩
      · rintro σ G' ⟨z, rfl, eG', z3, zs, hz, hzs, hzl⟩
        have hSG' := hS3.ex eG'
        have hmb : m3 ≤ 100000 * i + 21000 := by omega
        refine ⟨Nat.zero_le _, fun w0 hw0 => ⟨by show 1 ≤ sizeLine; decide, fun w1 hw1 => ?_⟩⟩
        have y1 := Ex.new (o := .lst []) hw0
        have f1 : upd G' w0 (.lst []) w0 = some (.lst []) := upd_same
        generalize upd G' w0 (.lst []) = K1 at y1 f1 hw1 ⊢
        have y2 := Ex.new (o := .lst [V.ref w0]) hw1
        have f2 : upd K1 w1 (.lst [V.ref w0]) w1 = some (.lst [V.ref w0]) := upd_same
        generalize upd K1 w1 (.lst [V.ref w0]) = K2 at y2 f2 ⊢
        have e32 : Ex H3 K2 := eG'.trans (y1.trans y2)
        have hSK : SAt K2 a b m3 := hS3.ex e32
        have w0a := hSG'.nea hw0
        have w0b := hSG'.neb hw0
        have w1n : G' w1 = none := fresh_back y1 hw1
        have w1a := hSG'.nea w1n
        have w1b := hSG'.neb w1n
        refine ⟨_, rfl, z, rfl, ⟨_, SqL.of ((y1.trans y2) _ _ hz)⟩, fun D hDn => ?_⟩
        have Da := hSK.nea hDn
        have Db := hSK.neb hDn
        have za := hS3.nea z3
        have zb := hS3.neb z3
        have lD : l ≠ D := ne_of_none (e32 _ _ hl3) hDn
        refine lc_list (xs := zs.map fun j : Nat => V.int (j : Int)) (fun j G => ExS a b K2 G ∧ SAt G a b (m3 + 200 * j) ∧ ∃ acc : List V, G D = some (.lst acc) ∧ (∀ w ∈ acc, ∃ p, w = .ref p ∧ WalkAt K ss (hid D D (hid a b G)) p) ∧ acc.length ≤ j)
          ⟨ExS.own ExS.rfl hDn Da Db, hSK.upd Da Db, [], upd_same, fun w h => absurd h (by simp), Nat.le_refl _⟩ (fun j G _ q => SqL.of (q.1.at ((y1.trans y2) _ _ hz) za zb)) ?_ ?_
        · rintro j y G hy ⟨r1, r2, acc, r3, r4, r5⟩
          obtain ⟨jn, hj, rfl⟩ : ∃ jn : Nat, zs[j]? = some jn ∧ y = V.int (jn : Int) := by
            rw [List.getElem?_map] at hy
            cases q : zs[j]? with
            | none =>
              rw [q] at hy
              cases hy
            | some jn =>
              rw [q] at hy
              exact ⟨jn, rfl, (Option.some.inj hy).symm⟩
          have hj2 := hzs jn (mem_of_get hj)
          have hj5 := (List.getElem?_eq_some_iff.mp hj).1
          have hDG : DpAll K (tps G) vs (ss.map stD) := dpa_ex ((tps_mono e32).trans (tps_hid r1 hSK)) _ _ hD3
          have hlG : G l = some (.lst vs) := r1.at (e32 _ _ hl3) la lb
          refine ⟨rfl, _, rfl, _, rfl, _, rfl, a, b, m3 + 200 * j, l, vs, ss, jn, rfl, r2, by omega, by omega, by rw [hid_ne la lb]; exact hlG, hDG, by omega, fun G2 p us ws e s hp0 hp hus hin hch hwl => ?_⟩
          have fD : G2 D = some (.lst acc) := e.at r3 Da Db
          have pD : p ≠ D := (ne_of_none r3 hp0).symm
          have pa := r2.nea hp0
          have pb := r2.neb hp0
          have tD : Ex (tps G2) (hid D D (hid a b G2)) := fun y o h => by
            obtain ⟨h1, xs, rfl⟩ := tps_some h
            have yD : y ≠ D := fun q => by
              rw [q, fD] at h1
              cases h1
            rw [hid_ne yD yD]
            exact tps_in s _ _ h
          refine ⟨acc, fD, sz_m (by omega), ExS.own (r1.trans e) hDn Da Db, ((s.upd Da Db).mono (by omega)), _, upd_same, fun w hw => ?_, by rw [List.length_append]; exact Nat.succ_le_succ r5⟩
          rw [hid_upd Da Db, hid_upda]
          rcases List.mem_append.mp hw with hw | hw
          · obtain ⟨p', rfl, h⟩ := r4 w hw
            exact ⟨p', rfl, h.ex (hid_mono e)⟩
          · rw [List.mem_singleton] at hw
            subst hw
            exact ⟨p, rfl, us, ws, by rw [hid_ne pD pD, hid_ne pa pb]; exact hp, dpa_ex (tps_into tD) _ _ hus, hin, hch, by omega⟩
        · rintro G ⟨r1, r2, acc, r3, r4, r5⟩
          rw [List.length_map] at r2 r5
          have f2G : G w1 = some (.lst [V.ref w0]) := r1.at f2 w1a w1b
          refine ⟨w1, D, [V.ref w0], acc, rfl, rfl, f2G, r3, sz_le (by show 1 + acc.length ≤ 1000000; omega), fun Wl hWl => ?_⟩
          have y3 := Ex.new (o := .lst ([V.ref w0] ++ acc)) hWl
          have f3 : upd G Wl (.lst ([V.ref w0] ++ acc)) Wl = some (.lst ([V.ref w0] ++ acc)) := upd_same
          generalize upd G Wl (.lst ([V.ref w0] ++ acc)) = G4 at y3 f3 ⊢
          have eG4 : ExS a b H3 G4 := (hid_mono e32).trans (r1.trans (hid_mono y3))
          have hS4 : SAt G4 a b (m3 + 200 * zs.length) := r2.ex y3
          have wlk : ∀ y ∈ [V.ref w0] ++ acc, ∃ p, y = .ref p ∧ WalkAt K ss (hid a b G4) p := fun y hy => by
            rcases List.mem_append.mp hy with hy | hy
            · rw [List.mem_singleton] at hy
              subst hy
              exact ⟨w0, rfl, [], [], by rw [hid_ne w0a w0b]; exact y3 _ _ (r1.at (y2 _ _ f1) w0a w0b), .nil, fun s h => absurd h (by simp), trivial, Nat.zero_le _⟩
            · obtain ⟨p, rfl, h⟩ := r4 y hy
              exact ⟨p, rfl, (h.ex hid_ex).ex (hid_mono y3)⟩
          have Wla := r2.nea hWl
          have Wlb := r2.neb hWl
          have hxl : ([V.ref w0] ++ acc).length ≤ 6 := by
            rw [List.length_append, List.length_singleton]
            omega
          generalize hxs : [V.ref w0] ++ acc = xs at f3 wlk hxl ⊢
          refine ⟨_, rfl, Wl, rfl, ⟨_, SqL.of f3⟩, for_list (K := K) (a := Wl) (xs := xs) (fun j σ G5 => ∃ x8' : Option V, σ = [some (.ref s0), some (.ref a), some (.int (0 + (i : Int))), some (.int kk), some (.ref l), some (.ref x), some (.ref z), some (.ref Wl), x8', none] ∧ ExS a b G4 G5 ∧ SAt G5 a b (m3 + 1000 + 10000 * j))
            ⟨x8, rfl, ExS.rfl, hS4.mono (by omega)⟩ (fun j σ G5 _ ⟨_, _, e, _⟩ => SqL.of (e.at f3 Wla Wlb)) ?_ ?_⟩
          · rintro j y σ G5 hy ⟨x8', rfl, q1, q2⟩
            obtain ⟨p, rfl, us, ws, g1, g2, g3, g4, g5⟩ := wlk y (mem_of_get hy)
            have hj := (List.getElem?_eq_some_iff.mp hy).1
            refine ⟨_, rfl, _, rfl, _, rfl, a, b, _, x, p, kk, ts, us, ws, rfl, q2, by omega, hW3.ex (eG4.trans q1), hWb3, by omega, by omega, q1 _ _ g1, dpa_ex ((tps_mono q1).trans (tps_mono hid_ex)) _ _ g2, fun s hs => hts.mem_iff.mpr (g3 s hs), g4, g5, fun H' e s => ⟨_, rfl, iteF ?_⟩⟩
            exact ⟨_, rfl, q1.trans e, s.mono (by omega)⟩
          · rintro σ G5 ⟨x8', rfl, q1, q2⟩
            have e35 : ExS a b H3 G5 := eG4.trans q1
            refine ⟨_, rfl, _, rfl, _, rfl, _, rfl, a, b, _, x, l, kk, vs, ts, rfl, q2, by omega, hW3.ex e35, by rw [hid_ne la lb]; exact e35.at hl3 la lb, ⟨ss, dpa_ex (tps_hid e35 hS3) _ _ hD3, hts.symm⟩, hWb3, by omega, fun H' e s => ⟨_, rfl, iteF ?_⟩⟩
            exact ⟨_, _, _, _, _, _, _, rfl, _, by omega, s⟩
    · rintro σ G ⟨x2, x3, x4, x5, x6, x7, x8, rfl, m, hm, hSG⟩
      exact k G
end
end AA

set_option Elab.async false
set_option linter.all false
set_option maxRecDepth 100000
set_option maxHeartbeats 4000000
namespace AA
open PySem PySem.Spec PyProof.Rows L2 Evl
/-- a def of the module as it stands behind the top -/
structure GFn (K : PySem.W.Frag) (x : Str) (st : Stmt) (f : Addr) (fd : FuncData) : Prop where
  a : PySem.W.nsIn K mainGlobals x = some (some (.ref f))
  F : L2.Fun K x x st f fd
theorem gfn {K : PySem.W.Frag} {x : Str} {st : Stmt} {f : Addr} {oc : Value} {od an : Option Addr} {osl : Array (Option Value)} {kV doc pm cdv ct : Value} (a : PySem.W.nsIn K mainGlobals x = some (some (.ref f)))
    (l : K.lookup f = some ⟨oc, od, .func (PySem.W.fnOf x x (defArgs st) (defBody st) (defScope st) .none kV doc pm an cdv ct), osl⟩) (c : PySem.W.codeIn K cdv x = true) (k : PySem.W.keepIn K (.ref f) = true) : ∃ f fd, GFn K x st f fd := ⟨_, _, a, fun_mk (st := st) l c k⟩
theorem gfnc {K : PySem.W.Frag} {x : Str} {st : Stmt} {f : Addr} {od an : Option Addr} {osl : Array (Option Value)} {kV doc pm cdv ct : Value} (a : PySem.W.nsIn K mainGlobals x = some (some (.ref f)))
    (l : K.lookup f = some ⟨.type "function", od, .func (PySem.W.fnOf x x (defArgs st) (defBody st) (defScope st) .none kV doc pm an cdv ct), osl⟩) (c : PySem.W.codeIn K cdv x = true) (k : PySem.W.keepIn K (.ref f) = true) : ∃ f fd, GFn K x st f fd ∧ ∃ o, K.lookup f = some o ∧ o.cls = .type "function" := ⟨_, _, ⟨a, fun_mk (st := st) l c k⟩, _, l, rfl⟩
structure MFn (K : PySem.W.Frag) (C : Addr) (x q : Str) (st : Stmt) (f : Addr) (fd : FuncData) : Prop where
  a : PySem.W.findIn K (.ref C) x = some (some (.ref f))
  i : PySem.W.isFn K (.ref f) = true
  F : L2.Fun K x q st f fd
theorem mfn {K : PySem.W.Frag} {C : Addr} {x q : Str} {st : Stmt} {f : Addr} {oc : Value} {od an : Option Addr} {osl : Array (Option Value)} {kV doc pm cdv ct : Value} (a : PySem.W.findIn K (.ref C) x = some (some (.ref f))) (i : PySem.W.isFn K (.ref f) = true)
    (l : K.lookup f = some ⟨oc, od, .func (PySem.W.fnOf x q (defArgs st) (defBody st) (defScope st) .none kV doc pm an cdv ct), osl⟩) (c : PySem.W.codeIn K cdv q = true) (k : PySem.W.keepIn K (.ref f) = true) : ∃ f fd, MFn K C x q st f fd := ⟨_, _, a, i, fun_mk (st := st) l c k⟩
structure BnK (K : PySem.W.Frag) : Prop where
  abs : PySem.W.nsIn K mainGlobals "abs" = some none
  int : PySem.W.nsIn K mainGlobals "int" = some none
  len : PySem.W.nsIn K mainGlobals "len" = some none
  list : PySem.W.nsIn K mainGlobals "list" = some none
  tuple : PySem.W.nsIn K mainGlobals "tuple" = some none
  dict : PySem.W.nsIn K mainGlobals "dict" = some none
  bool : PySem.W.nsIn K mainGlobals "bool" = some none
  range : PySem.W.nsIn K mainGlobals "range" = some none
  enumerate : PySem.W.nsIn K mainGlobals "enumerate" = some none
  isinstance : PySem.W.nsIn K mainGlobals "isinstance" = some none
  all : PySem.W.nsIn K mainGlobals "all" = some none
  zip : PySem.W.nsIn K mainGlobals "zip" = some none
  sorted : PySem.W.nsIn K mainGlobals "sorted" = some none
  max : PySem.W.nsIn K mainGlobals "max" = some none
  sum : PySem.W.nsIn K mainGlobals "sum" = some none
  repr : PySem.W.nsIn K mainGlobals "repr" = some none
structure ClsK (K : PySem.W.Frag) (C : Addr) : Prop where
  aC : PySem.W.nsIn K mainGlobals "Web" = some (some (.ref C))
  pg : PySem.W.plainGet K C Str.empty = true
  hd : PySem.W.hasDictIn K C = true
  po : PySem.W.plainOver K C = true
  sa : PySem.W.findIn K (.ref C) "__setattr__" = some (some (.builtin "object.__setattr__"))
  mkc : PySem.W.makesIn K C = true
  kc : PySem.W.keepIn K (.ref C) = true
  nP : PySem.W.findIn K (.ref C) "_places" = some none
  nS : PySem.W.findIn K (.ref C) "_steps" = some none
  nK : PySem.W.findIn K (.ref C) "known" = some none
  ha : PySem.W.findIn K (.ref C) "__class__" = some (some (.builtin "object.__class__"))
  hn : PySem.W.specialIn K (.builtin "object.__class__") "__get__" = some (some (.builtin "getset_descriptor.__get__"))
  ht : PySem.W.takesIn K (.builtin "object.__class__") = some true
  hm : PySem.W.mroIn K C (.type "object") = some true
  n1 : PySem.W.kitAny K (.ref C) [.type "list", .type "tuple"] = some false
  n2 : PySem.W.kitOne K (.ref C) (.type "dict") = some false
  n3 : PySem.W.kitOne K (.ref C) (.type "bool") = some false
  n4 : PySem.W.kitAny K (.ref C) [.type "list", .type "tuple", .type "dict"] = some false
  cc : PySem.W.kitOne K (.ref C) (.ref C) = some true
structure BadK (K : PySem.W.Frag) (CB fI : Addr) : Prop where
  gC : PySem.W.nsIn K mainGlobals "BadWalk" = some (some (.ref CB))
  ox : OexC K CB
  xf : XfC K CB
  no : PySem.W.findIn K (.ref CB) "walk" = some none
  tC : PySem.W.typeIn K (.ref fI) = some (.type "function")
  te : PySem.W.exmOne K (.ref CB) (.ref CB) = some true
theorem all_mk {l : PySem.W.OpenLaw} {w : World} {K : PySem.W.Frag} {h : Heap} {mg : Str → Option Value} {fa C CB : Addr} (X : K.In h) (G : h.Ns mainGlobals mg) (hfa : mg "law" = some (.ref fa))
    (bk : BnK K) (ck : ClsK K C)
    (hsIsInteger : ∃ f fd, GFn K "is_integer" sIsInteger f fd)
    (hsIsList : ∃ f fd, GFn K "is_list" sIsList f fd)
    (hsNeedSum : ∃ f fd, GFn K "need_and_sum" sNeedSum f fd)
    (hsNeedGain : ∃ f fd, GFn K "need_and_gain" sNeedGain f fd)
    (hsReadStep : ∃ f fd, GFn K "read_step" sReadStep f fd)
    (hsReadSteps : ∃ f fd, GFn K "read_steps" sReadSteps f fd)
    (hsReadWalk : ∃ f fd, GFn K "read_walk" sReadWalk f fd)
    (hsCheckedWalk : ∃ f fd, GFn K "checked_walk" sCheckedWalk f fd)
    (hsNeedOf : ∃ f fd, GFn K "need_of" sNeedOf f fd)
    (hsStream : ∃ f fd, GFn K "_law_stream" sStream f fd)
    (hsDraw : ∃ f fd, GFn K "_law_draw" sDraw f fd)
    (hsPick : ∃ f fd, GFn K "_law_pick" sPick f fd ∧ ∃ o, K.lookup f = some o ∧ o.cls = .type "function")
    (hsMixed : ∃ f fd, GFn K "_law_mixed" sMixed f fd)
    (hsSame : ∃ f fd, GFn K "_law_same" sSame f fd)
    (hsLoose : ∃ f fd, GFn K "_law_loose" sLoose f fd)
    (hsAmounts : ∃ f fd, GFn K "_law_amounts" sAmounts f fd)
    (hsStep : ∃ f fd, GFn K "_law_step" sStep f fd)
    (hsWeb : ∃ f fd, GFn K "_law_web" sWeb f fd)
    (hsWalk : ∃ f fd, GFn K "_law_walk" sWalk f fd)
    (hsCanGo : ∃ f fd, GFn K "_law_can_go" sCanGo f fd)
    (hsDue : ∃ f fd, GFn K "_law_due" sDue f fd)
    (hsRefused : ∃ f fd, GFn K "_law_refused" sRefused f fd)
    (hsWalkRight : ∃ f fd, GFn K "_law_walk_right" sWalkRight f fd)
    (hsRefusedRight : ∃ f fd, GFn K "_law_refused_right" sRefusedRight f fd)
    (hsLaw : ∃ f fd, GFn K "law" sLaw f fd)
    (hsWebInit : ∃ f fd, MFn K C "__init__" "Web.__init__" sWebInit f fd)
    (hsWebPlaces : ∃ f fd, MFn K C "places" "Web.places" sWebPlaces f fd)
    (hsWebSteps : ∃ f fd, MFn K C "steps" "Web.steps" sWebSteps f fd)
    (hsWebEq : ∃ f fd, MFn K C "__eq__" "Web.__eq__" sWebEq f fd)
    (hBad : ∃ f fd, MFn K CB "__init__" "BadWalk.__init__" sBadInit f fd ∧ BadK K CB f) :
    ∃ fd : FuncData, (∀ (s : Shared) (v : Value), BindsTo s fd ⟨[v], []⟩ [("_law_script", v)]) ∧ ∀ base : Heap, K.In base → base.Ns mainGlobals mg → GOk l.prog w K mg base 11 fa fd ["_law_script"] (spLaw22 K) := by
  obtain ⟨f_sIsInteger, d_sIsInteger, g_sIsInteger⟩ := hsIsInteger
  have m_sIsInteger := PySem.W.mg_of X G g_sIsInteger.a
  have b_sIsInteger : Binds K d_sIsInteger ["thing"] [] := g_sIsInteger.F.binds fun _ _ _ _ _ _ us hl => match us, hl with | [_], _ => rfl
  obtain ⟨f_sIsList, d_sIsList, g_sIsList⟩ := hsIsList
  have m_sIsList := PySem.W.mg_of X G g_sIsList.a
  have b_sIsList : Binds K d_sIsList ["thing"] [] := g_sIsList.F.binds fun _ _ _ _ _ _ us hl => match us, hl with | [_], _ => rfl
  obtain ⟨f_sNeedSum, d_sNeedSum, g_sNeedSum⟩ := hsNeedSum
  have m_sNeedSum := PySem.W.mg_of X G g_sNeedSum.a
  have b_sNeedSum : Binds K d_sNeedSum ["changes"] [] := g_sNeedSum.F.binds fun _ _ _ _ _ _ us hl => match us, hl with | [_], _ => rfl
  obtain ⟨f_sNeedGain, d_sNeedGain, g_sNeedGain⟩ := hsNeedGain
  have m_sNeedGain := PySem.W.mg_of X G g_sNeedGain.a
  have b_sNeedGain : Binds K d_sNeedGain ["walk"] [] := g_sNeedGain.F.binds fun _ _ _ _ _ _ us hl => match us, hl with | [_], _ => rfl
  obtain ⟨f_sReadStep, d_sReadStep, g_sReadStep⟩ := hsReadStep
  have m_sReadStep := PySem.W.mg_of X G g_sReadStep.a
  have b_sReadStep : Binds K d_sReadStep ["places", "thing"] [] := g_sReadStep.F.binds fun _ _ _ _ _ _ us hl => match us, hl with | [_, _], _ => rfl
  obtain ⟨f_sReadSteps, d_sReadSteps, g_sReadSteps⟩ := hsReadSteps
  have m_sReadSteps := PySem.W.mg_of X G g_sReadSteps.a
  have b_sReadSteps : Binds K d_sReadSteps ["places", "things"] [] := g_sReadSteps.F.binds fun _ _ _ _ _ _ us hl => match us, hl with | [_, _], _ => rfl
  obtain ⟨f_sReadWalk, d_sReadWalk, g_sReadWalk⟩ := hsReadWalk
  have m_sReadWalk := PySem.W.mg_of X G g_sReadWalk.a
  have b_sReadWalk : Binds K d_sReadWalk ["web", "thing"] [] := g_sReadWalk.F.binds fun _ _ _ _ _ _ us hl => match us, hl with | [_, _], _ => rfl
  obtain ⟨f_sCheckedWalk, d_sCheckedWalk, g_sCheckedWalk⟩ := hsCheckedWalk
  have m_sCheckedWalk := PySem.W.mg_of X G g_sCheckedWalk.a
  have b_sCheckedWalk : Binds K d_sCheckedWalk ["web", "thing"] [] := g_sCheckedWalk.F.binds fun _ _ _ _ _ _ us hl => match us, hl with | [_, _], _ => rfl
  obtain ⟨f_sNeedOf, d_sNeedOf, g_sNeedOf⟩ := hsNeedOf
  have m_sNeedOf := PySem.W.mg_of X G g_sNeedOf.a
  have b_sNeedOf : Binds K d_sNeedOf ["web", "walk"] [] := g_sNeedOf.F.binds fun _ _ _ _ _ _ us hl => match us, hl with | [_, _], _ => rfl
  obtain ⟨f_sStream, d_sStream, g_sStream⟩ := hsStream
  have m_sStream := PySem.W.mg_of X G g_sStream.a
  have b_sStream : Binds K d_sStream ["_law_script"] [] := g_sStream.F.binds fun _ _ _ _ _ _ us hl => match us, hl with | [_], _ => rfl
  obtain ⟨f_sDraw, d_sDraw, g_sDraw⟩ := hsDraw
  have m_sDraw := PySem.W.mg_of X G g_sDraw.a
  have b_sDraw : Binds K d_sDraw ["_law_stream_here", "_law_many"] [] := g_sDraw.F.binds fun _ _ _ _ _ _ us hl => match us, hl with | [_, _], _ => rfl
  obtain ⟨f_sPick, d_sPick, g_sPick, oP, lkP, tP⟩ := hsPick
  have m_sPick := PySem.W.mg_of X G g_sPick.a
  have b_sPick : Binds K d_sPick ["_law_stream_here", "_law_things"] [] := g_sPick.F.binds fun _ _ _ _ _ _ us hl => match us, hl with | [_, _], _ => rfl
  obtain ⟨f_sMixed, d_sMixed, g_sMixed⟩ := hsMixed
  have m_sMixed := PySem.W.mg_of X G g_sMixed.a
  have b_sMixed : Binds K d_sMixed ["_law_stream_here", "_law_things"] [] := g_sMixed.F.binds fun _ _ _ _ _ _ us hl => match us, hl with | [_, _], _ => rfl
  obtain ⟨f_sSame, d_sSame, g_sSame⟩ := hsSame
  have m_sSame := PySem.W.mg_of X G g_sSame.a
  have b_sSame : Binds K d_sSame ["_law_found", "_law_due_here"] [] := g_sSame.F.binds fun _ _ _ _ _ _ us hl => match us, hl with | [_, _], _ => rfl
  obtain ⟨f_sLoose, d_sLoose, g_sLoose⟩ := hsLoose
  have m_sLoose := PySem.W.mg_of X G g_sLoose.a
  have b_sLoose : Binds K d_sLoose ["_law_stream_here", "_law_thing"] [] := g_sLoose.F.binds fun _ _ _ _ _ _ us hl => match us, hl with | [_, _], _ => rfl
  obtain ⟨f_sAmounts, d_sAmounts, g_sAmounts⟩ := hsAmounts
  have m_sAmounts := PySem.W.mg_of X G g_sAmounts.a
  have b_sAmounts : Binds K d_sAmounts ["_law_stream_here", "_law_way"] [] := g_sAmounts.F.binds fun _ _ _ _ _ _ us hl => match us, hl with | [_, _], _ => rfl
  obtain ⟨f_sStep, d_sStep, g_sStep⟩ := hsStep
  have m_sStep := PySem.W.mg_of X G g_sStep.a
  have b_sStep : Binds K d_sStep ["_law_stream_here", "_law_one", "_law_other", "_law_way"] [] := g_sStep.F.binds fun _ _ _ _ _ _ us hl => match us, hl with | [_, _, _, _], _ => rfl
  obtain ⟨f_sWeb, d_sWeb, g_sWeb⟩ := hsWeb
  have m_sWeb := PySem.W.mg_of X G g_sWeb.a
  have b_sWeb : Binds K d_sWeb ["_law_stream_here", "_law_most", "_law_many"] [] := g_sWeb.F.binds fun _ _ _ _ _ _ us hl => match us, hl with | [_, _, _], _ => rfl
  obtain ⟨f_sWalk, d_sWalk, g_sWalk⟩ := hsWalk
  have m_sWalk := PySem.W.mg_of X G g_sWalk.a
  have b_sWalk : Binds K d_sWalk ["_law_stream_here", "_law_steps", "_law_many"] [] := g_sWalk.F.binds fun _ _ _ _ _ _ us hl => match us, hl with | [_, _, _], _ => rfl
  obtain ⟨f_sCanGo, d_sCanGo, g_sCanGo⟩ := hsCanGo
  have m_sCanGo := PySem.W.mg_of X G g_sCanGo.a
  have b_sCanGo : Binds K d_sCanGo ["_law_walk_here", "_law_stock"] [] := g_sCanGo.F.binds fun _ _ _ _ _ _ us hl => match us, hl with | [_, _], _ => rfl
  obtain ⟨f_sDue, d_sDue, g_sDue⟩ := hsDue
  have m_sDue := PySem.W.mg_of X G g_sDue.a
  have b_sDue : Binds K d_sDue ["_law_walk_here"] [] := g_sDue.F.binds fun _ _ _ _ _ _ us hl => match us, hl with | [_], _ => rfl
  obtain ⟨f_sRefused, d_sRefused, g_sRefused⟩ := hsRefused
  have m_sRefused := PySem.W.mg_of X G g_sRefused.a
  have b_sRefused : Binds K d_sRefused ["_law_web_here", "_law_thing"] [] := g_sRefused.F.binds fun _ _ _ _ _ _ us hl => match us, hl with | [_, _], _ => rfl
  obtain ⟨f_sWalkRight, d_sWalkRight, g_sWalkRight⟩ := hsWalkRight
  have m_sWalkRight := PySem.W.mg_of X G g_sWalkRight.a
  have b_sWalkRight : Binds K d_sWalkRight ["_law_stream_here", "_law_web_here", "_law_walk_here"] [] := g_sWalkRight.F.binds fun _ _ _ _ _ _ us hl => match us, hl with | [_, _, _], _ => rfl
  obtain ⟨f_sRefusedRight, d_sRefusedRight, g_sRefusedRight⟩ := hsRefusedRight
  have m_sRefusedRight := PySem.W.mg_of X G g_sRefusedRight.a
  have b_sRefusedRight : Binds K d_sRefusedRight ["_law_stream_here", "_law_web_here", "_law_places", "_law_steps"] [] := g_sRefusedRight.F.binds fun _ _ _ _ _ _ us hl => match us, hl with | [_, _, _, _], _ => rfl
  obtain ⟨f_sLaw, d_sLaw, g_sLaw⟩ := hsLaw
  have m_sLaw := PySem.W.mg_of X G g_sLaw.a
  have b_sLaw : Binds K d_sLaw ["_law_script"] [] := g_sLaw.F.binds fun _ _ _ _ _ _ us hl => match us, hl with | [_], _ => rfl
  obtain ⟨f_sWebInit, d_sWebInit, g_sWebInit⟩ := hsWebInit
  have b_sWebInit : Binds K d_sWebInit ["self", "places", "steps"] [] := g_sWebInit.F.binds fun _ _ _ _ _ _ us hl => match us, hl with | [_, _, _], _ => rfl
  obtain ⟨f_sWebPlaces, d_sWebPlaces, g_sWebPlaces⟩ := hsWebPlaces
  have b_sWebPlaces : Binds K d_sWebPlaces ["self"] [] := g_sWebPlaces.F.binds fun _ _ _ _ _ _ us hl => match us, hl with | [_], _ => rfl
  obtain ⟨f_sWebSteps, d_sWebSteps, g_sWebSteps⟩ := hsWebSteps
  have b_sWebSteps : Binds K d_sWebSteps ["self"] [] := g_sWebSteps.F.binds fun _ _ _ _ _ _ us hl => match us, hl with | [_], _ => rfl
  obtain ⟨f_sWebEq, d_sWebEq, g_sWebEq⟩ := hsWebEq
  have b_sWebEq : Binds K d_sWebEq ["self", "other"] [] := g_sWebEq.F.binds fun _ _ _ _ _ _ us hl => match us, hl with | [_, _], _ => rfl
  obtain ⟨f_bad, d_bad, g_bad, k_bad⟩ := hBad
  have b_bad : Binds K d_bad ["self", "walk"] [] := g_bad.F.binds fun _ _ _ _ _ _ us hl => match us, hl with | [_, _], _ => rfl
  have e := hfa.symm.trans m_sLaw
  cases e
  have B : Bn mg := { abs := PySem.W.mg_none_of X G bk.abs, int := PySem.W.mg_none_of X G bk.int, len := PySem.W.mg_none_of X G bk.len, list := PySem.W.mg_none_of X G bk.list, tuple := PySem.W.mg_none_of X G bk.tuple, dict := PySem.W.mg_none_of X G bk.dict, bool := PySem.W.mg_none_of X G bk.bool, range := PySem.W.mg_none_of X G bk.range, enumerate := PySem.W.mg_none_of X G bk.enumerate, isinstance := PySem.W.mg_none_of X G bk.isinstance, all := PySem.W.mg_none_of X G bk.all, zip := PySem.W.mg_none_of X G bk.zip, sorted := PySem.W.mg_none_of X G bk.sorted, max := PySem.W.mg_none_of X G bk.max, sum := PySem.W.mg_none_of X G bk.sum, repr := PySem.W.mg_none_of X G bk.repr }
  have cls : Cls K C := ⟨ck.pg, ck.hd, ck.po, ck.sa⟩
  have T : WebTxt K mg C := ⟨cls, ck.nP, ck.nS, ck.nK, PySem.W.mg_of X G ck.aC⟩
  have IC : InsK K C := ⟨cls, ck.ha, ck.hn, ck.ht, ck.hm, ck.n1, ck.n2, ck.n3, ck.n4⟩
  have TB : BadTxt K mg CB f_bad := ⟨k_bad.ox, k_bad.xf, k_bad.no, PySem.W.mg_of X G k_bad.gC, g_bad.a, k_bad.tC, k_bad.te⟩
  obtain ⟨ocN, odN, kVN, docN, pmN, anN, cdvN, ctN, oslN, eN, lkN, _⟩ := id g_sNeedOf.F.ex
  have kb : KBinds K d_sNeedOf ["web", "walk"] ["walk", "web"] swap3 swap2 := {
    to := fun s us ws _ hl => by
      match us, ws, hl with
      | [], [x, y], _ =>
        rw [eN]
        exact .of_eq rfl
      | [], [], hl => cases hl
      | [], [_], hl => cases hl
      | [], _ :: _ :: _ :: _, hl => cases hl
      | _ :: _, _, hl => cases hl
    rel := fun h k => swap_rel h k }
  have bl : ∀ (s : Shared) (v : Value), BindsTo s d_sLaw ⟨[v], []⟩ [("_law_script", v)] := by
    obtain ⟨_, _, _, _, _, _, _, _, _, eL, _, _⟩ := id g_sLaw.F.ex
    intro s v
    rw [eL]
    exact .of_eq rfl
  refine ⟨d_sLaw, bl, fun base hb1 hb2 => ?_⟩
  have c_sDraw := cal_of (P := l.prog) (w := w) (base := base) g_sDraw.F m_sDraw b_sDraw (ok_draw g_sDraw.F B)
  have c_sStream := cal_of (P := l.prog) (w := w) (base := base) g_sStream.F m_sStream b_sStream (ok_stream g_sStream.F B)
  have c_sPick := cal_of (P := l.prog) (w := w) (base := base) g_sPick.F m_sPick b_sPick (ok_pick g_sPick.F B c_sDraw)
  have c_sMixed := cal_of (P := l.prog) (w := w) (base := base) g_sMixed.F m_sMixed b_sMixed (ok_mixed g_sMixed.F B c_sDraw)
  have c_sAmounts := cal_of (P := l.prog) (w := w) (base := base) g_sAmounts.F m_sAmounts b_sAmounts (ok_amounts g_sAmounts.F B c_sDraw c_sPick)
  have c_sStep := cal_of (P := l.prog) (w := w) (base := base) g_sStep.F m_sStep b_sStep (ok_step g_sStep.F B c_sDraw c_sPick c_sAmounts)
  have c_sWeb := cal_of (P := l.prog) (w := w) (base := base) g_sWeb.F m_sWeb b_sWeb (ok_web g_sWeb.F B c_sDraw c_sMixed c_sStep)
  have c_sLoose := cal_of (P := l.prog) (w := w) (base := base) g_sLoose.F m_sLoose b_sLoose (ok_loose g_sLoose.F B m_sLoose b_sLoose c_sDraw 6)
  have c_sIsInteger := cal_of (P := l.prog) (w := w) (base := base) g_sIsInteger.F m_sIsInteger b_sIsInteger (ok_isInteger g_sIsInteger.F B)
  have c_sIsList := cal_of (P := l.prog) (w := w) (base := base) g_sIsList.F m_sIsList b_sIsList (ok_isList g_sIsList.F B)
  have c_sNeedSum := cal_of (P := l.prog) (w := w) (base := base) g_sNeedSum.F m_sNeedSum b_sNeedSum (ok_sumN g_sNeedSum.F B)
  have c_sNeedGain := cal_of (P := l.prog) (w := w) (base := base) g_sNeedGain.F m_sNeedGain b_sNeedGain (ok_gain g_sNeedGain.F c_sNeedSum)
  have c_sReadStep := cal_of (P := l.prog) (w := w) (base := base) g_sReadStep.F m_sReadStep b_sReadStep (ok_readStep g_sReadStep.F B c_sIsList)
  have c_sReadSteps := cal_of (P := l.prog) (w := w) (base := base) g_sReadSteps.F m_sReadSteps b_sReadSteps (ok_readSteps g_sReadSteps.F B c_sReadStep c_sIsList)
  have GI := ok_webInit (P := l.prog) (w := w) (base := base) g_sWebInit.F B T c_sIsInteger c_sReadSteps
  have GP := ok_places (P := l.prog) (w := w) (base := base) g_sWebPlaces.F T
  have GS := ok_steps (P := l.prog) (w := w) (base := base) g_sWebSteps.F B T
  have GE := ok_webEq (P := l.prog) (w := w) (base := base) g_sWebEq.F B T IC ck.cc
  have c_sSame := cal_of (P := l.prog) (w := w) (base := base) g_sSame.F m_sSame b_sSame (ok_same g_sSame.F B m_sSame b_sSame IC webR_ex GE g_sWebEq.a g_sWebEq.i b_sWebEq 7)
  have c_sReadWalk := cal_of (P := l.prog) (w := w) (base := base) g_sReadWalk.F m_sReadWalk b_sReadWalk (ok_readWalk g_sReadWalk.F B T c_sReadStep c_sIsList GP b_sWebPlaces ⟨g_sWebPlaces.a, g_sWebPlaces.i, g_sWebPlaces.F.kp⟩ GS b_sWebSteps ⟨g_sWebSteps.a, g_sWebSteps.i, g_sWebSteps.F.kp⟩)
  have GB := ok_badInit (P := l.prog) (w := w) (base := base) g_bad.F TB
  have GC := ok_checked (P := l.prog) (w := w) (base := base) g_sCheckedWalk.F TB GB b_bad c_sReadWalk
  have GN := ok_need g_sNeedOf.F c_sNeedGain GC m_sCheckedWalk g_sCheckedWalk.F.kp b_sCheckedWalk
  have GN0 := fn_calm GN
  have c_sNeedOf := cal_of (P := l.prog) (w := w) (base := base) g_sNeedOf.F m_sNeedOf b_sNeedOf GN0
  have c_sWalk := cal_of (P := l.prog) (w := w) (base := base) g_sWalk.F m_sWalk b_sWalk (ok_walk g_sWalk.F B c_sPick)
  have c_sCanGo := cal_of (P := l.prog) (w := w) (base := base) g_sCanGo.F m_sCanGo b_sCanGo (ok_can g_sCanGo.F)
  have c_sDue := cal_of (P := l.prog) (w := w) (base := base) g_sDue.F m_sDue b_sDue (ok_due g_sDue.F B c_sCanGo)
  have c_sRefused := cal_of (P := l.prog) (w := w) (base := base) g_sRefused.F m_sRefused b_sRefused (ok_refused g_sRefused.F TB GN m_sNeedOf g_sNeedOf.F.kp b_sNeedOf)
  have c_sRefusedRight := cal_of (P := l.prog) (w := w) (base := base) g_sRefusedRight.F m_sRefusedRight b_sRefusedRight (ok_refusedRight g_sRefusedRight.F B IC m_sPick lkP tP c_sPick c_sRefused c_sSame)
  have GW := ok_walkRight g_sWalkRight.F B GN0 m_sNeedOf g_sNeedOf.F.kp kb c_sNeedOf c_sDraw c_sDue c_sLoose c_sSame
  have gW : GCal l.prog w K mg base 10 "_law_walk_right" (spWalkRight K C) := ⟨_, _, _, GW, m_sWalkRight, g_sWalkRight.F.kp, b_sWalkRight⟩
  exact ok_law g_sLaw.F B T ⟨ck.mkc, g_sWebInit.a, g_sWebInit.i, ck.kc⟩ GI b_sWebInit c_sStream c_sWeb c_sLoose c_sWalk c_sRefusedRight gW
end AA

set_option Elab.async false
set_option linter.all false
set_option maxRecDepth 100000
namespace AA
open PySem PySem.Spec PyProof.Rows L2 Evl
theorem bad_mk {K : PySem.W.Frag} {CB : Addr} {x q : Str} {st : Stmt} {f : Addr} {oc : Value} {od an : Option Addr} {osl : Array (Option Value)} {kV doc pm cdv ct : Value}
    {nm qn : Str} {N : Addr} {bs bm : List Value} {sn : List Str} {sub : List Value} {ab : Bool} {col : Option Bool} {dd : Option Addr} {k0 k1 k2 k3 k5 : Option Value}
    (a : PySem.W.findIn K (.ref CB) x = some (some (.ref f))) (i : PySem.W.isFn K (.ref f) = true)
    (l : K.lookup f = some ⟨oc, od, .func (PySem.W.fnOf x q (defArgs st) (defBody st) (defScope st) .none kV doc pm an cdv ct), osl⟩) (c : PySem.W.codeIn K cdv q = true) (k : PySem.W.keepIn K (.ref f) = true)
    (gC : PySem.W.nsIn K mainGlobals "BadWalk" = some (some (.ref CB)))
    (xL : K.lookup CB = some (excClassObj nm qn CB N bs bm true sn sub ab col dd k0 k1 k2 k3 k5 "ValueError.__new__")) (rv : PySem.HandSPX.refsVE bm = true)
    (sa : PySem.W.findIn K (.ref CB) "__setattr__" = some (some (.builtin "object.__setattr__")))
    (exC : PySem.W.subIn K (.ref CB) (.type "BaseException") = some true)
    (tyC : PySem.W.typeIn K (.ref CB) = some (.type "type")) (kC : PySem.W.keepIn K (.ref CB) = true)
    (ga : PySem.W.findIn K (.ref CB) "__getattribute__" = some (some (.builtin "BaseException.__getattribute__")))
    (gg : PySem.W.findIn K (.ref CB) "__getattr__" = some none) (hdC : PySem.W.hasDictIn K CB = true)
    (no : PySem.W.findIn K (.ref CB) "walk" = some none) (tC : PySem.W.typeIn K (.ref f) = some (.type "function")) (te : PySem.W.exmOne K (.ref CB) (.ref CB) = some true) :
    ∃ f fd, MFn K CB x q st f fd ∧ BadK K CB f :=
  ⟨_, _, ⟨a, i, fun_mk (st := st) l c k⟩, ⟨gC, ⟨⟨_, _, _, _, _, _, _, _, _, _, _, _, _, _, _, xL, rv⟩, sa, exC, tyC, kC⟩, ⟨ga, gg, exC, hdC⟩, no, tC, te⟩⟩
end AA
open PySem PySem.W PyProof.Rows in
set_option maxRecDepth 100000 in
set_option maxHeartbeats 0 in
theorem PySem.Challenge.cw_anyaround_k22_needs_of_walks_holds : PySem.Challenge.rw_anyaround_k22_needs_of_walks.Holds := by
  w_on; o_law; k_head; (case hw => w_witness2)
  k_fill
  refine AA.g_walk (l := PySem.Challenge.rw_anyaround_k22_needs_of_walks) (n := 63) (k := 11) (x := "_law_script") (spk := AA.spLaw22) rfl (by decide) rfl ⟨rfl, by decide, by decide⟩ (fun w h Y => PySem.W.kIn_of Y) ?F ?S
  case S =>
    intro K H a ns hl _ hS
    exact ⟨a, ns, rfl, hS, hl, fun _ => rfl⟩
  case F =>
    intro w mg fa h KX G hmg
    refine' AA.all_mk KX G hmg ?bk ?ck ?f1 ?f2 ?f3 ?f4 ?f5 ?f6 ?f7 ?f8 ?f9 ?f10 ?f11 ?f12 ?f13 ?f14 ?f15 ?f16 ?f17 ?f18 ?f19 ?f20 ?f21 ?f22 ?f23 ?f24 ?f25 ?m1 ?m2 ?m3 ?m4 ?bad
    (case bk => refine' ⟨?_, ?_, ?_, ?_, ?_, ?_, ?_, ?_, ?_, ?_, ?_, ?_, ?_, ?_, ?_, ?_⟩ <;> k_is)
    (case ck => refine' ⟨?aC, ?pg, ?hd, ?po, ?sa, ?mk, ?kc, ?nP, ?nS, ?nK, ?ha, ?hn, ?ht, ?hm, ?n1, ?n2, ?n3, ?n4, ?cc⟩; (case aC => k_is); (case pg => k_is); (case hd => k_is); (case po => k_is); (case sa => k_is); (case mk => k_is); (case kc => k_is); (case nP => k_is); (case nS => k_is); (case nK => k_is); (case ha => k_is); (case hn => k_is); (case ht => k_is); (case hm => k_is); (case n1 => kit_is); (case n2 => kit_is); (case n3 => kit_is); (case n4 => kit_is); (case cc => kit_is))
    (case f1 => refine' AA.gfn ?a ?l ?c ?k; (case a => k_is); (case l => k_is); (case c => k_is); (case k => k_is))
    (case f2 => refine' AA.gfn ?a ?l ?c ?k; (case a => k_is); (case l => k_is); (case c => k_is); (case k => k_is))
    (case f3 => refine' AA.gfn ?a ?l ?c ?k; (case a => k_is); (case l => k_is); (case c => k_is); (case k => k_is))
    (case f4 => refine' AA.gfn ?a ?l ?c ?k; (case a => k_is); (case l => k_is); (case c => k_is); (case k => k_is))
    (case f5 => refine' AA.gfn ?a ?l ?c ?k; (case a => k_is); (case l => k_is); (case c => k_is); (case k => k_is))
    (case f6 => refine' AA.gfn ?a ?l ?c ?k; (case a => k_is); (case l => k_is); (case c => k_is); (case k => k_is))
    (case f7 => refine' AA.gfn ?a ?l ?c ?k; (case a => k_is); (case l => k_is); (case c => k_is); (case k => k_is))
    (case f8 => refine' AA.gfn ?a ?l ?c ?k; (case a => k_is); (case l => k_is); (case c => k_is); (case k => k_is))
    (case f9 => refine' AA.gfn ?a ?l ?c ?k; (case a => k_is); (case l => k_is); (case c => k_is); (case k => k_is))
    (case f10 => refine' AA.gfn ?a ?l ?c ?k; (case a => k_is); (case l => k_is); (case c => k_is); (case k => k_is))
    (case f11 => refine' AA.gfn ?a ?l ?c ?k; (case a => k_is); (case l => k_is); (case c => k_is); (case k => k_is))
    (case f12 => refine' AA.gfnc ?a ?l ?c ?k; (case a => k_is); (case l => k_is); (case c => k_is); (case k => k_is))
    (case f13 => refine' AA.gfn ?a ?l ?c ?k; (case a => k_is); (case l => k_is); (case c => k_is); (case k => k_is))
    (case f14 => refine' AA.gfn ?a ?l ?c ?k; (case a => k_is); (case l => k_is); (case c => k_is); (case k => k_is))
    (case f15 => refine' AA.gfn ?a ?l ?c ?k; (case a => k_is); (case l => k_is); (case c => k_is); (case k => k_is))
    (case f16 => refine' AA.gfn ?a ?l ?c ?k; (case a => k_is); (case l => k_is); (case c => k_is); (case k => k_is))
    (case f17 => refine' AA.gfn ?a ?l ?c ?k; (case a => k_is); (case l => k_is); (case c => k_is); (case k => k_is))
    (case f18 => refine' AA.gfn ?a ?l ?c ?k; (case a => k_is); (case l => k_is); (case c => k_is); (case k => k_is))
    (case f19 => refine' AA.gfn ?a ?l ?c ?k; (case a => k_is); (case l => k_is); (case c => k_is); (case k => k_is))
    (case f20 => refine' AA.gfn ?a ?l ?c ?k; (case a => k_is); (case l => k_is); (case c => k_is); (case k => k_is))
    (case f21 => refine' AA.gfn ?a ?l ?c ?k; (case a => k_is); (case l => k_is); (case c => k_is); (case k => k_is))
    (case f22 => refine' AA.gfn ?a ?l ?c ?k; (case a => k_is); (case l => k_is); (case c => k_is); (case k => k_is))
    (case f23 => refine' AA.gfn ?a ?l ?c ?k; (case a => k_is); (case l => k_is); (case c => k_is); (case k => k_is))
    (case f24 => refine' AA.gfn ?a ?l ?c ?k; (case a => k_is); (case l => k_is); (case c => k_is); (case k => k_is))
    (case f25 => refine' AA.gfn ?a ?l ?c ?k; (case a => k_is); (case l => k_is); (case c => k_is); (case k => k_is))
    (case m1 => refine' AA.mfn ?a ?i ?l ?c ?k; (case a => k_is); (case i => k_is); (case l => k_is); (case c => k_is); (case k => k_is))
    (case m2 => refine' AA.mfn ?a ?i ?l ?c ?k; (case a => k_is); (case i => k_is); (case l => k_is); (case c => k_is); (case k => k_is))
    (case m3 => refine' AA.mfn ?a ?i ?l ?c ?k; (case a => k_is); (case i => k_is); (case l => k_is); (case c => k_is); (case k => k_is))
    (case m4 => refine' AA.mfn ?a ?i ?l ?c ?k; (case a => k_is); (case i => k_is); (case l => k_is); (case c => k_is); (case k => k_is))
    case bad =>
      refine' AA.bad_mk ?a ?i ?l ?c ?k ?gC ?xL ?rv ?sa ?exC ?tyC ?kC ?ga ?gg ?hdC ?no ?tC ?te
      (case gC => k_is)
      (case a => k_is)
      (case i => k_is)
      (case l => k_is)
      (case c => k_is)
      (case k => k_is)
      (case xL => k_is)
      (case rv => decide +kernel)
      (case sa => k_is)
      (case exC => k_is)
      (case tyC => k_is)
      (case kC => k_is)
      (case ga => k_is)
      (case gg => k_is)
      (case hdC => k_is)
      (case no => k_is)
      (case tC => k_is)
      (case te => first | k_is | rfl)

