import PyProof.Rows.All
import Wide.All
import OpenK.AllK
import Wide.FinOn
import HandS.ForMost
import HandS.Wide
import HandS.ExcInit
import HandS.IsInst
import HandS.Deep
import HandS.Evl
import HandS.Conv
import HandS.NoneIn
import HandS.Codes
import HandS.OwnEq
import HandS.DictComp
import HandS.SortOrd
import HandS.SortRule
import HandS.RaiseMore
import HandS.TryOnly
import HandS.Lambda
import HandS.Zip
import HandS.ListItems
import KE.DatumIndex
import HandS.TryMany
import HandS.MakeKwOnly
import HandS.EndTab
import HandS.HeadWalk
import HandS.ExcField
import HandS.WordsExc
import PyProof.IsiNone
import PyProof.IsiH_set
import PyProof.InstEq
import PyProof.InstNe
import KE.KRevSl
import HandS.SetKeys
import HandS.More
import HandS.TupSets
import PySem.Challenge.RW_anyaround_k02_walks_and_lots
import KE.KeyNested
import KE.GoesMore
import HandS.SetFor
import HandS.Strs
import HandS.Iter
import HandS.WordsDict
import PyProof.PvWalk
import HandS.List
import KE.KNestM
set_option Elab.async false
set_option linter.all false
set_option maxRecDepth 100000
namespace AA
open PySem PySem.Spec PyProof.Rows L2
def top (i : Nat) : Stmt := PySem.Challenge.pw_anyaround_k02_walks_and_lots.main.body.getD i (.Pass ⟨0, 0, 0, 0⟩)
abbrev sIsInteger : Stmt := top 7
abbrev sIsList : Stmt := top 8
abbrev sCheckPlace : Stmt := top 9
abbrev sSpread : Stmt := top 11
abbrev sComeTo : Stmt := top 12
abbrev sLeftLast : Stmt := top 13
abbrev sTogether : Stmt := top 14
abbrev sComeBack : Stmt := top 15
abbrev sLotsOf : Stmt := top 16
abbrev sRowAlong : Stmt := top 17
abbrev sReadStep : Stmt := top 20
abbrev sReadSteps : Stmt := top 21
abbrev sReadWalk : Stmt := top 22
abbrev sCheckedWalk : Stmt := top 23
abbrev sIsWalk : Stmt := top 24
abbrev sIsRing : Stmt := top 25
abbrev sSumOf : Stmt := top 26
abbrev sReached : Stmt := top 27
abbrev sLots : Stmt := top 28
abbrev sStream : Stmt := top 30
abbrev sDraw : Stmt := top 31
abbrev sPick : Stmt := top 32
abbrev sMixed : Stmt := top 33
abbrev sSame : Stmt := top 34
abbrev sLoose : Stmt := top 35
abbrev sAmounts : Stmt := top 36
abbrev sStep : Stmt := top 37
abbrev sWeb : Stmt := top 38
abbrev sLReached : Stmt := top 39
abbrev sLRings : Stmt := top 40
abbrev sLSum : Stmt := top 41
abbrev sTried : Stmt := top 42
abbrev sIsWhole : Stmt := top 43
abbrev sStepOf : Stmt := top 44
abbrev sWalkOf : Stmt := top 45
abbrev sLIsRing : Stmt := top 46
abbrev sDrawnWalk : Stmt := top 47
abbrev sBent : Stmt := top 48
abbrev sLLots : Stmt := top 49
abbrev sThingRight : Stmt := top 50
abbrev sLaw : Stmt := top 51
abbrev sWebInit : Stmt := inClass (top 19) 0
abbrev sWebPlaces : Stmt := inClass (top 19) 1
abbrev sWebSteps : Stmt := inClass (top 19) 2
abbrev sWebEq : Stmt := inClass (top 19) 3
abbrev sBadPlInit : Stmt := inClass (top 2) 0
abbrev sBadStInit : Stmt := inClass (top 3) 0
abbrev sBadWkInit : Stmt := inClass (top 4) 0
abbrev sBadPcInit : Stmt := inClass (top 5) 0
end AA

set_option Elab.async false
set_option linter.all false
set_option maxRecDepth 100000
set_option maxHeartbeats 4000000
namespace AA
open PySem PySem.Spec PyProof.Rows L2 Evl

/-- built-in names that the program's top leaves alone -/
structure Bn (mg : Str → Option Value) : Prop where
  abs : mg "abs" = none
  int : mg "int" = none
  len : mg "len" = none
  list : mg "list" = none
  tuple : mg "tuple" = none
  dict : mg "dict" = none
  bool : mg "bool" = none
  range : mg "range" = none
  enumerate : mg "enumerate" = none
  isinstance : mg "isinstance" = none
  all : mg "all" = none
  zip : mg "zip" = none
  sorted : mg "sorted" = none
  max : mg "max" = none
  sum : mg "sum" = none
  repr : mg "repr" = none

theorem cal_of {P : Program} {w : World} {K : PySem.W.Frag} {mg : Str → Option Value} {base : Heap} {k : Nat} {x : Str} {st : Stmt} {f : Addr} {fd : FuncData} {ps : List Str} {sp : Sp}
    (F : L2.Fun K x x st f fd) (hm : mg x = some (.ref f)) (b : Binds K fd ps []) (G : FnOk P w K mg base CX0 k f fd ps sp) : C8.Cal P w K mg base k x sp [] := ⟨f, fd, ps, [], G, hm, F.kp, b, .nil⟩

/-! ### the heap without the stream's two lists -/
def hid (a b : Addr) (H : Hp) : Hp := fun x => if x = a ∨ x = b then none else H x
theorem hid_some {a b x : Addr} {H : Hp} {o : HO} (h : hid a b H x = some o) : H x = some o ∧ x ≠ a ∧ x ≠ b := by
  unfold hid at h
  by_cases e : x = a ∨ x = b
  · rw [if_pos e] at h
    cases h
  · rw [if_neg e] at h
    exact ⟨h, fun z => e (.inl z), fun z => e (.inr z)⟩
theorem hid_ne {a b x : Addr} {H : Hp} (ha : x ≠ a) (hb : x ≠ b) : hid a b H x = H x := by
  unfold hid
  rw [if_neg (fun z => z.elim ha hb)]
theorem hid_ex {a b : Addr} {H : Hp} : Ex (hid a b H) H := fun x o h => (hid_some h).1
theorem hid_upda {a b : Addr} {H : Hp} {o : HO} : hid a b (upd H a o) = hid a b H := by
  funext x
  unfold hid upd
  by_cases e : x = a ∨ x = b
  · rw [if_pos e, if_pos e]
  · rw [if_neg e, if_neg e, if_neg (fun z => e (.inl z))]
theorem hid_updb {a b : Addr} {H : Hp} {o : HO} : hid a b (upd H b o) = hid a b H := by
  funext x
  unfold hid upd
  by_cases e : x = a ∨ x = b
  · rw [if_pos e, if_pos e]
  · rw [if_neg e, if_neg e, if_neg (fun z => e (.inr z))]
theorem hid_upd {a b p : Addr} {H : Hp} {o : HO} (ha : p ≠ a) (hb : p ≠ b) : hid a b (upd H p o) = upd (hid a b H) p o := by
  funext x
  unfold hid upd
  by_cases e : x = a ∨ x = b
  · rw [if_pos e]
    by_cases q : x = p
    · rcases e with e | e
      · exact absurd (q.symm.trans e) ha
      · exact absurd (q.symm.trans e) hb
    · rw [if_neg q]
      exact (if_pos e).symm
  · rw [if_neg e]
    by_cases q : x = p
    · rw [if_pos q, if_pos q]
    · rw [if_neg q, if_neg q]
      exact (if_neg e).symm
theorem hid_none {a b p : Addr} {H : Hp} (h : H p = none) : hid a b H p = none := by
  unfold hid
  split
  · rfl
  · exact h
theorem hid_mono {a b : Addr} {H H' : Hp} (e : Ex H H') : Ex (hid a b H) (hid a b H') := fun x o h => by
  obtain ⟨h1, h2, h3⟩ := hid_some h
  rw [hid_ne h2 h3]
  exact e x o h1

/-- the stream: its list of four at a, the rest of the script at b; at most n draws so far -/
def SAt (H : Hp) (a b : Addr) (n : Nat) : Prop :=
  ∃ (ns : List Int) (c1 c2 c3 : Int), H a = some (.lst [.ref b, .int c1, .int c2, .int c3]) ∧ H b = some (.lst (ns.map V.int)) ∧ ns.length ≤ 63 ∧ 0 ≤ c1 ∧ 0 ≤ c2 ∧ c2 ≤ n ∧ 0 ≤ c3 ∧ c3 < 2147483647
theorem SAt.mono {H : Hp} {a b : Addr} {n m : Nat} (h : SAt H a b n) (l : n ≤ m) : SAt H a b m := by
  obtain ⟨ns, c1, c2, c3, h1, h2, h3, h4, h5, h6, h7⟩ := h
  exact ⟨ns, c1, c2, c3, h1, h2, h3, h4, h5, by omega, h7⟩
theorem SAt.ne {H : Hp} {a b : Addr} {n : Nat} (h : SAt H a b n) : a ≠ b := by
  obtain ⟨ns, c1, c2, c3, h1, h2, _⟩ := h
  intro e
  subst e
  rw [h1] at h2
  have := HO.lst.inj (Option.some.inj h2)
  cases ns with
  | nil => cases this
  | cons x r => cases (List.cons.inj this).1
theorem SAt.nea {H : Hp} {a b p : Addr} {n : Nat} (h : SAt H a b n) (hp : H p = none) : p ≠ a := fun e => by
  obtain ⟨ns, c1, c2, c3, h1, _⟩ := h
  rw [e, h1] at hp
  cases hp
theorem SAt.neb {H : Hp} {a b p : Addr} {n : Nat} (h : SAt H a b n) (hp : H p = none) : p ≠ b := fun e => by
  obtain ⟨ns, c1, c2, c3, _, h1, _⟩ := h
  rw [e, h1] at hp
  cases hp
theorem SAt.ex {H H' : Hp} {a b : Addr} {n : Nat} (h : SAt H a b n) (e : Ex H H') : SAt H' a b n := by
  obtain ⟨ns, c1, c2, c3, h1, h2, r⟩ := h
  exact ⟨ns, c1, c2, c3, e _ _ h1, e _ _ h2, r⟩
theorem SAt.upd {H : Hp} {a b p : Addr} {n : Nat} {o : HO} (h : SAt H a b n) (ha : p ≠ a) (hb : p ≠ b) : SAt (upd H p o) a b n := by
  obtain ⟨ns, c1, c2, c3, h1, h2, r⟩ := h
  exact ⟨ns, c1, c2, c3, by rw [upd_ne ha.symm]; exact h1, by rw [upd_ne hb.symm]; exact h2, r⟩

/-- the promise's heaps: all but the stream stands as it stood -/
abbrev ExS (a b : Addr) (H H' : Hp) : Prop := Ex (hid a b H) (hid a b H')
theorem ExS.at {a b p : Addr} {H H' : Hp} {o : HO} (e : ExS a b H H') (h : H p = some o) (ha : p ≠ a) (hb : p ≠ b) : H' p = some o :=
  hid_ex _ _ (e p o (by rw [hid_ne ha hb]; exact h))

theorem ExS.upda {a b : Addr} {H H1 : Hp} {o : HO} (p : ExS a b H H1) : ExS a b H (L2.upd H1 a o) := by
  show Ex _ (hid a b (L2.upd H1 a o))
  rw [hid_upda]
  exact p
theorem ExS.updb {a b : Addr} {H H1 : Hp} {o : HO} (p : ExS a b H H1) : ExS a b H (L2.upd H1 b o) := by
  show Ex _ (hid a b (L2.upd H1 b o))
  rw [hid_updb]
  exact p
theorem ExS.new {a b c : Addr} {H H1 : Hp} {o : HO} (p : ExS a b H H1) (n : H1 c = none) : ExS a b H (L2.upd H1 c o) := p.trans (hid_mono (Ex.new n))
theorem ExS.own {a b p : Addr} {H H1 : Hp} {o : HO} (e : ExS a b H H1) (hp : H p = none) (pa : p ≠ a) (pb : p ≠ b) : ExS a b H (L2.upd H1 p o) := by
  show Ex _ (hid a b (L2.upd H1 p o))
  rw [hid_upd pa pb]
  exact e.mut (hid_none hp)
theorem sz_m {n : Nat} (h : n ≤ 1000000) : n < sizeLine := Nat.lt_of_le_of_lt h (by decide)
theorem sz_le {n : Nat} (h : n ≤ 1000000) : n ≤ sizeLine := Nat.le_of_lt (sz_m h)
theorem ExS.back {a b p : Addr} {H H' : Hp} {n : Nat} (e : ExS a b H H') (S' : SAt H' a b n) (h : H' p = none) : H p = none := by
  cases q : H p with
  | none => rfl
  | some o =>
    rw [e.at q (S'.nea h) (S'.neb h)] at h
    cases h
theorem get_ints {ns : List Int} {i : Nat} {x : V} (h : (ns.map V.int)[i]? = some x) : ∃ c, ns[i]? = some c ∧ x = .int c := by
  rw [List.getElem?_map] at h
  cases e : ns[i]? with
  | none =>
    rw [e] at h
    cases h
  | some c =>
    rw [e] at h
    exact ⟨c, rfl, (Option.some.inj h).symm⟩
theorem mem_of_get {α : Type} {l : List α} {i : Nat} {x : α} (h : l[i]? = some x) : x ∈ l := by
  obtain ⟨h1, h2⟩ := List.getElem?_eq_some_iff.mp h
  rw [← h2]
  exact List.getElem_mem h1
theorem ExS.rfl {a b : Addr} {H : Hp} : ExS a b H H := Ex.refl _

/-! ### what is new since H -/
def nw (H H' : Hp) : Hp := fun z => match H z with
  | none => H' z
  | some _ => none
theorem nw_some {H H' : Hp} {z : Addr} {o : HO} (h : nw H H' z = some o) : H z = none ∧ H' z = some o := by
  unfold nw at h
  split at h
  · rename_i e
    exact ⟨e, h⟩
  · cases h
theorem nw_of {H H' : Hp} {z : Addr} {o : HO} (h : H z = none) (h' : H' z = some o) : nw H H' z = some o := by
  unfold nw
  rw [h]
  exact h'
theorem nw_le {H H' : Hp} : Ex (nw H H') H' := fun z o h => (nw_some h).2
theorem nw_hid {a b : Addr} {n : Nat} {H H' : Hp} (s : SAt H a b n) : Ex (nw H H') (hid a b H') := fun z o h => by
  obtain ⟨h1, h2⟩ := nw_some h
  rw [hid_ne (s.nea h1) (s.neb h1)]
  exact h2
theorem nw_step {a b : Addr} {n : Nat} {H H1 H2 : Hp} (s : SAt H a b n) (e : ExS a b H1 H2) : Ex (nw H H1) (nw H H2) := fun z o h => by
  obtain ⟨h1, h2⟩ := nw_some h
  exact nw_of h1 (e.at h2 (s.nea h1) (s.neb h1))
/-- what is new since a later heap is new since the earlier one -/
theorem nw_base {a b : Addr} {m : Nat} {H H1 H2 : Hp} (e : ExS a b H H1) (s : SAt H1 a b m) : Ex (nw H1 H2) (nw H H2) := fun z o h => by
  obtain ⟨h1, h2⟩ := nw_some h
  exact nw_of (e.back s h1) h2

/-! ### the heap's tuples: they never change -/
def tps (H : Hp) : Hp := fun x => match H x with
  | some (.tup xs) => some (.tup xs)
  | _ => none
theorem tps_some {H : Hp} {x : Addr} {o : HO} (h : tps H x = some o) : H x = some o ∧ ∃ xs, o = .tup xs := by
  unfold tps at h
  split at h
  · rename_i xs e
    cases h
    exact ⟨e, xs, rfl⟩
  · cases h
theorem tps_of {H : Hp} {x : Addr} {xs : List V} (h : H x = some (.tup xs)) : tps H x = some (.tup xs) := by
  unfold tps
  rw [h]
theorem tps_le {H : Hp} : Ex (tps H) H := fun x o h => (tps_some h).1
theorem tps_mono {H H' : Hp} (e : Ex H H') : Ex (tps H) (tps H') := fun x o h => by
  obtain ⟨h1, xs, rfl⟩ := tps_some h
  exact tps_of (e _ _ h1)
theorem tps_hid {a b : Addr} {n : Nat} {H H' : Hp} (e : ExS a b H H') (s : SAt H a b n) : Ex (tps H) (tps H') := fun x o h => by
  obtain ⟨h1, xs, rfl⟩ := tps_some h
  obtain ⟨ns, c1, c2, c3, ha, hb, _⟩ := s
  have xa : x ≠ a := fun z => by
    rw [z, ha] at h1
    cases h1
  have xb : x ≠ b := fun z => by
    rw [z, hb] at h1
    cases h1
  exact tps_of (e.at h1 xa xb)
/-- no tuple stands at p -/
def NoTup (H : Hp) (p : Addr) : Prop := ∀ xs, H p ≠ some (.tup xs)
theorem NoTup.lst {H : Hp} {p : Addr} {xs : List V} (h : H p = some (.lst xs)) : NoTup H p := fun ys z => by
  rw [h] at z
  cases z
theorem NoTup.none {H : Hp} {p : Addr} (h : H p = none) : NoTup H p := fun ys z => by
  rw [h] at z
  cases z
theorem tps_upd {H : Hp} {p : Addr} {o : HO} (h : NoTup H p) : Ex (tps H) (tps (L2.upd H p o)) := fun x u hx => by
  obtain ⟨h1, xs, rfl⟩ := tps_some hx
  have xp : x ≠ p := fun z => h xs (by rw [← z]; exact h1)
  exact tps_of (by rw [upd_ne xp]; exact h1)
theorem tps_tup {H : Hp} {p : Addr} {xs : List V} : tps (L2.upd H p (.tup xs)) p = some (.tup xs) := tps_of upd_same

/-! ### data on the heap -/
mutual
theorem dp_ex {K : PySem.W.Frag} {H H' : Hp} (e : Ex H H') : ∀ (d : PyData) (v : V), Dp K H v d → Dp K H' v d
  | .none, _, h => by cases h; exact .non
  | .bool b, _, h => by cases h; exact .bl _
  | .int i, _, h => by cases h; exact .int _
  | .str x, _, h => by cases h; exact .str _
  | .list ds, _, h => by
    cases h with
    | lst h1 h2 => exact .lst (ex_l e h1) (dpa_ex e ds _ h2)
  | .tuple ds, _, h => by
    cases h with
    | tup h1 h2 => exact .tup (ex_t e h1) (dpa_ex e ds _ h2)
  | .dict _, _, h => by cases h
theorem dpa_ex {K : PySem.W.Frag} {H H' : Hp} (e : Ex H H') : ∀ (ds : List PyData) (vs : List V), DpAll K H vs ds → DpAll K H' vs ds
  | [], _, h => by cases h; exact .nil
  | d :: ds, _, h => by
    cases h with
    | cons h1 h2 => exact .cons (dp_ex e d _ h1) (dpa_ex e ds _ h2)
end
theorem dp_ints {K : PySem.W.Frag} {H : Hp} : ∀ ns : List Int, DpAll K H (ns.map V.int) (ns.map PyData.int)
  | [] => .nil
  | n :: r => .cons (.int n) (dp_ints r)
theorem lay_ints : ∀ ns : List Int, PyData.canLayAll0 (ns.map PyData.int) = true
  | [] => rfl
  | n :: r => by
    show (PyData.canLay0 (.int n) && PyData.canLayAll0 (r.map PyData.int)) = true
    rw [lay_ints r]
    rfl
theorem dep_ints : ∀ ns : List Int, PyData.depthAll (ns.map PyData.int) = 0
  | [] => rfl
  | n :: r => by
    show max (PyData.depth (.int n)) (PyData.depthAll (r.map PyData.int)) = 0
    rw [dep_ints r]
    rfl
theorem shaped_ints (ns : List Int) : SeqAt.shaped (.list (ns.map PyData.int)) = true := by
  show (PyData.canLayAll0 (ns.map PyData.int) && decide (PyData.depthAll (ns.map PyData.int) + 1 ≤ 64)) = true
  rw [lay_ints, dep_ints]
  rfl
theorem eqv_ints_nil : ∀ ns : List Int, PyData.eqv (.list (ns.map PyData.int)) (.list []) = ns.isEmpty
  | [] => rfl
  | n :: r => rfl
theorem dpa_len {K : PySem.W.Frag} {H : Hp} : ∀ {vs : List V} {ds : List PyData}, DpAll K H vs ds → vs.length = ds.length
  | [], _, h => by cases h; rfl
  | v :: vs, _, h => by
    cases h with
    | cons h1 h2 => rw [List.length_cons, List.length_cons, dpa_len h2]
theorem dpa_get {K : PySem.W.Frag} {H : Hp} : ∀ {vs : List V} {ds : List PyData} {i : Nat} {v : V}, DpAll K H vs ds → vs[i]? = some v → ∃ d, ds[i]? = some d ∧ Dp K H v d
  | [], _, _, _, _, e => by simp at e
  | v :: vs, _, 0, x, h, e => by
    cases h with
    | cons h1 h2 =>
      cases (Option.some.inj e)
      exact ⟨_, rfl, h1⟩
  | v :: vs, _, i + 1, x, h, e => by
    cases h with
    | cons h1 h2 => exact dpa_get (i := i) h2 e
theorem dpa_app {K : PySem.W.Frag} {H : Hp} : ∀ {vs ws : List V} {ds es : List PyData}, DpAll K H vs ds → DpAll K H ws es → DpAll K H (vs ++ ws) (ds ++ es)
  | [], _, _, _, h, k => by cases h; exact k
  | v :: vs, _, _, _, h, k => by
    cases h with
    | cons h1 h2 => exact .cons h1 (dpa_app h2 k)

theorem Room.u65 {k : Nat} {A : Around} (r : Room k A) : A.units + 65 < cLine := by
  have := r.un
  omega
/-! ### steps -/
structure St5 where
  one : Int
  other : Int
  p : Int
  q : Int
  ticks : Int
  change : Int
  deriving DecidableEq
def stD (s : St5) : PyData := .tuple [.int s.one, .int s.other, .tuple [.int s.p, .int s.q], .int s.ticks, .int s.change]
theorem stD_inv {K : PySem.W.Frag} {H : Hp} {v : V} {s : St5} (h : Dp K H v (stD s)) : ∃ t u : Addr, v = .ref t ∧ SqT K H t [.int s.one, .int s.other, .ref u, .int s.ticks, .int s.change] ∧ SqT K H u [.int s.p, .int s.q] := by
  unfold stD at h
  cases h with
  | tup h1 h2 =>
    cases h2 with
    | cons a1 h2 =>
      cases h2 with
      | cons a2 h2 =>
        cases h2 with
        | cons a3 h2 =>
          cases h2 with
          | cons a4 h2 =>
            cases h2 with
            | cons a5 h2 =>
              cases h2
              cases a1
              cases a2
              cases a4
              cases a5
              cases a3 with
              | tup b1 b2 =>
                cases b2 with
                | cons c1 b2 =>
                  cases b2 with
                  | cons c2 b2 =>
                    cases b2
                    cases c1
                    cases c2
                    exact ⟨_, _, rfl, h1, b1⟩
theorem stD_mk {K : PySem.W.Frag} {H : Hp} {t u : Addr} {s : St5} (h1 : SqT K H t [.int s.one, .int s.other, .ref u, .int s.ticks, .int s.change]) (h2 : SqT K H u [.int s.p, .int s.q]) : Dp K H (.ref t) (stD s) :=
  .tup h1 (.cons (.int _) (.cons (.int _) (.cons (.tup h2 (.cons (.int _) (.cons (.int _) .nil))) (.cons (.int _) (.cons (.int _) .nil)))))
theorem stD_eqv (s t : St5) : PyData.eqv (stD s) (stD t) = decide (s = t) := by
  have : PyData.eqv (stD s) (stD t) = ((s.one == t.one) && ((s.other == t.other) && (((s.p == t.p) && ((s.q == t.q) && true)) && ((s.ticks == t.ticks) && ((s.change == t.change) && true))))) := rfl
  rw [this]
  cases s
  cases t
  simp only [St5.mk.injEq]
  rw [Bool.eq_iff_iff]
  simp [and_assoc]
theorem stD_lay (s : St5) : (stD s).canLay0 = true := rfl
theorem stD_depth (s : St5) : (stD s).depth = 2 := rfl
theorem stDs_lay : ∀ ss : List St5, PyData.canLayAll0 (ss.map stD) = true
  | [] => rfl
  | s :: r => by
    show (PyData.canLay0 (stD s) && PyData.canLayAll0 (r.map stD)) = true
    rw [stDs_lay r]
    rfl
theorem stDs_depth : ∀ ss : List St5, PyData.depthAll (ss.map stD) ≤ 2
  | [] => by decide
  | s :: r => by
    have := stDs_depth r
    show max (PyData.depth (stD s)) (PyData.depthAll (r.map stD)) ≤ 2
    rw [stD_depth]
    omega
theorem stD_shaped (s : St5) : SeqAt.shaped (stD s) = true := rfl
theorem stDs_shaped (ss : List St5) : SeqAt.shaped (.list (ss.map stD)) = true := by
  have h : PyData.depth (.list (ss.map stD)) ≤ 64 := by
    have := stDs_depth ss
    show PyData.depthAll (ss.map stD) + 1 ≤ 64
    omega
  show (PyData.canLayAll0 (ss.map stD) && decide (PyData.depth (.list (ss.map stD)) ≤ 64)) = true
  rw [stDs_lay, decide_eq_true h]
  rfl
/-- a step between so many places -/
structure StOk (n : Int) (s : St5) : Prop where
  o0 : 0 ≤ s.one
  o1 : s.one < n
  t0 : 0 ≤ s.other
  t1 : s.other < n
  k : 1 ≤ s.ticks
/-- and small -/
structure StSm (s : St5) : Prop where
  p0 : -9 ≤ s.p
  p1 : s.p ≤ 9
  q0 : -9 ≤ s.q
  q1 : s.q ≤ 9
  k1 : s.ticks ≤ 6
  c0 : -9 ≤ s.change
  c1 : s.change ≤ 9
/-! ### loops over enumerate(list) -/
theorem for_enumL {K : PySem.W.Frag} {a : Addr} {xs : List V} {g : TG} {tb : TS} {D : Ends} {σ : L2.St} {H : Hp} (Pv : Nat → L2.St → Hp → Prop) (h0 : Pv 0 σ H) (hl : ∀ i σ H, i ≤ xs.length → Pv i σ H → SqL K H a xs)
    (hs : ∀ (i : Nat) (x : V) (σ : L2.St) (H : Hp) (T : Addr), xs[i]? = some x → Pv i σ H → H T = none → g (.ref T) σ (upd H T (.tup [.int (i : Nat), x])) fun σ2 H2 => tb { D with nx := Pv (i + 1), ct := Pv (i + 1), bk := D.nx } σ2 H2) (hd : ∀ σ H, Pv xs.length σ H → D.nx σ H) :
    ∃ W : Nat → Nat → L2.St → Hp → Prop, (∃ m, W 0 m σ H) ∧ ∀ i m σ H, W i m σ H →
      ((Ite K a).stop i H ∧ D.nx σ H) ∨ ((Ite K a).go i H ∧ ∃ N : L2.St → Hp → Prop, (∀ σ' H', N σ' H' → ∃ m', m' < m ∧ W (i + 1) m' σ' H') ∧ ∀ x H', (Ite K a).yld i H x H' → g x σ H' fun σ2 H2 => tb { D with nx := N, ct := N, bk := D.nx } σ2 H2) := by
  refine ⟨fun i m σ H => m = xs.length - i ∧ i ≤ xs.length ∧ Pv i σ H, ⟨xs.length, by simp, Nat.zero_le _, h0⟩, ?_⟩
  rintro i m σ H ⟨rfl, hi, p⟩
  have q := hl i σ H hi p
  by_cases hlt : i < xs.length
  · refine .inr ⟨⟨xs, xs[i], q, by simp [hlt]⟩, Pv (i + 1), fun σ' H' p' => ⟨xs.length - (i + 1), by omega, rfl, hlt, p'⟩, fun x H' y => ?_⟩
    obtain ⟨T, z, rfl, hT, rfl, e⟩ := y
    exact hs i z σ _ T (e xs q) p hT
  · have e : i = xs.length := by omega
    subst e
    exact .inl ⟨⟨xs, q, Nat.le_refl _⟩, hd σ H p⟩
theorem atI_back {α : Type} {xs : List α} {i : Nat} (h : i < xs.length) : ∃ y, atI xs ((i : Int) - 1) = some y ∧ y ∈ xs := by
  cases i with
  | zero =>
    have e : ixN xs.length (((0 : Nat) : Int) - 1) = some (xs.length - 1) := by
      unfold ixN
      rw [if_neg (by omega), if_pos (by omega)]
      congr 1
      omega
    have hl : xs.length - 1 < xs.length := by omega
    refine ⟨xs[xs.length - 1], ?_, List.getElem_mem hl⟩
    unfold atI
    rw [e]
    exact List.getElem?_eq_getElem hl
  | succ i =>
    have e : ((i + 1 : Nat) : Int) - 1 = (i : Int) := by omega
    rw [e]
    have hl : i < xs.length := by omega
    exact ⟨xs[i], atI_nat (List.getElem?_eq_getElem hl), List.getElem_mem hl⟩
end AA

set_option Elab.async false
set_option linter.all false
set_option maxRecDepth 100000
set_option maxHeartbeats 4000000
namespace AA
open PySem PySem.Spec PyProof.Rows L2 Evl

section
variable {P : Program} {w : World} {K : PySem.W.Frag} {mg : Str → Option Value} {base : Heap}
def spDraw : Sp := fun vs H Q _ => ∃ (a b : Addr) (n : Nat) (m : Int), vs = [.ref a, .int m] ∧ SAt H a b n ∧ n < 1000000000 ∧ 0 < m ∧ m < 1000000000 ∧
  ∀ (H' : Hp) (i : Int), ExS a b H H' → SAt H' a b (n + 1) → 0 ≤ i → i < m → Q (.int i) H'
theorem scDraw : FnScope ["_law_stream_here", "_law_many", "_law_cell", "_law_digit", "_law_mixed_here"] ["_law_stream_here", "_law_many"] (defScope sDraw) := ⟨rfl, rfl, rfl, by decide +kernel, rfl, by decide +kernel, by decide +kernel⟩

theorem ok_draw {f : Addr} {fd : FuncData} (F : L2.Fun K "_law_draw" "_law_draw" sDraw f fd) (T : Bn mg) : FnOk P w K mg base CX0 1 f fd ["_law_stream_here", "_law_many"] spDraw := by
  refine F.ok scDraw (fun vs H Q E h => ?_) (fun cdv A outer s H vs Q E hr h => ?_)
  · obtain ⟨a, b, n, m, rfl, _⟩ := h
    rfl
  · obtain ⟨a, b, n, m, rfl, hS, hn, hm0, hm1, k⟩ := h
    refine ⟨_, pss_cons (ps_asg (pe_op op_add (pe_ix ix_list (pv 0) pe_int (fun _ _ => rfl)) pe_int) (pg_sub (pv 0) pe_int set_list))
      (Evl.pss_cut (ps_while PassesOwn.never (PW.pt (pw_and (pt_cmpR op_eq (pe_ix ix_list (pv 0) pe_int (fun _ _ => rfl)) pe_int (nomark _))
            (pw_and1 (pt_cmpR (op_neD hr.units) (pe_ix ix_list (pv 0) pe_int (fun _ _ => rfl)) (pe_lst pa_nil) (nomark _)))))
          (pss_cons (ps_set (i := 2) scDraw.nd rfl (Or.inl rfl) (pe_callB call_abs (by rfl) T.abs boot_abs (pa_cons (pe_bm PySem.F.plainAttrs_list PySem.F.slot_list_pop PySem.F.type_list_pop mt_popAt (pe_ix ix_list (pv 0) pe_int (fun _ _ => rfl)) (pa_cons pe_int pa_nil)) pa_nil)))
          (pss_cons (ps_asg (pe_op op_mod (pe_callTy call_int1 (by rfl) T.int boot_int (pa_cons (pe_op op_add (pe_op op_add (pe_op op_mul (pe_ix ix_list (pv 0) pe_int (fun _ _ => rfl)) pe_int) (pv 2)) pe_int) pa_nil)) pe_int) (pg_sub (pv 0) pe_int set_list))
          (pss_one (ps_asg (pe_ifExp (pt_cmpR op_ge (pv 2) (pe_op op_pow pe_int pe_int) (nomark _)) (pv 2) pe_int) (pg_sub (pv 0) pe_int set_list))))))
      (pss_cons (ps_if (pt_cmpR op_gt (pe_ix ix_list (pv 0) pe_int (fun _ _ => rfl)) pe_int (nomark _))
          (pss_cons (ps_set (i := 3) scDraw.nd rfl (Or.inl rfl) (pe_op op_mod (pe_callTy call_int1 (by rfl) T.int boot_int (pa_cons (pe_ix ix_list (pv 0) pe_int (fun _ _ => rfl)) pa_nil)) (pv 1)))
          (pss_cons (ps_asg (pe_op op_fdiv (pe_ix ix_list (pv 0) pe_int (fun _ _ => rfl)) (pv 1)) (pg_sub (pv 0) pe_int set_list))
          (pss_one (ps_ret (pv 3)))))
          pss_nil)
      (pss_cons (ps_set (i := 4) scDraw.nd rfl (Or.inl rfl) (pe_op op_mod (pe_callTy call_int1 (by rfl) T.int boot_int (pa_cons (pe_op op_pow (pe_op op_add (pe_op op_add (pe_ix ix_list (pv 0) pe_int (fun _ _ => rfl)) (pe_op op_mul pe_int (pe_ix ix_list (pv 0) pe_int (fun _ _ => rfl)))) pe_int) pe_int) pa_nil)) pe_int))
      (pss_one (ps_ret (pe_op op_mod (pe_op op_mod (pe_callTy call_int1 (by rfl) T.int boot_int (pa_cons (pe_op op_pow (pe_op op_add (pe_op op_add (pe_op op_mul (pv 4) pe_int) (pe_op op_mul pe_int (pe_ix ix_list (pv 0) pe_int (fun _ _ => rfl)))) pe_int) pe_int) pa_nil)) pe_int) (pv 1))))))), ?_⟩
    have hab := hS.ne
    obtain ⟨ns, c1, c2, c3, hA, hB, hl, p1, p2, p2', p3, p3'⟩ := hS
    -- stream[2] = stream[2] + 1
    refine ⟨_, rfl, a, _, 2, .int c2, rfl, rfl, SqL.of hA, rfl, _, _, rfl, rfl, _, rfl, a, _, 2, 2, rfl, rfl, hA, rfl, ?_⟩
    have eA : upd H a (.lst [.ref b, .int c1, .int (c2 + 1), .int c3]) a = some (.lst [.ref b, .int c1, .int (c2 + 1), .int c3]) := upd_same
    refine ⟨fun σ H2 => ∃ (ms : List Int) (d1 d3 : Int) (x2 : Option V), σ = [some (.ref a), some (.int m), x2, none, none] ∧ ExS a b H H2 ∧ H2 a = some (.lst [.ref b, .int d1, .int (c2 + 1), .int d3]) ∧
        H2 b = some (.lst (ms.map V.int)) ∧ ms.length ≤ 63 ∧ 0 ≤ d1 ∧ 0 ≤ d3 ∧ d3 < 2147483647, ?_, ?_⟩
    · refine ⟨fun mm σ H1 => ∃ (ms : List Int) (d1 d3 : Int) (x2 : Option V), σ = [some (.ref a), some (.int m), x2, none, none] ∧ ExS a b H H1 ∧ H1 a = some (.lst [.ref b, .int d1, .int (c2 + 1), .int d3]) ∧
          H1 b = some (.lst (ms.map V.int)) ∧ ms.length ≤ 63 ∧ ms.length = mm ∧ 0 ≤ d1 ∧ 0 ≤ d3 ∧ d3 < 2147483647, ⟨ns.length, ns, c1, c3, none, rfl, (ExS.rfl (H := H)).upda, eA, by rw [upd_ne hab.symm]; exact hB, hl, rfl, p1, p3, p3'⟩, ?_⟩
      rintro mm σ H1 ⟨ms, d1, d3, x2, rfl, hX, hA1, hB1, hl1, rfl, q1, q3, q3'⟩
      refine ⟨_, rfl, a, _, 1, .int d1, rfl, rfl, SqL.of hA1, rfl, rfl, _, rfl, ?_⟩
      by_cases hd : d1 = 0
      · subst hd
        refine iteT ?_
        refine ⟨_, rfl, a, _, 0, .ref b, rfl, rfl, SqL.of hA1, rfl, Nat.zero_le _, fun l hl0 => ?_⟩
        have hbl : b ≠ l := ne_of_none hB1 hl0
        have hal : a ≠ l := ne_of_none hA1 hl0
        have hB2 : upd H1 l (.lst []) b = some (.lst (ms.map V.int)) := by rw [upd_ne hbl]; exact hB1
        have hA2 : upd H1 l (.lst []) a = some (.lst [.ref b, .int 0, .int (c2 + 1), .int d3]) := by rw [upd_ne hal]; exact hA1
        refine ⟨.list (ms.map PyData.int), .list [], .lst (SqL.of hB2) (dp_ints ms), .lst (SqL.of upd_same) .nil, shaped_ints ms, rfl, _, rfl, ?_⟩
        rw [eqv_ints_nil]
        cases ms with
        | nil =>
          refine iteF ?_
          exact ⟨[], 0, d3, x2, rfl, hX.new hl0, hA2, hB2, hl1, q1, q3, q3'⟩
        | cons c ms =>
          refine iteT ?_
          refine ⟨fun σ H3 => ∃ (d1 d3 : Int) (x2 : Option V), σ = [some (.ref a), some (.int m), x2, none, none] ∧ ExS a b H H3 ∧ H3 a = some (.lst [.ref b, .int d1, .int (c2 + 1), .int d3]) ∧
            H3 b = some (.lst (ms.map V.int)) ∧ 0 ≤ d1 ∧ 0 ≤ d3 ∧ d3 < 2147483647, ?_, ?_⟩
          · rintro σ' H' ⟨d1, d3, x2, e, z1, z2, z3, z4, z5, z6⟩
            exact ⟨ms.length, Nat.lt_succ_self _, ms, d1, d3, x2, e, z1, z2, z3, by have : (c :: ms).length ≤ 63 := hl1; rw [List.length_cons] at this; omega, rfl, z4, z5, z6⟩
          · -- cell = abs(stream[0].pop(0))
            refine ⟨_, rfl, a, _, 0, .ref b, rfl, rfl, SqL.of hA2, rfl, .inl ⟨rfl, _, SqL.of hB2⟩, b, _, 0, 0, .int c, rfl, rfl, hB2, by decide, by decide, seqIndex_of (k := 0) (by decide) (by show (0 : Int) < (((c :: ms).map V.int).length : Int); rw [List.length_map, List.length_cons]; omega), rfl, _, rfl, ?_⟩
            have hA3 : upd (upd H1 l (.lst [])) b (.lst (ms.map V.int)) a = some (.lst [.ref b, .int 0, .int (c2 + 1), .int d3]) := by rw [upd_ne hab]; exact hA2
            -- stream[3] = int(stream[3] * 8191 + cell + 3) % 2147483647
            generalize hcell : (if c < 0 then -c else c) = cell
            have hc0 : 0 ≤ cell := by rw [← hcell]; split <;> omega
            refine ⟨_, rfl, a, _, 3, .int d3, rfl, rfl, SqL.of hA3, rfl, _, _, rfl, rfl, .inr ⟨by decide, by decide⟩, _, rfl, _, _, rfl, rfl, _, _, rfl, rfl, .inl ⟨_, rfl, ?_⟩⟩
            refine ⟨_, _, rfl, rfl, (by show (0 : Int) < 2147483647; decide), _, rfl, a, _, 3, 3, rfl, rfl, hA3, rfl, ?_⟩
            -- stream[1] = cell if cell >= 10 ** 18 else 0
            refine ⟨_, rfl, _, _, rfl, rfl, ⟨by decide, by decide, by decide⟩, _, _, rfl, rfl, _, rfl, ?_⟩
            refine ite2 (fun _ => ?_) (fun _ => ?_)
            · refine ⟨_, rfl, _, rfl, a, _, 1, 1, rfl, rfl, upd_same, rfl, ?_⟩
              exact ⟨cell, _, _, rfl, (((hX.new hl0).updb).upda).upda, upd_same, by rw [upd_ne hab.symm, upd_ne hab.symm, upd_same]; rfl, hc0, Int.emod_nonneg _ (by decide), Int.emod_lt_of_pos _ (by decide)⟩
            · refine ⟨_, rfl, a, _, 1, 1, rfl, rfl, upd_same, rfl, ?_⟩
              exact ⟨0, _, _, rfl, (((hX.new hl0).updb).upda).upda, upd_same, by rw [upd_ne hab.symm, upd_ne hab.symm, upd_same]; rfl, Int.le_refl _, Int.emod_nonneg _ (by decide), Int.emod_lt_of_pos _ (by decide)⟩
      · have e : decide (V.int d1 = V.int 0) = false := decide_eq_false (fun e => hd (V.int.inj e))
        rw [e]
        refine iteF ?_
        refine iteF ?_
        exact ⟨ms, d1, d3, x2, rfl, hX, hA1, hB1, hl1, q1, q3, q3'⟩
    · rintro σ H2 ⟨ms, d1, d3, x2, rfl, hX, hA2, hB2, hl2, q1, q3, q3'⟩
      refine ⟨_, rfl, a, _, 1, .int d1, rfl, rfl, SqL.of hA2, rfl, _, _, rfl, rfl, _, rfl, ?_⟩
      refine ite2 (fun hp => ?_) (fun hp => ?_)
      · refine ⟨_, rfl, a, _, 1, .int d1, rfl, rfl, SqL.of hA2, rfl, .inl ⟨_, rfl, _, rfl, _, _, rfl, rfl, hm0, ?_⟩⟩
        refine ⟨_, rfl, a, _, 1, .int d1, rfl, rfl, SqL.of hA2, rfl, _, rfl, _, _, rfl, rfl, ⟨hm0, by omega⟩, _, rfl, a, _, 1, 1, rfl, rfl, hA2, rfl, ?_⟩
        refine ⟨_, rfl, ?_⟩
        refine k _ _ hX.upda ⟨ms, d1 / m, c2 + 1, d3, upd_same, by rw [upd_ne hab.symm]; exact hB2, hl2, Int.ediv_nonneg q1 (by omega), by omega, by omega, q3, q3'⟩ (Int.emod_nonneg _ (by omega)) (Int.emod_lt_of_pos _ hm0)
      · refine ⟨_, rfl, a, _, 3, .int d3, rfl, rfl, SqL.of hA2, rfl, _, rfl, a, _, 2, .int (c2 + 1), rfl, rfl, SqL.of hA2, rfl, _, _, rfl, rfl, .inl ⟨by decide, by decide⟩, _, _, rfl, rfl, _, _, rfl, rfl, _, _, rfl, rfl, ⟨by decide, by decide, ?_⟩, .inl ⟨_, rfl, ?_⟩⟩
        · have : (2:Nat) ^ 64 = 18446744073709551616 := by decide
          rw [this]
          omega
        refine ⟨_, _, rfl, rfl, (by show (0 : Int) < 2147483629; decide), ?_⟩
        generalize hmx : ((d3 + 7919 * (c2 + 1) + 104729) ^ (5 : Int).toNat % 2147483629 : Int) = mx
        have hx0 : 0 ≤ mx := by rw [← hmx]; exact Int.emod_nonneg _ (by decide)
        have hx1 : mx < 2147483629 := by rw [← hmx]; exact Int.emod_lt_of_pos _ (by decide)
        refine ⟨_, rfl, _, _, rfl, rfl, .inr ⟨by decide, by decide⟩, _, rfl, a, _, 2, .int (c2 + 1), rfl, rfl, SqL.of hA2, rfl, _, _, rfl, rfl, .inl ⟨by decide, by decide⟩, _, _, rfl, rfl, _, _, rfl, rfl, _, _, rfl, rfl, ⟨by decide, by decide, ?_⟩, .inl ⟨_, rfl, ?_⟩⟩
        · have : (2:Nat) ^ 64 = 18446744073709551616 := by decide
          rw [this]
          omega
        refine ⟨_, _, rfl, rfl, (by show (0 : Int) < 1000000007; decide), _, rfl, _, _, rfl, rfl, hm0, ?_⟩
        exact k _ _ hX ⟨ms, d1, c2 + 1, d3, hA2, hB2, hl2, q1, by omega, by omega, q3, q3'⟩ (Int.emod_nonneg _ (by omega)) (Int.emod_lt_of_pos _ hm0)
end
end AA

set_option Elab.async false
set_option linter.all false
set_option maxRecDepth 100000
set_option maxHeartbeats 4000000
namespace AA
open PySem PySem.Spec PyProof.Rows L2 Evl
section
variable {P : Program} {w : World} {K : PySem.W.Frag} {mg : Str → Option Value} {base : Heap}
/-! ### _law_stream -/
def spStream (K : PySem.W.Frag) : Sp := fun vs H Q _ => ∃ (s : Addr) (ns : List Int), vs = [.ref s] ∧ SqL K H s (ns.map V.int) ∧ ns.length ≤ 63 ∧
  ∀ (H' : Hp) (a b : Addr), Ex H H' → H a = none → H b = none → SAt H' a b 0 → Q (.ref a) H'
theorem scStream : FnScope ["_law_script"] ["_law_script"] (defScope sStream) := ⟨rfl, rfl, rfl, by decide +kernel, rfl, by decide +kernel, by decide +kernel⟩
theorem ok_stream {f : Addr} {fd : FuncData} (F : L2.Fun K "_law_stream" "_law_stream" sStream f fd) (T : Bn mg) : FnOk P w K mg base CX0 1 f fd ["_law_script"] (spStream K) := by
  refine F.ok scStream (fun vs H Q E h => ?_) (fun cdv A outer s H vs Q E hr h => ?_)
  · obtain ⟨a, ns, rfl, _⟩ := h
    rfl
  · obtain ⟨s0, ns, rfl, hS, hl, k⟩ := h
    refine ⟨_, pss_one (ps_ret (pe_lst (pa_cons (pe_callTy call_list_of (by rfl) T.list boot_list (pa_cons (pv 0) pa_nil)) (pa_cons pe_int (pa_cons pe_int (pa_cons pe_int pa_nil)))))), ?_⟩
    refine ⟨_, rfl, s0, _, rfl, .inl hS, fun b hb => ⟨by show 4 ≤ sizeLine; decide, fun a ha => ?_⟩⟩
    have hba : b ≠ a := ne_of_none upd_same ha
    have ha0 : H a = none := fresh_back (Ex.new hb) ha
    exact k _ a b ((Ex.new hb).trans (Ex.new ha)) ha0 hb ⟨ns, 0, 0, 17, upd_same, by rw [upd_ne hba]; exact upd_same, hl, by decide, by decide, by decide, by decide, by decide⟩

/-! ### _law_pick -/
def spPick (K : PySem.W.Frag) : Sp := fun vs H Q _ => ∃ (a b : Addr) (n : Nat) (t : Addr) (xs : List V), vs = [.ref a, .ref t] ∧ SAt H a b n ∧ n < 1000000000 ∧ SqL K (hid a b H) t xs ∧ 0 < xs.length ∧ xs.length < 1000000 ∧
  ∀ (H' : Hp) (i : Nat) (x : V), ExS a b H H' → SAt H' a b (n + 1) → xs[i]? = some x → Q x H'
theorem scPick : FnScope ["_law_stream_here", "_law_things"] ["_law_stream_here", "_law_things"] (defScope sPick) := ⟨rfl, rfl, rfl, by decide +kernel, rfl, by decide +kernel, by decide +kernel⟩
theorem ok_pick {f : Addr} {fd : FuncData} (F : L2.Fun K "_law_pick" "_law_pick" sPick f fd) (T : Bn mg) (cD : C8.Cal P w K mg base 1 "_law_draw" spDraw []) : FnOk P w K mg base CX0 2 f fd ["_law_stream_here", "_law_things"] (spPick K) := by
  refine F.ok scPick (fun vs H Q E h => ?_) (fun cdv A outer s H vs Q E hr h => ?_)
  · obtain ⟨a, b, n, t, xs, rfl, _⟩ := h
    rfl
  · obtain ⟨a, b, n, t, xs, rfl, hS, hn, hX, h0, h1, k⟩ := h
    refine ⟨_, pss_one (ps_ret (pe_ix ix_list (pv 1) (C8.pe_c cD hr (by decide) (by rfl) (pa_cons (pv 0) (pa_cons (pe_callB call_len_seq (by rfl) T.len PySem.boot_len (pa_cons (pv 1) pa_nil)) pa_nil))) (fun _ _ => rfl))), ?_⟩
    refine ⟨_, rfl, _, rfl, _, rfl, t, xs, rfl, .inl (ex_l hid_ex hX), a, b, n, _, rfl, hS, hn, by omega, by omega, fun H' i hE hS' i0 i1 => ?_⟩
    obtain ⟨j, rfl⟩ : ∃ j : Nat, i = (j : Int) := ⟨i.toNat, by omega⟩
    have hj : j < xs.length := by omega
    refine ⟨t, xs, (j : Int), xs[j], rfl, rfl, ex_l (hid_ex) (ex_l hE hX), atI_nat (List.getElem?_eq_getElem hj), ?_⟩
    exact k H' j _ hE hS' (List.getElem?_eq_getElem hj)

/-! ### _law_mixed -/
def spMixed (K : PySem.W.Frag) : Sp := fun vs H Q _ => ∃ (a b : Addr) (n : Nat) (t : Addr) (xs : List V), vs = [.ref a, .ref t] ∧ SAt H a b n ∧ SqL K (hid a b H) t xs ∧ n + xs.length < 1000000000 ∧ xs.length < 1000000 ∧
  ∀ (H' : Hp) (p : Addr) (ys : List V), ExS a b H H' → SAt H' a b (n + xs.length) → H p = none → H' p = some (.lst ys) → ys.Perm xs → Q (.ref p) H'
theorem scMixed : FnScope ["_law_stream_here", "_law_things", "_law_left", "_law_found", "_law_k"] ["_law_stream_here", "_law_things"] (defScope sMixed) := ⟨rfl, rfl, rfl, by decide +kernel, rfl, by decide +kernel, by decide +kernel⟩
theorem perm_erase {α : Type} : ∀ {l : List α} {i : Nat} {x : α}, l[i]? = some x → (x :: l.eraseIdx i).Perm l
  | [], _, _, h => by simp at h
  | y :: r, 0, x, h => by
    cases (Option.some.inj h)
    exact List.Perm.refl _
  | y :: r, i + 1, x, h => by
    have h' : r[i]? = some x := h
    have ih := perm_erase h'
    exact (List.Perm.swap y x _).trans (ih.cons y)
theorem ok_mixed {f : Addr} {fd : FuncData} (F : L2.Fun K "_law_mixed" "_law_mixed" sMixed f fd) (T : Bn mg) (cD : C8.Cal P w K mg base 1 "_law_draw" spDraw []) : FnOk P w K mg base CX0 2 f fd ["_law_stream_here", "_law_things"] (spMixed K) := by
  refine F.ok scMixed (fun vs H Q E h => ?_) (fun cdv A outer s H vs Q E hr h => ?_)
  · obtain ⟨a, b, n, t, xs, rfl, _⟩ := h
    rfl
  · obtain ⟨a, b, n, t, xs, rfl, hS, hX, hn, h1, k⟩ := h
    refine ⟨_, pss_cons (ps_par (i := 2) (j := 3) (by rfl) scMixed.nd rfl rfl (by decide) rfl rfl (pa_cons (pe_callTy call_list_of (by rfl) T.list boot_list (pa_cons (pv 1) pa_nil)) (pa_cons (pe_lst pa_nil) pa_nil)) (by rfl))
      (pss_cons (ps_for PassesOwn.never rfl (pi_range1 rfl T.range (pa_cons (pe_callB call_len_seq (by rfl) T.len PySem.boot_len (pa_cons (pv 2) pa_nil)) pa_nil)) (pg_name (i := 4) scMixed.nd rfl (Or.inl rfl))
        (pss_one (ps_expr (pe_bm PySem.F.plainAttrs_list PySem.F.slot_list_append PySem.F.type_list_append mt_append (pv 3)
          (pa_cons (pe_bm PySem.F.plainAttrs_list PySem.F.slot_list_pop PySem.F.type_list_pop mt_popAt (pv 2) (pa_cons (C8.pe_c cD hr (by decide) (by rfl) (pa_cons (pv 0) (pa_cons (pe_callB call_len_seq (by rfl) T.len PySem.boot_len (pa_cons (pv 2) pa_nil)) pa_nil))) pa_nil)) pa_nil)))))
      (pss_one (ps_ret (pv 3)))), ?_⟩
    refine ⟨_, rfl, t, xs, rfl, .inl (ex_l hid_ex hX), fun l hl => ⟨Nat.zero_le _, fun g hg => ?_⟩⟩
    have hlg : l ≠ g := ne_of_none upd_same hg
    have hg0 : H g = none := fresh_back (Ex.new hl) hg
    have ee : Ex H (upd (upd H l (.lst xs)) g (.lst [])) := (Ex.new hl).trans (Ex.new hg)
    have hL : upd (upd H l (.lst xs)) g (.lst []) l = some (.lst xs) := by rw [upd_ne hlg]; exact upd_same
    refine ⟨_, _, rfl, ?_⟩
    refine ⟨_, rfl, l, xs, rfl, .inl (SqL.of hL), (xs.length : Int), rfl, ?_, ?_, for_range (lo := 0) (n := ((xs.length : Int)).toNat) (fun i σ H1 => ∃ (zs ys : List V) (x4 : Option V), σ = [some (.ref a), some (.ref t), some (.ref l), some (.ref g), x4] ∧
        ExS a b H H1 ∧ SAt H1 a b (n + i) ∧ H1 l = some (.lst zs) ∧ H1 g = some (.lst ys) ∧ (ys ++ zs).Perm xs ∧ ys.length = i) ?_ ?_ ?_⟩
    · omega
    · omega
    · exact ⟨xs, [], none, rfl, hid_mono ee, hS.ex ee, hL, upd_same, List.Perm.refl _, rfl⟩
    · rintro i σ H1 hi ⟨zs, ys, x4, rfl, hE, hS1, hL1, hG1, hp, hy⟩
      have hlen := hp.length_eq
      rw [List.length_append] at hlen
      have hz : 0 < zs.length := by omega
      refine ⟨_, rfl, .inl ⟨rfl, _, SqL.of hG1⟩, _, rfl, .inl ⟨rfl, _, SqL.of hL1⟩, _, rfl, _, rfl, l, zs, rfl, .inl (SqL.of hL1), a, b, n + i, _, rfl, hS1, by omega, by omega, by omega, fun H2 j hE2 hS2 j0 j1 => ?_⟩
      obtain ⟨j, rfl⟩ : ∃ m : Nat, j = (m : Int) := ⟨j.toNat, by omega⟩
      have hj : j < zs.length := by omega
      have la := hS.nea hl
      have lb := hS.neb hl
      have ga := hS.nea hg0
      have gb := hS.neb hg0
      have hL2 := hE2.at hL1 la lb
      have hG2 := hE2.at hG1 ga gb
      refine ⟨l, zs, (j : Int), j, zs[j], rfl, rfl, hL2, by omega, by omega, by rw [seqIndex_of (by omega) (by omega)]; rfl, List.getElem?_eq_getElem hj, ?_⟩
      have hG3 : upd H2 l (.lst (zs.eraseIdx j)) g = some (.lst ys) := by rw [upd_ne hlg.symm]; exact hG2
      refine ⟨g, ys, _, rfl, rfl, hG3, by rw [hy]; exact sz_m (by omega), ?_⟩
      refine ⟨zs.eraseIdx j, ys ++ [zs[j]], _, rfl, ?_, ((hS2.upd la lb).upd ga gb), by rw [upd_ne hlg]; exact upd_same, upd_same, ?_, by rw [List.length_append, hy]; rfl⟩
      · exact ExS.own (ExS.own (hE.trans hE2) hl la lb) hg0 ga gb
      · have q := perm_erase (List.getElem?_eq_getElem hj)
        rw [List.append_assoc]
        exact (List.Perm.append_left ys q).trans hp
    · rintro σ H1 ⟨zs, ys, x4, rfl, hE, hS1, hL1, hG1, hp, hy⟩
      have e : (xs.length : Int).toNat = xs.length := by omega
      have hz : zs = [] := by
        have hlen := hp.length_eq
        rw [List.length_append] at hlen
        exact List.eq_nil_of_length_eq_zero (by omega)
      subst hz
      rw [List.append_nil] at hp
      rw [e] at hS1
      exact ⟨_, rfl, k H1 g ys hE hS1 hg0 hG1 hp⟩
end
end AA

set_option Elab.async false
set_option linter.all false
set_option maxRecDepth 100000
set_option maxHeartbeats 4000000
namespace AA
open PySem PySem.Spec PyProof.Rows L2 Evl
section
variable {P : Program} {w : World} {K : PySem.W.Frag} {mg : Str → Option Value} {base : Heap}
/-! ### _law_amounts -/
def spAmounts : Sp := fun vs H Q _ => ∃ (a b : Addr) (n : Nat) (m : Int), vs = [.ref a, .int m] ∧ SAt H a b n ∧ n < 900000000 ∧
  ∀ (H' : Hp) (p : Addr) (x y : Int), ExS a b H H' → SAt H' a b (n + 2) → H p = none → H' p = some (.tup [.int x, .int y]) → -9 ≤ x → x ≤ 9 → -9 ≤ y → y ≤ 9 → Q (.ref p) H'
theorem scAmounts : FnScope ["_law_stream_here", "_law_way"] ["_law_stream_here", "_law_way"] (defScope sAmounts) := ⟨rfl, rfl, rfl, by decide +kernel, rfl, by decide +kernel, by decide +kernel⟩
theorem dec_int {x y : Int} : decide (V.int x = V.int y) = decide (x = y) := by
  by_cases h : x = y
  · subst h
    rw [decide_eq_true rfl, decide_eq_true rfl]
  · rw [decide_eq_false h, decide_eq_false (fun e => h (V.int.inj e))]
theorem dec_ite {A B : Prop} {p : Prop} [Decidable p] (h1 : p → A) (h2 : ¬ p → B) : if decide p = true then A else B := by
  by_cases h : p
  · rw [if_pos (decide_eq_true h)]
    exact h1 h
  · rw [if_neg (by rw [decide_eq_false h]; exact Bool.false_ne_true)]
    exact h2 h
theorem ok_amounts {f : Addr} {fd : FuncData} (F : L2.Fun K "_law_amounts" "_law_amounts" sAmounts f fd) (T : Bn mg) (cD : C8.Cal P w K mg base 1 "_law_draw" spDraw []) (cP : C8.Cal P w K mg base 2 "_law_pick" (spPick K) []) :
    FnOk P w K mg base CX0 3 f fd ["_law_stream_here", "_law_way"] spAmounts := by
  refine F.ok scAmounts (fun vs H Q E h => ?_) (fun cdv A outer s H vs Q E hr h => ?_)
  · obtain ⟨a, b, n, m, rfl, _⟩ := h
    rfl
  · obtain ⟨a, b, n, m, rfl, hS, hn, k⟩ := h
    refine ⟨_, pss_cons (ps_if (pt_cmpR op_eq (pv 1) pe_int (nomark _)) (pss_one (ps_ret (pe_tup (pa_cons (C8.pe_c cD hr (by decide) (by rfl) (pa_cons (pv 0) (pa_cons pe_int pa_nil))) (pa_cons (C8.pe_c cD hr (by decide) (by rfl) (pa_cons (pv 0) (pa_cons pe_int pa_nil))) pa_nil))))) pss_nil)
      (pss_cons (ps_if (pt_cmpR op_eq (pv 1) pe_int (nomark _)) (pss_one (ps_ret (pe_tup (pa_cons (pe_op op_sub (C8.pe_c cD hr (by decide) (by rfl) (pa_cons (pv 0) (pa_cons pe_int pa_nil))) pe_int) (pa_cons (pe_op op_sub (C8.pe_c cD hr (by decide) (by rfl) (pa_cons (pv 0) (pa_cons pe_int pa_nil))) pe_int) pa_nil))))) pss_nil)
      (pss_cons (ps_if (pt_cmpR op_eq (pv 1) pe_int (nomark _)) (pss_one (ps_ret (pe_tup (pa_cons (pe_op op_sub (C8.pe_c cD hr (by decide) (by rfl) (pa_cons (pv 0) (pa_cons pe_int pa_nil))) pe_int) (pa_cons (pe_op op_sub (C8.pe_c cD hr (by decide) (by rfl) (pa_cons (pv 0) (pa_cons pe_int pa_nil))) pe_int) pa_nil))))) pss_nil)
      (pss_one (ps_ret (pe_tup (pa_cons (C8.pe_c cP hr (by decide) (by rfl) (pa_cons (pv 0) (pa_cons (pe_lst (pa_cons pe_int (pa_cons pe_int (pa_cons pe_int (pa_cons pe_int (pa_cons pe_int pa_nil)))))) pa_nil)))
        (pa_cons (C8.pe_c cP hr (by decide) (by rfl) (pa_cons (pv 0) (pa_cons (pe_lst (pa_cons pe_int (pa_cons pe_int (pa_cons pe_int (pa_cons pe_int (pa_cons pe_int pa_nil)))))) pa_nil))) pa_nil))))))), ?_⟩
    refine ⟨_, rfl, rfl, _, rfl, ?_⟩
    refine ite2 (fun _ => ?_) (fun _ => ?_)
    · refine ⟨_, rfl, a, b, n, _, rfl, hS, by omega, by decide, by decide, fun H1 x e1 s1 x0 x1 => ?_⟩
      refine ⟨_, rfl, a, b, n + 1, _, rfl, s1, by omega, by decide, by decide, fun H2 y e2 s2 y0 y1 => ?_⟩
      refine ⟨by show 2 ≤ sizeLine; decide, fun p hp => ?_⟩
      exact k _ p x y (ExS.new (e1.trans e2) hp) (s2.ex (Ex.new hp)) (ExS.back (e1.trans e2) s2 hp) upd_same (by omega) (by omega) (by omega) (by omega)
    · refine ⟨_, rfl, rfl, _, rfl, ?_⟩
      refine ite2 (fun _ => ?_) (fun _ => ?_)
      · refine ⟨_, rfl, a, b, n, _, rfl, hS, by omega, by decide, by decide, fun H1 x e1 s1 x0 x1 => ?_⟩
        refine ⟨_, _, rfl, rfl, _, rfl, a, b, n + 1, _, rfl, s1, by omega, by decide, by decide, fun H2 y e2 s2 y0 y1 => ?_⟩
        refine ⟨_, _, rfl, rfl, by show 2 ≤ sizeLine; decide, fun p hp => ?_⟩
        exact k _ p (x - 4) (y - 4) (ExS.new (e1.trans e2) hp) (s2.ex (Ex.new hp)) (ExS.back (e1.trans e2) s2 hp) upd_same (by omega) (by omega) (by omega) (by omega)
      · refine ⟨_, rfl, rfl, _, rfl, ?_⟩
        refine ite2 (fun _ => ?_) (fun _ => ?_)
        · refine ⟨_, rfl, a, b, n, _, rfl, hS, by omega, by decide, by decide, fun H1 x e1 s1 x0 x1 => ?_⟩
          refine ⟨_, _, rfl, rfl, _, rfl, a, b, n + 1, _, rfl, s1, by omega, by decide, by decide, fun H2 y e2 s2 y0 y1 => ?_⟩
          refine ⟨_, _, rfl, rfl, by show 2 ≤ sizeLine; decide, fun p hp => ?_⟩
          exact k _ p (x - 9) (y - 9) (ExS.new (e1.trans e2) hp) (s2.ex (Ex.new hp)) (ExS.back (e1.trans e2) s2 hp) upd_same (by omega) (by omega) (by omega) (by omega)
        · refine ⟨_, rfl, by show 5 ≤ sizeLine; decide, fun l hl => ?_⟩
          have la := hS.nea hl
          have lb := hS.neb hl
          refine ⟨a, b, n, l, _, rfl, hS.upd la lb, by omega, SqL.of (by rw [hid_ne la lb]; exact upd_same), by decide, by decide, fun H1 i x e1 s1 hi => ?_⟩
          obtain ⟨c, hc, rfl⟩ := get_ints (ns := [0, 0, 0, 1, 3]) hi
          have hc1 : ∀ z ∈ ([0, 0, 0, 1, 3] : List Int), -9 ≤ z ∧ z ≤ 9 := by decide
          have hcb := hc1 c (mem_of_get hc)
          refine ⟨_, rfl, by show 5 ≤ sizeLine; decide, fun l2 hl2 => ?_⟩
          have la2 := s1.nea hl2
          have lb2 := s1.neb hl2
          refine ⟨a, b, n + 1, l2, _, rfl, s1.upd la2 lb2, by omega, SqL.of (by rw [hid_ne la2 lb2]; exact upd_same), by decide, by decide, fun H2 i2 y e2 s2 hi2 => ?_⟩
          obtain ⟨d, hd, rfl⟩ := get_ints (ns := [0, 0, 0, 1, 2]) hi2
          have hd1 : ∀ z ∈ ([0, 0, 0, 1, 2] : List Int), -9 ≤ z ∧ z ≤ 9 := by decide
          have hdb := hd1 d (mem_of_get hd)
          have ee : ExS a b H H2 := (hid_mono (Ex.new hl)).trans (e1.trans ((hid_mono (Ex.new hl2)).trans e2))
          refine ⟨by show 2 ≤ sizeLine; decide, fun p hp => ?_⟩
          exact k _ p c d (ExS.new ee hp) (s2.ex (Ex.new hp)) (ExS.back ee s2 hp) upd_same hcb.1 hcb.2 hdb.1 hdb.2
end
end AA

set_option Elab.async false
set_option linter.all false
set_option maxRecDepth 100000
set_option maxHeartbeats 4000000
namespace AA
open PySem PySem.Spec PyProof.Rows L2 Evl
section
variable {P : Program} {w : World} {K : PySem.W.Frag} {mg : Str → Option Value} {base : Heap}
/-! ### _law_step -/
def spStep (K : PySem.W.Frag) : Sp := fun vs H Q _ => ∃ (a b : Addr) (n : Nat) (o t m : Int), vs = [.ref a, .int o, .int t, .int m] ∧ SAt H a b n ∧ n < 800000000 ∧
  ∀ (H' : Hp) (p : Addr) (s : St5), ExS a b H H' → SAt H' a b (n + 5) → H p = none → Dp K (tps H') (.ref p) (stD s) → s.one = o → s.other = t → 1 ≤ s.ticks → StSm s → Q (.ref p) H'
theorem scStep : FnScope ["_law_stream_here", "_law_one", "_law_other", "_law_way", "_law_ticks", "_law_change"] ["_law_stream_here", "_law_one", "_law_other", "_law_way"] (defScope sStep) := ⟨rfl, rfl, rfl, by decide +kernel, rfl, by decide +kernel, by decide +kernel⟩
theorem ok_step {f : Addr} {fd : FuncData} (F : L2.Fun K "_law_step" "_law_step" sStep f fd) (T : Bn mg) (cD : C8.Cal P w K mg base 1 "_law_draw" spDraw []) (cP : C8.Cal P w K mg base 2 "_law_pick" (spPick K) []) (cA : C8.Cal P w K mg base 3 "_law_amounts" spAmounts []) :
    FnOk P w K mg base CX0 4 f fd ["_law_stream_here", "_law_one", "_law_other", "_law_way"] (spStep K) := by
  refine F.ok scStep (fun vs H Q E h => ?_) (fun cdv A outer s H vs Q E hr h => ?_)
  · obtain ⟨a, b, n, o, t, m, rfl, _⟩ := h
    rfl
  · obtain ⟨a, b, n, o, t, m, rfl, hS, hn, k⟩ := h
    refine ⟨_, pss_cons (ps_set (i := 4) scStep.nd rfl (Or.inl rfl) (pe_op op_add pe_int (C8.pe_c cD hr (by decide) (by rfl) (pa_cons (pv 0) (pa_cons (C8.pe_c cP hr (by decide) (by rfl) (pa_cons (pv 0) (pa_cons (pe_lst (pa_cons pe_int (pa_cons pe_int (pa_cons pe_int pa_nil)))) pa_nil))) pa_nil)))))
      (pss_cons (ps_set (i := 5) scStep.nd rfl (Or.inl rfl) (C8.pe_c cP hr (by decide) (by rfl) (pa_cons (pv 0) (pa_cons (pe_lst (pa_cons pe_int (pa_cons pe_int (pa_cons pe_int (pa_cons (pe_un un_neg pe_int) (pa_cons pe_int (pa_cons (pe_un un_neg pe_int) (pa_cons pe_int (pa_cons (pe_un un_neg pe_int) (pa_cons pe_int pa_nil)))))))))) pa_nil))))
      (pss_one (ps_ret (pe_tup (pa_cons (pv 1) (pa_cons (pv 2) (pa_cons (C8.pe_c cA hr (by decide) (by rfl) (pa_cons (pv 0) (pa_cons (pv 3) pa_nil))) (pa_cons (pv 4) (pa_cons (pv 5) pa_nil))))))))), ?_⟩
    -- ticks
    refine ⟨_, rfl, _, rfl, by show 3 ≤ sizeLine; decide, fun l hl => ?_⟩
    have la := hS.nea hl
    have lb := hS.neb hl
    refine ⟨a, b, n, l, _, rfl, hS.upd la lb, by omega, SqL.of (by rw [hid_ne la lb]; exact upd_same), by decide, by decide, fun H1 i x e1 s1 hi => ?_⟩
    obtain ⟨c, hc, rfl⟩ := get_ints (ns := [1, 2, 6]) hi
    have hc1 : ∀ z ∈ ([1, 2, 6] : List Int), 1 ≤ z ∧ z ≤ 6 := by decide
    have hcb := hc1 c (mem_of_get hc)
    refine ⟨a, b, n + 1, c, rfl, s1, by omega, by omega, by omega, fun H2 d e2 s2 d0 d1 => ?_⟩
    refine ⟨_, _, rfl, rfl, ?_⟩
    -- change
    refine ⟨_, rfl, _, rfl, _, rfl, _, rfl, by show 9 ≤ sizeLine; decide, fun l2 hl2 => ?_⟩
    have la2 := s2.nea hl2
    have lb2 := s2.neb hl2
    refine ⟨a, b, n + 2, l2, _, rfl, s2.upd la2 lb2, by omega, SqL.of (by rw [hid_ne la2 lb2]; exact upd_same), by decide, by decide, fun H3 j y e3 s3 hj => ?_⟩
    obtain ⟨g, hg, rfl⟩ := get_ints (ns := [0, 0, 1, -1, 2, -3, 5, -9, 9]) hj
    have hg1 : ∀ z ∈ ([0, 0, 1, -1, 2, -3, 5, -9, 9] : List Int), -9 ≤ z ∧ z ≤ 9 := by decide
    have hgb := hg1 g (mem_of_get hg)
    have ee : ExS a b H H3 := (hid_mono (Ex.new hl)).trans (e1.trans (e2.trans ((hid_mono (Ex.new hl2)).trans e3)))
    refine ⟨_, rfl, _, rfl, _, rfl, _, rfl, a, b, n + 3, m, rfl, s3, by omega, fun H4 u x y e4 s4 hu hu4 x0 x1 y0 y1 => ?_⟩
    refine ⟨_, rfl, _, rfl, by show 5 ≤ sizeLine; decide, fun p hp => ?_⟩
    have hpu : u ≠ p := ne_of_none hu4 hp
    have hu0 := ExS.back ee s3 hu
    have ua := s3.nea hu
    have ub := s3.neb hu
    have hp0 := ExS.back (ee.trans e4) s4 hp
    have pa := s4.nea hp
    have pb := s4.neb hp
    refine k _ p ⟨o, t, x, y, 1 + d, g⟩ (ExS.new (ee.trans e4) hp) (s4.ex (Ex.new hp)) hp0 (stD_mk (u := u) (SqT.of tps_tup) (SqT.of (tps_of ?_))) rfl rfl (by show 1 ≤ 1 + d; omega) ⟨x0, x1, y0, y1, by show 1 + d ≤ 6; omega, hgb.1, hgb.2⟩
    rw [upd_ne hpu]
    exact hu4
end
end AA

set_option Elab.async false
set_option linter.all false
set_option maxRecDepth 100000
set_option maxHeartbeats 4000000
namespace AA
open PySem PySem.Spec PyProof.Rows L2 Evl
theorem cut_to (xs : List V) (j : Nat) : cutV xs none (some (j : Int)) = xs.take j := by
  unfold cutV
  rw [HT.sIx_none, HT.sIx_nat, List.drop_zero, Nat.sub_zero]
  by_cases h : j ≤ xs.length
  · rw [Nat.min_eq_left h]
  · rw [Nat.min_eq_right (by omega), List.take_of_length_le (by omega), List.take_of_length_le (by omega)]
theorem perm_ints {ys : List V} {ns : List Int} (h : ys.Perm (ns.map V.int)) : ∃ ms : List Int, ys = ms.map V.int ∧ ms.Perm ns := by
  have all : ∀ (ys : List V), (∀ y ∈ ys, ∃ i, y = V.int i) → ∃ ms : List Int, ys = ms.map V.int := by
    intro ys
    induction ys with
    | nil => exact fun _ => ⟨[], rfl⟩
    | cons y r ih =>
      intro q
      obtain ⟨i, rfl⟩ := q y List.mem_cons_self
      obtain ⟨ms, rfl⟩ := ih fun z hz => q z (List.mem_cons_of_mem _ hz)
      exact ⟨i :: ms, rfl⟩
  obtain ⟨ms, rfl⟩ := all ys fun y hy => by
    obtain ⟨i, _, e⟩ := List.mem_map.mp (h.mem_iff.mp hy)
    exact ⟨i, e.symm⟩
  refine ⟨ms, rfl, ?_⟩
  have key := h.map (fun v => match v with | V.int i => i | _ => 0)
  rw [List.map_map, List.map_map] at key
  have e : (fun v => match v with | V.int i => i | _ => (0 : Int)) ∘ V.int = id := rfl
  rw [e, List.map_id, List.map_id] at key
  exact key
theorem rgV_ints (n : Int) : rgV 0 n = ((List.range n.toNat).map (fun i : Nat => (i : Int))).map V.int := by
  unfold rgV
  rw [List.map_map]
  have e : (n - 0).toNat = n.toNat := by congr 1; omega
  rw [e]
  apply List.map_congr_left
  intro i _
  show V.int (0 + (i : Int)) = V.int (i : Int)
  rw [Int.zero_add]
theorem range_nodup (n : Nat) : ((List.range n).map (fun i : Nat => (i : Int))).Nodup := by
  have h : (List.range n).Nodup := List.nodup_range
  rw [List.Nodup, List.pairwise_map]
  exact h.imp fun {x y} q z => q (by omega)
/-- a web as the laws draw it: places, unlike steps between them, small -/
structure WbOk (n : Int) (ss : List St5) : Prop where
  n1 : 1 ≤ n
  ok : ∀ s ∈ ss, StOk n s
  sm : ∀ s ∈ ss, StSm s
  nd : ss.Nodup
theorem WbOk.perm {n : Int} {ss ts : List St5} (h : WbOk n ss) (p : ts.Perm ss) : WbOk n ts := ⟨h.n1, fun s hs => h.ok s (p.mem_iff.mp hs), fun s hs => h.sm s (p.mem_iff.mp hs), p.symm.nodup h.nd⟩
theorem any_eqv (ss : List St5) (s : St5) : ((ss.map stD).any fun z => PyData.eqv z (stD s)) = decide (s ∈ ss) := by
  induction ss with
  | nil => rfl
  | cons t r ih =>
    rw [List.map_cons, List.any_cons, ih, stD_eqv]
    by_cases h : t = s
    · subst h
      rw [decide_eq_true rfl, decide_eq_true List.mem_cons_self]
      rfl
    · rw [decide_eq_false h]
      by_cases q : s ∈ r
      · rw [decide_eq_true q, decide_eq_true (List.mem_cons_of_mem _ q)]
        rfl
      · rw [decide_eq_false q, decide_eq_false (fun z => (List.mem_cons.mp z).elim (fun e => h e.symm) q)]
        rfl
/-- a permutation of items goes with one of what they say -/
theorem dpa_perm {K : PySem.W.Frag} {H : Hp} {xs ys : List V} (p : ys.Perm xs) : ∀ {ss : List St5}, DpAll K H xs (ss.map stD) → ∃ ts : List St5, ts.Perm ss ∧ DpAll K H ys (ts.map stD) := by
  induction p with
  | nil => exact fun {ss} h => ⟨ss, List.Perm.refl _, h⟩
  | @cons x l1 l2 _ ih =>
    intro ss h
    cases ss with
    | nil => cases h
    | cons s r =>
      cases h with
      | cons h1 h2 =>
        obtain ⟨ts, q, k⟩ := ih h2
        exact ⟨s :: ts, q.cons s, .cons h1 k⟩
  | swap x y l =>
    intro ss h
    cases ss with
    | nil => cases h
    | cons s r =>
      cases r with
      | nil =>
        cases h with
        | cons h1 h2 => cases h2
      | cons t r =>
        cases h with
        | cons h1 h2 =>
          cases h2 with
          | cons h2 h3 => exact ⟨t :: s :: r, List.Perm.swap s t r, .cons h2 (.cons h1 h3)⟩
  | trans _ _ ih1 ih2 =>
    intro ss h
    obtain ⟨ts, q, k⟩ := ih2 h
    obtain ⟨us, q2, k2⟩ := ih1 k
    exact ⟨us, q2.trans q, k2⟩
section
variable {P : Program} {w : World} {K : PySem.W.Frag} {mg : Str → Option Value} {base : Heap}
/-! ### _law_web -/
def spWeb (K : PySem.W.Frag) : Sp := fun vs H Q _ => ∃ (a b : Addr) (n : Nat) (o m : Int), vs = [.ref a, .int o, .int m] ∧ SAt H a b n ∧ n < 700000000 ∧ 1 ≤ o ∧ o ≤ 100 ∧ o ≤ m ∧ m ≤ 1000 ∧
  ∀ (H' : Hp) (p l : Addr) (k : Int) (vs : List V) (ss : List St5), ExS a b H H' → SAt H' a b (n + 20000) → H p = none → H l = none → H' p = some (.tup [.int k, .ref l]) → H' l = some (.lst vs) → DpAll K (tps H') vs (ss.map stD) → WbOk k ss → k ≤ o → (ss.length : Int) ≤ m → Q (.ref p) H'
theorem scWeb : FnScope ["_law_stream_here", "_law_most", "_law_many", "_law_places", "_law_way", "_law_found", "_law_ring", "_law_at", "_law_place", "_law_k", "_law_step_here"] ["_law_stream_here", "_law_most", "_law_many"] (defScope sWeb) := ⟨rfl, rfl, rfl, by decide +kernel, rfl, by decide +kernel, by decide +kernel⟩
theorem ok_web {f : Addr} {fd : FuncData} (F : L2.Fun K "_law_web" "_law_web" sWeb f fd) (T : Bn mg) (cD : C8.Cal P w K mg base 1 "_law_draw" spDraw []) (cM : C8.Cal P w K mg base 2 "_law_mixed" (spMixed K) []) (cS : C8.Cal P w K mg base 4 "_law_step" (spStep K) []) :
    FnOk P w K mg base CX0 5 f fd ["_law_stream_here", "_law_most", "_law_many"] (spWeb K) := by
  refine F.ok scWeb (fun vs H Q E h => ?_) (fun cdv A outer s H vs Q E hr h => ?_)
  · obtain ⟨a, b, n, o, m, rfl, _⟩ := h
    rfl
  · obtain ⟨a, b, n, o, m, rfl, hS, hn, o1, o2, om, m2, k⟩ := h
    refine ⟨_, Evl.pss_cut (ps_asg (pe_tup (pa_cons (pe_op op_add pe_int (C8.pe_c cD hr (by decide) (by rfl) (pa_cons (pv 0) (pa_cons (pv 1) pa_nil)))) (pa_cons (C8.pe_c cD hr (by decide) (by rfl) (pa_cons (pv 0) (pa_cons pe_int pa_nil))) (pa_cons (pe_lst pa_nil) (pa_cons (pe_lst pa_nil) pa_nil)))))
        (pg_tup rfl (pgs_cons (pg_name (i := 3) scWeb.nd rfl (.inl rfl)) (pgs_cons (pg_name (i := 4) scWeb.nd rfl (.inl rfl)) (pgs_cons (pg_name (i := 5) scWeb.nd rfl (.inl rfl)) (pgs_cons (pg_name (i := 6) scWeb.nd rfl (.inl rfl)) pgs_nil))))))
      (Evl.pss_cut (ps_if (pt_cmpR op_gt (C8.pe_c cD hr (by decide) (by rfl) (pa_cons (pv 0) (pa_cons pe_int pa_nil))) pe_int (nomark _))
          (pss_one (ps_set (i := 6) scWeb.nd rfl (Or.inl rfl) (pe_slice sl_list (C8.pe_c cM hr (by decide) (by rfl) (pa_cons (pv 0) (pa_cons (pe_listRg (by rfl) (by rfl) T.list (prg_1 (by rfl) T.range (pv 3))) pa_nil))) po_none (po_some (pe_op op_add pe_int (C8.pe_c cD hr (by decide) (by rfl) (pa_cons (pv 0) (pa_cons (pv 3) pa_nil)))))))) pss_nil)
      (Evl.pss_cut (ps_for PassesOwn.never rfl (pi_enum (by rfl) T.enumerate (pa_cons (pv 6) pa_nil)) (pg_tup rfl (pgs_cons (pg_name (i := 7) scWeb.nd rfl (.inl rfl)) (pgs_cons (pg_name (i := 8) scWeb.nd rfl (.inl rfl)) pgs_nil)))
          (pss_one (ps_expr (pe_bm PySem.F.plainAttrs_list PySem.F.slot_list_append PySem.F.type_list_append mt_append (pv 5) (pa_cons (C8.pe_c cS hr (by decide) (by rfl) (pa_cons (pv 0) (pa_cons (pe_ix ix_list (pv 6) (pe_op op_sub (pv 7) pe_int) (fun _ _ => rfl)) (pa_cons (pv 8) (pa_cons (pv 4) pa_nil))))) pa_nil)))))
      (Evl.pss_cut (ps_for PassesOwn.never rfl (pi_range1 rfl T.range (pa_cons (C8.pe_c cD hr (by decide) (by rfl) (pa_cons (pv 0) (pa_cons (pe_op op_add (pe_op op_sub (pv 2) (pe_callB call_len_seq (by rfl) T.len PySem.boot_len (pa_cons (pv 5) pa_nil))) pe_int) pa_nil))) pa_nil)) (pg_name (i := 9) scWeb.nd rfl (Or.inl rfl))
          (pss_cons (ps_set (i := 10) scWeb.nd rfl (Or.inl rfl) (C8.pe_c cS hr (by decide) (by rfl) (pa_cons (pv 0) (pa_cons (C8.pe_c cD hr (by decide) (by rfl) (pa_cons (pv 0) (pa_cons (pv 3) pa_nil))) (pa_cons (C8.pe_c cD hr (by decide) (by rfl) (pa_cons (pv 0) (pa_cons (pv 3) pa_nil))) (pa_cons (pv 4) pa_nil))))))
          (pss_one (ps_expr (pe_bm PySem.F.plainAttrs_list PySem.F.slot_list_extend PySem.F.type_list_extend mt_extend (pv 5) (pa_cons (pe_ifExp (pt_cmpR (op_notInD (Room.u65 hr)) (pv 10) (pv 5) (by rfl)) (pe_lst (pa_cons (pv 10) pa_nil)) (pe_lst pa_nil)) pa_nil))))))
      (pss_one (ps_ret (pe_tup (pa_cons (pv 3) (pa_cons (C8.pe_c cM hr (by decide) (by rfl) (pa_cons (pv 0) (pa_cons (pv 5) pa_nil))) pa_nil)))))))), ?_⟩
    -- places, way, found, ring
    refine ⟨fun σ H1 => ∃ (k y : Int) (g r : Addr), σ = [some (.ref a), some (.int o), some (.int m), some (.int k), some (.int y), some (.ref g), some (.ref r), none, none, none, none] ∧ ExS a b H H1 ∧ SAt H1 a b (n + 2) ∧
      H g = none ∧ H r = none ∧ g ≠ r ∧ H1 g = some (.lst []) ∧ H1 r = some (.lst []) ∧ 1 ≤ k ∧ k ≤ o, ?_, ?_⟩
    · refine ⟨_, rfl, _, rfl, a, b, n, o, rfl, hS, by omega, by omega, by omega, fun H1 d e1 s1 d0 d1 => ?_⟩
      refine ⟨_, _, rfl, rfl, _, rfl, a, b, n + 1, _, rfl, s1, by omega, by decide, by decide, fun H2 y e2 s2 y0 y1 => ?_⟩
      refine ⟨Nat.zero_le _, fun g hg => ⟨Nat.zero_le _, fun r hr0 => ?_⟩⟩
      have hgr : g ≠ r := ne_of_none upd_same hr0
      have hr1 : H2 r = none := by
        rw [upd_ne hgr.symm] at hr0
        exact hr0
      refine ⟨by show 4 ≤ sizeLine; decide, fun T hT => ?_⟩
      have hTr : r ≠ T := ne_of_none upd_same hT
      have hT1 : upd H2 g (.lst []) T = none := by
        rw [upd_ne hTr.symm] at hT
        exact hT
      have hTg : g ≠ T := ne_of_none upd_same hT1
      refine ⟨T, _, rfl, SqT.of upd_same, rfl, _, _, rfl, _, _, rfl, _, _, rfl, _, _, rfl, rfl, ?_⟩
      have e3 : ExS a b H H2 := e1.trans e2
      refine ⟨1 + d, y, g, r, rfl, ExS.new (ExS.new (ExS.new e3 hg) hr0) hT, ((s2.ex (Ex.new hg)).ex (Ex.new hr0)).ex (Ex.new hT), ExS.back e3 s2 hg, ExS.back e3 s2 hr1, hgr, ?_, ?_, by omega, by omega⟩
      · rw [upd_ne hTg, upd_ne hgr]
        exact upd_same
      · rw [upd_ne hTr]
        exact upd_same
    rintro σ H1 ⟨c, y, g, r, rfl, hE1, hS1, hg, hr1, hgr, hG1, hR1, c1, c2⟩
    have ga := hS.nea hg
    have gb := hS.neb hg
    -- ring
    refine ⟨fun σ H2 => ∃ (r : Addr) (ms : List Int), σ = [some (.ref a), some (.int o), some (.int m), some (.int c), some (.int y), some (.ref g), some (.ref r), none, none, none, none] ∧ ExS a b H H2 ∧ SAt H2 a b (n + 200) ∧
      H r = none ∧ g ≠ r ∧ H2 g = some (.lst []) ∧ H2 r = some (.lst (ms.map V.int)) ∧ ms.Nodup ∧ (∀ x ∈ ms, 0 ≤ x ∧ x < c) ∧ (ms.length : Int) ≤ c, ?_, ?_⟩
    · refine ⟨_, rfl, a, b, n + 2, _, rfl, hS1, by omega, by decide, by decide, fun H2 d e2 s2 d0 d1 => ?_⟩
      refine ⟨_, _, rfl, rfl, _, rfl, ?_⟩
      have hE2 : ExS a b H H2 := hE1.trans e2
      have hG2 : H2 g = some (.lst []) := e2.at hG1 ga gb
      have ra := hS.nea hr1
      have rb := hS.neb hr1
      have hR2 : H2 r = some (.lst []) := e2.at hR1 ra rb
      refine ite2 (fun _ => ?_) (fun _ => ?_)
      · refine ⟨_, rfl, _, rfl, _, rfl, RgOk.of_le (by omega) (by omega) (by omega) (by omega), fun q hq => ?_⟩
        have qa := s2.nea hq
        have qb := s2.neb hq
        have hqg : g ≠ q := ne_of_none hG2 hq
        have hlen : (rgV 0 c).length = c.toNat := by
          rw [rgV_length]
          congr 1
          omega
        refine ⟨a, b, n + 3, q, rgV 0 c, rfl, s2.upd qa qb, SqL.of (by rw [hid_ne qa qb]; exact upd_same), by omega, by omega, fun H3 p zs e3 s3 hp hP hperm => ?_⟩
        rw [rgV_ints] at hperm
        obtain ⟨ms, rfl, hms⟩ := perm_ints hperm
        have hnd : ms.Nodup := hms.symm.nodup (range_nodup _)
        have hml : ms.length = c.toNat := by rw [hms.length_eq, List.length_map, List.length_range]
        have hmb : ∀ x ∈ ms, 0 ≤ x ∧ x < c := fun x hx => by
          obtain ⟨i, hi, rfl⟩ := List.mem_map.mp (hms.mem_iff.mp hx)
          have := List.mem_range.mp hi
          omega
        have hE3 : ExS a b H H3 := hE2.trans ((hid_mono (Ex.new hq)).trans e3)
        have hG3 : H3 g = some (.lst []) := e3.at (by rw [upd_ne hqg]; exact hG2) ga gb
        -- [: 1 + draw]
        refine ⟨_, rfl, _, rfl, a, b, n + 3 + (rgV 0 c).length, c, rfl, s3, by omega, by omega, by omega, fun H4 d2 e4 s4 d20 d21 => ?_⟩
        refine ⟨_, _, rfl, rfl, _, rfl, ?_⟩
        have hq0 : H2 p = none := by
          have : upd H2 q (.lst (rgV 0 c)) p = none := hp
          by_cases hpq : p = q
          · rw [hpq]
            exact hq
          · rw [upd_ne hpq] at this
            exact this
        have hp0 : H p = none := ExS.back hE2 s2 hq0
        have hpa := hS.nea hp0
        have hpb := hS.neb hp0
        have hP4 : H4 p = some (.lst (ms.map V.int)) := e4.at hP hpa hpb
        have hG4 : H4 g = some (.lst []) := e4.at hG3 ga gb
        obtain ⟨j, hj⟩ : ∃ j : Nat, 1 + d2 = (j : Int) := ⟨(1 + d2).toNat, by omega⟩
        refine ⟨p, _, rfl, SqL.of hP4, fun u hu => ?_⟩
        rw [hj, cut_to, ← List.map_take]
        have hug : g ≠ u := ne_of_none hG4 hu
        refine ⟨u, ms.take j, rfl, ExS.new (hE3.trans e4) hu, (s4.ex (Ex.new hu)).mono (by omega), ExS.back (hE3.trans e4) s4 hu, hug, by rw [upd_ne hug]; exact hG4, upd_same, ?_, fun x hx => hmb x (List.mem_of_mem_take hx), ?_⟩
        · exact hnd.sublist (List.take_sublist _ _)
        · rw [List.length_take]
          omega
      · refine ⟨r, [], rfl, hE2, s2.mono (by omega), hr1, hgr, hG2, hR2, List.nodup_nil, fun x hx => absurd hx (by simp), by show (0 : Int) ≤ c; omega⟩
    rintro σ H2 ⟨r, ms, rfl, hE2, hS2, hr1, hgr, hG2, hR2, hnd, hmb, hml⟩
    have ra := hS.nea hr1
    have rb := hS.neb hr1
    have hmn : ms.length ≤ 100 := by omega
    -- the ring's steps
    refine ⟨fun σ H3 => ∃ (x7 x8 : Option V) (vs : List V) (ss : List St5), σ = [some (.ref a), some (.int o), some (.int m), some (.int c), some (.int y), some (.ref g), some (.ref r), x7, x8, none, none] ∧ ExS a b H H3 ∧ SAt H3 a b (n + 1000) ∧
      H3 g = some (.lst vs) ∧ DpAll K (tps H3) vs (ss.map stD) ∧ WbOk c ss ∧ (ss.length : Int) ≤ c, ?_, ?_⟩
    · refine ⟨_, rfl, r, _, rfl, SqL.of hR2, for_enumL (K := K) (a := r) (xs := ms.map V.int) (fun i σ H3 => ∃ (x7 x8 : Option V) (vs : List V) (ss : List St5), σ = [some (.ref a), some (.int o), some (.int m), some (.int c), some (.int y), some (.ref g), some (.ref r), x7, x8, none, none] ∧
        ExS a b H H3 ∧ SAt H3 a b (n + 200 + 5 * i) ∧ H3 g = some (.lst vs) ∧ H3 r = some (.lst (ms.map V.int)) ∧ DpAll K (tps H3) vs (ss.map stD) ∧ WbOk c ss ∧ ss.length = i ∧ ss.map (·.other) = ms.take i) ?_ ?_ ?_ ?_⟩
      · exact ⟨none, none, [], [], rfl, hE2, hS2, hG2, hR2, .nil, ⟨c1, fun s hs => absurd hs (by simp), fun s hs => absurd hs (by simp), List.nodup_nil⟩, rfl, rfl⟩
      · rintro i σ H3 _ ⟨x7, x8, vs, ss, rfl, _, _, _, hR3, _⟩
        exact SqL.of hR3
      · rintro i x σ H3 T hi ⟨x7, x8, vs, ss, rfl, hE3, hS3, hG3, hR3, hD3, hW, hlen, hot⟩ hT
        obtain ⟨z, hz, rfl⟩ := get_ints hi
        have hil : i < ms.length := (List.getElem?_eq_some_iff.mp hz).1
        have hgT : g ≠ T := ne_of_none hG3 hT
        have hrT : r ≠ T := ne_of_none hR3 hT
        refine ⟨T, _, rfl, SqT.of upd_same, rfl, _, _, rfl, _, _, rfl, rfl, ?_⟩
        have hG4 : upd H3 T (.tup [.int (i : Nat), .int z]) g = some (.lst vs) := by rw [upd_ne hgT]; exact hG3
        have hR4 : upd H3 T (.tup [.int (i : Nat), .int z]) r = some (.lst (ms.map V.int)) := by rw [upd_ne hrT]; exact hR3
        obtain ⟨u, hu, hum⟩ := atI_back (xs := ms.map V.int) (i := i) (by rw [List.length_map]; exact hil)
        obtain ⟨ui, hui, rfl⟩ := List.mem_map.mp hum
        refine ⟨_, rfl, .inl ⟨rfl, _, SqL.of hG4⟩, _, rfl, _, rfl, _, rfl, _, _, rfl, rfl, r, _, _, V.int ui, rfl, rfl, SqL.of hR4, hu, _, rfl, _, rfl, ?_⟩
        have s4 := hS3.ex (Ex.new (o := .tup [.int (i : Nat), .int z]) hT)
        refine ⟨a, b, n + 200 + 5 * i, ui, z, y, rfl, s4, by omega, fun H4 p st e4 s5 hp hd so st' k1 sm => ?_⟩
        have hG5 := e4.at hG4 ga gb
        have hR5 := e4.at hR4 ra rb
        refine ⟨g, vs, .ref p, rfl, rfl, hG5, ?_, ?_⟩
        · rw [dpa_len hD3, List.length_map, hlen]
          exact sz_m (by omega)
        · have hEE : ExS a b H H4 := Ex.trans (ExS.new hE3 hT) e4
          have tp : Ex (tps H3) (tps (upd H4 g (.lst (vs ++ [.ref p])))) := ((tps_mono (Ex.new hT)).trans (tps_hid e4 s4)).trans (tps_upd (NoTup.lst hG5))
          refine ⟨_, _, vs ++ [.ref p], ss ++ [st], rfl, ExS.own hEE hg ga gb, (s5.upd ga gb).mono (by omega), upd_same, by rw [upd_ne hgr.symm]; exact hR5, ?_, ?_, by rw [List.length_append, hlen]; rfl, ?_⟩
          · rw [List.map_append]
            exact dpa_app (dpa_ex tp _ _ hD3) (.cons (dp_ex (tps_upd (NoTup.lst hG5)) _ _ hd) .nil)
          · have hzm := hmb z (mem_of_get hz)
            have hum2 := hmb ui hui
            refine ⟨c1, fun s hs => ?_, fun s hs => ?_, ?_⟩
            · rcases List.mem_append.mp hs with hs | hs
              · exact hW.ok s hs
              · obtain rfl := List.mem_singleton.mp hs
                exact ⟨by omega, by omega, by omega, by omega, k1⟩
            · rcases List.mem_append.mp hs with hs | hs
              · exact hW.sm s hs
              · obtain rfl := List.mem_singleton.mp hs
                exact sm
            · refine List.nodup_append.mpr ⟨hW.nd, List.nodup_cons.mpr ⟨by simp, List.nodup_nil⟩, fun x hx y2 hy e => ?_⟩
              obtain rfl := List.mem_singleton.mp hy
              subst e
              have h1 : x.other ∈ ms.take i := by
                rw [← hot]
                exact List.mem_map.mpr ⟨x, hx, rfl⟩
              rw [st'] at h1
              obtain ⟨j, hj, e⟩ := List.mem_iff_getElem.mp h1
              rw [List.getElem_take] at e
              rw [List.length_take] at hj
              have := (List.getElem?_eq_some_iff.mp hz).2
              rw [← this] at e
              have := (List.getElem_inj hnd).mp e
              omega
          · rw [List.map_append, hot, List.take_add_one, hz]
            show _ ++ [st.other] = _ ++ [z]
            rw [st']
      · rintro σ H3 ⟨x7, x8, vs, ss, rfl, hE3, hS3, hG3, hR3, hD3, hW, hlen, hot⟩
        rw [List.length_map] at hlen hS3
        exact ⟨x7, x8, vs, ss, rfl, hE3, hS3.mono (by omega), hG3, hD3, hW, by omega⟩
    rintro σ H3 ⟨x7, x8, vs, ss, rfl, hE3, hS3, hG3, hD3, hW, hlen⟩
    -- more steps
    refine ⟨fun σ H4 => ∃ (x7 x8 x9 x10 : Option V) (vs : List V) (ss : List St5), σ = [some (.ref a), some (.int o), some (.int m), some (.int c), some (.int y), some (.ref g), some (.ref r), x7, x8, x9, x10] ∧ ExS a b H H4 ∧ SAt H4 a b (n + 10000) ∧
      H4 g = some (.lst vs) ∧ DpAll K (tps H4) vs (ss.map stD) ∧ WbOk c ss ∧ (ss.length : Int) ≤ m, ?_, ?_⟩
    · have hvl := dpa_len hD3
      rw [List.length_map] at hvl
      refine ⟨_, rfl, _, rfl, _, rfl, g, vs, rfl, .inl (SqL.of hG3), _, _, rfl, rfl, _, _, rfl, rfl, a, b, n + 1000, _, rfl, hS3, by omega, by rw [hvl]; omega, by rw [hvl]; omega, fun H4 t e4 s4 t0 t1 => ?_⟩
      rw [hvl] at t1
      refine ⟨t, rfl, by omega, by omega, for_range (lo := 0) (n := t.toNat) (fun i σ H4 => ∃ (x9 x10 : Option V) (vs : List V) (ss : List St5), σ = [some (.ref a), some (.int o), some (.int m), some (.int c), some (.int y), some (.ref g), some (.ref r), x7, x8, x9, x10] ∧
        ExS a b H H4 ∧ SAt H4 a b (n + 1001 + 7 * i) ∧ H4 g = some (.lst vs) ∧ DpAll K (tps H4) vs (ss.map stD) ∧ WbOk c ss ∧ (ss.length : Int) + (t - i) ≤ m) ?_ ?_ ?_⟩
      · exact ⟨none, none, vs, ss, rfl, hE3.trans e4, s4, e4.at hG3 ga gb, dpa_ex (tps_hid e4 hS3) _ _ hD3, hW, by omega⟩
      · rintro i σ H5 hi ⟨x9, x10, vs, ss, rfl, hE5, hS5, hG5, hD5, hW5, hl5⟩
        have hvl := dpa_len hD5
        rw [List.length_map] at hvl
        -- step_here
        refine ⟨_, rfl, _, rfl, _, rfl, a, b, n + 1001 + 7 * i, c, rfl, hS5, by omega, by omega, by omega, fun H6 d1 e6 s6 d10 d11 => ?_⟩
        refine ⟨_, rfl, _, rfl, a, b, n + 1001 + 7 * i + 1, c, rfl, s6, by omega, by omega, by omega, fun H7 d2 e7 s7 d20 d21 => ?_⟩
        refine ⟨_, rfl, a, b, n + 1001 + 7 * i + 2, d1, d2, y, rfl, s7, by omega, fun H8 p st e8 s8 hp hd so st' k1 sm => ?_⟩
        have hE8 : ExS a b H H8 := hE5.trans (e6.trans (e7.trans e8))
        have hG8 : H8 g = some (.lst vs) := e8.at (e7.at (e6.at hG5 ga gb) ga gb) ga gb
        have hD8 : DpAll K (tps H8) vs (ss.map stD) := dpa_ex (((tps_hid e6 hS5).trans (tps_hid e7 s6)).trans (tps_hid e8 s7)) _ _ hD5
        refine ⟨_, rfl, .inl ⟨rfl, _, SqL.of hG8⟩, _, rfl, _, rfl, stD st, ss.map stD, dp_ex tps_le _ _ hd, .lst (SqL.of hG8) (dpa_ex tps_le _ _ hD8), stD_shaped st, stDs_shaped ss, _, rfl, ?_⟩
        rw [any_eqv]
        have stok : StOk c st := ⟨by omega, by omega, by omega, by omega, k1⟩
        by_cases hin : st ∈ ss
        · rw [decide_eq_true hin]
          refine iteF ?_
          refine ⟨Nat.zero_le _, fun u hu => ?_⟩
          have hgu : g ≠ u := ne_of_none hG8 hu
          have hG9 : upd H8 u (.lst []) g = some (.lst vs) := by rw [upd_ne hgu]; exact hG8
          refine ⟨g, u, vs, [], rfl, rfl, hG9, upd_same, by rw [hvl, List.length_nil, Nat.add_zero]; exact sz_le (by omega), ?_⟩
          rw [List.append_nil]
          refine ⟨_, _, vs, ss, rfl, ExS.own (ExS.new hE8 hu) hg ga gb, ((s8.ex (Ex.new hu)).upd ga gb).mono (by omega), upd_same, dpa_ex ((tps_mono (Ex.new hu)).trans (tps_upd (NoTup.lst hG9))) _ _ hD8, hW5, by omega⟩
        · rw [decide_eq_false hin]
          refine iteT ?_
          refine ⟨_, rfl, by show 1 ≤ sizeLine; decide, fun u hu => ?_⟩
          have hgu : g ≠ u := ne_of_none hG8 hu
          have hG9 : upd H8 u (.lst [.ref p]) g = some (.lst vs) := by rw [upd_ne hgu]; exact hG8
          refine ⟨g, u, vs, [.ref p], rfl, rfl, hG9, upd_same, by rw [hvl, List.length_singleton]; exact sz_le (by omega), ?_⟩
          have tp : Ex (tps H8) (tps (upd (upd H8 u (.lst [.ref p])) g (.lst (vs ++ [.ref p])))) := (tps_mono (Ex.new hu)).trans (tps_upd (NoTup.lst hG9))
          refine ⟨_, _, vs ++ [.ref p], ss ++ [st], rfl, ExS.own (ExS.new hE8 hu) hg ga gb, ((s8.ex (Ex.new hu)).upd ga gb).mono (by omega), upd_same, ?_, ?_, by rw [List.length_append, List.length_singleton]; omega⟩
          · rw [List.map_append]
            exact dpa_app (dpa_ex tp _ _ hD8) (.cons (dp_ex tp _ _ hd) .nil)
          · refine ⟨c1, fun s hs => ?_, fun s hs => ?_, ?_⟩
            · rcases List.mem_append.mp hs with hs | hs
              · exact hW5.ok s hs
              · obtain rfl := List.mem_singleton.mp hs
                exact stok
            · rcases List.mem_append.mp hs with hs | hs
              · exact hW5.sm s hs
              · obtain rfl := List.mem_singleton.mp hs
                exact sm
            · refine List.nodup_append.mpr ⟨hW5.nd, List.nodup_cons.mpr ⟨by simp, List.nodup_nil⟩, fun x hx y2 hy e => ?_⟩
              obtain rfl := List.mem_singleton.mp hy
              subst e
              exact hin hx
      · rintro σ H5 ⟨x9, x10, vs, ss, rfl, hE5, hS5, hG5, hD5, hW5, hl5⟩
        exact ⟨x7, x8, x9, x10, vs, ss, rfl, hE5, hS5.mono (by omega), hG5, hD5, hW5, by omega⟩
    rintro σ H4 ⟨x7, x8, x9, x10, vs, ss, rfl, hE4, hS4, hG4, hD4, hW4, hl4⟩
    have hvl := dpa_len hD4
    rw [List.length_map] at hvl
    refine ⟨_, rfl, _, rfl, _, rfl, a, b, n + 10000, g, vs, rfl, hS4, SqL.of (by rw [hid_ne ga gb]; exact hG4), by omega, by omega, fun H5 p ys e5 s5 hp hP hperm => ?_⟩
    obtain ⟨ts, hts, hD5⟩ := dpa_perm hperm (dpa_ex (tps_hid e5 hS4) _ _ hD4)
    refine ⟨by show 2 ≤ sizeLine; decide, fun q hq => ?_⟩
    have hpq : p ≠ q := ne_of_none hP hq
    refine k _ q p c ys ts (ExS.new (hE4.trans e5) hq) ((s5.ex (Ex.new hq)).mono (by omega)) (ExS.back (hE4.trans e5) s5 hq) (ExS.back hE4 hS4 hp) upd_same (by rw [upd_ne hpq]; exact hP) (dpa_ex (tps_mono (Ex.new hq)) _ _ hD5) (hW4.perm hts) c2 (by rw [hts.length_eq]; exact hl4)
end
end AA

set_option Elab.async false
set_option linter.all false
set_option maxRecDepth 100000
set_option maxHeartbeats 4000000
namespace AA
open PySem PySem.Spec PyProof.Rows L2 Evl
/-! ### lists for tuples, tuples for lists -/
mutual
inductive Ls : PyData → PyData → Prop
  | int (i : Int) : Ls (.int i) (.int i)
  | ll {xs ys : List PyData} : LsA xs ys → Ls (.list xs) (.list ys)
  | lt {xs ys : List PyData} : LsA xs ys → Ls (.list xs) (.tuple ys)
  | tl {xs ys : List PyData} : LsA xs ys → Ls (.tuple xs) (.list ys)
  | tt {xs ys : List PyData} : LsA xs ys → Ls (.tuple xs) (.tuple ys)
inductive LsA : List PyData → List PyData → Prop
  | nil : LsA [] []
  | cons {x y : PyData} {xs ys : List PyData} : Ls x y → LsA xs ys → LsA (x :: xs) (y :: ys)
end
theorem LsA.app : ∀ {xs ys us vs : List PyData}, LsA xs ys → LsA us vs → LsA (xs ++ us) (ys ++ vs)
  | [], _, _, _, h, k => by
    cases h
    exact k
  | x :: xs, _, _, _, h, k => by
    cases h with
    | cons h1 h2 => exact .cons h1 (LsA.app h2 k)
mutual
/-- allI in lists and tuples alone -/
def allI : PyData → Bool
  | .int _ => true
  | .list xs => allIA xs
  | .tuple xs => allIA xs
  | _ => false
def allIA : List PyData → Bool
  | [] => true
  | x :: xs => allI x && allIA xs
end
mutual
def cnt : PyData → Nat
  | .list xs => cntA xs + 1
  | .tuple xs => cntA xs + 1
  | _ => 1
def cntA : List PyData → Nat
  | [] => 0
  | x :: xs => cnt x + cntA xs
end
theorem cnt_pos : ∀ d : PyData, 1 ≤ cnt d
  | .none => Nat.le_refl _
  | .bool _ => Nat.le_refl _
  | .int _ => Nat.le_refl _
  | .str _ => Nat.le_refl _
  | .list xs => Nat.le_add_left _ _
  | .tuple xs => Nat.le_add_left _ _
  | .dict _ => Nat.le_refl _
theorem cntA_len : ∀ ds : List PyData, ds.length ≤ cntA ds
  | [] => Nat.le_refl _
  | d :: r => by
    have h1 := cnt_pos d
    have h2 := cntA_len r
    show r.length + 1 ≤ cnt d + cntA r
    omega
theorem cntA_app : ∀ (ds es : List PyData), cntA (ds ++ es) = cntA ds + cntA es
  | [], es => (Nat.zero_add _).symm
  | d :: r, es => by
    show cnt d + cntA (r ++ es) = cnt d + cntA r + cntA es
    rw [cntA_app r es, Nat.add_assoc]
theorem cntA_get {ds : List PyData} {i : Nat} {d : PyData} (h : ds[i]? = some d) : cntA (ds.take (i + 1)) = cntA (ds.take i) + cnt d := by
  rw [List.take_add_one, h]
  show cntA (ds.take i ++ [d]) = _
  rw [cntA_app]
  rfl
theorem cntA_take_le (ds : List PyData) (i : Nat) : cntA (ds.take i) ≤ cntA ds := by
  have : cntA ds = cntA (ds.take i ++ ds.drop i) := by rw [List.take_append_drop]
  rw [this, cntA_app]
  omega
theorem allIA_get : ∀ {ds : List PyData} {i : Nat} {d : PyData}, allIA ds = true → ds[i]? = some d → allI d = true
  | [], _, _, _, e => by simp at e
  | x :: xs, 0, d, h, e => by
    cases (Option.some.inj e)
    exact (Bool.and_eq_true_iff.mp h).1
  | x :: xs, i + 1, d, h, e => allIA_get (i := i) (Bool.and_eq_true_iff.mp h).2 e
theorem depthA_get : ∀ {ds : List PyData} {i : Nat} {d : PyData}, ds[i]? = some d → d.depth ≤ PyData.depthAll ds
  | [], _, _, e => by simp at e
  | x :: xs, 0, d, e => by
    cases (Option.some.inj e)
    show _ ≤ max _ _
    omega
  | x :: xs, i + 1, d, e => by
    have := depthA_get (ds := xs) (i := i) e
    show _ ≤ max _ _
    omega
theorem LsA.len : ∀ {xs ys : List PyData}, LsA xs ys → xs.length = ys.length
  | [], _, h => by
    cases h
    rfl
  | x :: xs, _, h => by
    cases h with
    | cons h1 h2 =>
      rw [List.length_cons, List.length_cons, LsA.len h2]
/-- a walk that is a list's or a tuple's -/
theorem pi_or {X : Cx} {tg l : Expr} {t1 t2 : TI} (h1 : PI X tg l t1) (h2 : PI X tg l t2) : PI X tg l (fun σ H R => t1 σ H R ∨ t2 σ H R) :=
  ⟨fun pins s σ H R I h => h.elim (h1.run pins s σ H R I) (h2.run pins s σ H R I)⟩
theorem ty_l {K : PySem.W.Frag} {H : Hp} {a : Addr} {xs : List V} (h : SqL K H a xs) : TyX K H (.ref a) (.type "list") := by
  rcases h with (h | ⟨o, h⟩) | ⟨o, its, n, h1, h2, _⟩
  · exact .base (.lst h)
  · exact .base (.frz h)
  · exact .kList h1 h2
theorem ty_t {K : PySem.W.Frag} {H : Hp} {a : Addr} {xs : List V} (h : SqT K H a xs) : TyX K H (.ref a) (.type "tuple") := by
  rcases h with (h | ⟨o, h⟩) | ⟨o, its, n, h1, h2, _⟩
  · exact .base (.tup h)
  · exact .fTuple h
  · exact .kTuple h1 h2
theorem seq_yes_l {K : PySem.W.Frag} : PySem.W.kitAny K (.type "list") [.type "list", .type "tuple"] = some true := kitAny_cons (b := true) (kit_ty (by decide +kernel)) (fun z => nomatch z) (fun _ => rfl)
theorem seq_yes_t {K : PySem.W.Frag} : PySem.W.kitAny K (.type "tuple") [.type "list", .type "tuple"] = some true :=
  kitAny_cons (b := false) (kit_ty (by decide +kernel)) (fun _ => kitAny_cons (b := true) (kit_ty (by decide +kernel)) (fun z => nomatch z) (fun _ => rfl)) (fun z => nomatch z)
theorem seq_no_i {K : PySem.W.Frag} : PySem.W.kitAny K (.type "int") [.type "list", .type "tuple"] = some false :=
  kitAny_cons (b := false) (kit_ty (by decide +kernel)) (fun _ => kitAny_cons (b := false) (kit_ty (by decide +kernel)) (fun _ => kitAny_nil) (fun z => nomatch z)) (fun z => nomatch z)
section
variable {P : Program} {w : World} {K : PySem.W.Frag} {mg : Str → Option Value} {base : Heap}
/-! ### _law_loose -/
def spLoose (K : PySem.W.Frag) (D : Nat) : Sp := fun vs H Q _ => ∃ (a b : Addr) (n : Nat) (v : V) (d : PyData), vs = [.ref a, v] ∧ SAt H a b n ∧ Dp K (hid a b H) v d ∧ allI d = true ∧ d.depth < D ∧ n + cnt d < 900000000 ∧ cnt d < 1000000 ∧
  ∀ (H' : Hp) (v' : V) (d' : PyData), ExS a b H H' → SAt H' a b (n + cnt d) → Dp K (nw H H') v' d' → Ls d d' → Q v' H'
theorem scLoose : FnScope ["_law_stream_here", "_law_thing", "_law_some", "_law_one"] ["_law_stream_here", "_law_thing"] (defScope sLoose) := ⟨rfl, rfl, rfl, by decide +kernel, rfl, by decide +kernel, by decide +kernel⟩
theorem ok_loose {f : Addr} {fd : FuncData} (F : L2.Fun K "_law_loose" "_law_loose" sLoose f fd) (T : Bn mg) (hm : mg "_law_loose" = some (.ref f)) (bL : Binds K fd ["_law_stream_here", "_law_thing"] []) (cD : C8.Cal P w K mg base 1 "_law_draw" spDraw []) :
    ∀ D : Nat, FnOk P w K mg base CX0 (D + 2) f fd ["_law_stream_here", "_law_thing"] (spLoose K D)
  | 0 => ⟨fun vs H Q E h => by
      obtain ⟨a, b, n, v, d, rfl, _⟩ := h
      rfl, fun A outer s H args us vs Q E _ _ _ _ h => by
      obtain ⟨a, b, n, v, d, _, _, _, _, h, _⟩ := h
      exact absurd h (Nat.not_lt_zero _)⟩
  | D + 1 => by
    have cL : C8.Cal P w K mg base (D + 2) "_law_loose" (spLoose K D) [] := cal_of F hm bL (ok_loose F T hm bL cD D)
    refine F.ok scLoose (fun vs H Q E h => ?_) (fun cdv A outer s H vs Q E hr h => ?_)
    · obtain ⟨a, b, n, v, d, rfl, _⟩ := h
      rfl
    · obtain ⟨a, b, n, v, d, rfl, hS, hd, hi, hdp, hn, hc, k⟩ := h
      refine ⟨_, pss_cons (ps_if (pt_val (pe_callB call_isiT (by rfl) T.isinstance boot_isinstance (pa_cons (pv 1) (pa_cons (pe_tup (pa_cons (pe_bltn (v := .ty "list") (by rfl) T.list boot_list rfl) (pa_cons (pe_bltn (v := .ty "tuple") (by rfl) T.tuple boot_tuple rfl) pa_nil))) pa_nil))))
          (pss_cons (ps_setLc (i := 2) (own := [("_law_one", 3)]) (g := gName 3) (tt := tYes) (by rfl) scLoose.nd rfl rfl (sw_true rfl rfl rfl (by decide +kernel)) (pi_or (pi_list (pv 1)) (pi_tup (pv 1))) (blkOk_by (N := ["_law_stream_here", "_law_thing", "_law_some", "_law_one"]) (sc := defScope sLoose) (by decide +kernel))
              (fun _ _ _ _ _ => pg_name (i := 3) scLoose.nd rfl (Or.inl rfl)) (fun _ _ _ _ _ => pts_nil) (fun _ _ _ _ _ => C8.pe_c cL hr (by omega) (by rfl) (pa_cons (pv 0) (pa_cons (pv 3) pa_nil))))
            (pss_one (ps_ret (pe_ifExp (pt_cmpR op_eq (C8.pe_c cD hr (by omega) (by rfl) (pa_cons (pv 0) (pa_cons pe_int pa_nil))) pe_int (nomark _)) (pv 2) (pe_callTy call_tuple_of (by rfl) T.tuple boot_tuple (pa_cons (pv 2) pa_nil)))))) pss_nil)
        (pss_one (ps_ret (pv 1))), ?_⟩
      refine ⟨_, rfl, by show 2 ≤ sizeLine; decide, fun p hp => ?_⟩
      have pa := hS.nea hp
      have pb := hS.neb hp
      have e1 : ExS a b H (upd H p (.tup [.ty "list", .ty "tuple"])) := ExS.new ExS.rfl hp
      have s1 := hS.ex (Ex.new (o := .tup [.ty "list", .ty "tuple"]) hp)
      -- the items, whatever they stand in
      have turn : ∀ (c : Addr) (xs : List V) (ds : List PyData) (L : Addr), DpAll K (hid a b H) xs ds → allIA ds = true → PyData.depthAll ds < D → n + cntA ds + 1 < 900000000 → cntA ds < 1000000 → H L = none →
          ∀ (i : Nat) (x : V) (H1 : Hp), xs[i]? = some x →
            (∃ (ys : List V) (es : List PyData), ExS a b H H1 ∧ SAt H1 a b (n + cntA (ds.take i)) ∧ H1 L = some (.lst ys) ∧ DpAll K (hid L L (nw H H1)) ys es ∧ LsA (ds.take i) es ∧ ys.length = i) →
            spLoose K D [.ref a, x] H1 (fun y H4 => ∃ acc, H4 L = some (.lst acc) ∧ acc.length < sizeLine ∧
              ∃ (ys : List V) (es : List PyData), ExS a b H (upd H4 L (.lst (acc ++ [y]))) ∧ SAt (upd H4 L (.lst (acc ++ [y]))) a b (n + cntA (ds.take (i + 1))) ∧ upd H4 L (.lst (acc ++ [y])) L = some (.lst ys) ∧
                DpAll K (hid L L (nw H (upd H4 L (.lst (acc ++ [y]))))) ys es ∧ LsA (ds.take (i + 1)) es ∧ ys.length = i + 1) E := by
        rintro c xs ds L hD hA hdep hn hc hL i x H1 hi ⟨ys, es, hE, hS1, hL1, hY, hLs, hyl⟩
        obtain ⟨di, hdi, hx⟩ := dpa_get hD hi
        have h1 := cntA_take_le ds (i + 1)
        rw [cntA_get hdi] at h1
        have hlen := cntA_len ds
        have hil : i < ds.length := (List.getElem?_eq_some_iff.mp hdi).1
        have la := hS.nea hL
        have lb := hS.neb hL
        refine ⟨a, b, n + cntA (ds.take i), x, di, rfl, hS1, dp_ex hE _ _ hx, allIA_get hA hdi, Nat.lt_of_le_of_lt (depthA_get hdi) hdep, by omega, by omega, fun H2 v' d' e2 s2 hv' hls => ?_⟩
        have hL2 : H2 L = some (.lst ys) := e2.at hL1 la lb
        have ups : Ex (hid L L (nw H H2)) (hid L L (nw H (upd H2 L (.lst (ys ++ [v']))))) := fun z o hz => by
          obtain ⟨z1, z2, _⟩ := hid_some hz
          obtain ⟨z3, z4⟩ := nw_some z1
          rw [hid_ne z2 z2]
          exact nw_of z3 (by rw [upd_ne z2]; exact z4)
        refine ⟨ys, hL2, by rw [hyl]; exact sz_m (by omega), ys ++ [v'], es ++ [d'], ExS.own (hE.trans e2) hL la lb, ?_, upd_same, ?_, ?_, by rw [List.length_append, hyl]; rfl⟩
        · rw [cntA_get hdi, ← Nat.add_assoc]
          exact s2.upd la lb
        · refine dpa_app (dpa_ex ((hid_mono (nw_step hS e2)).trans ups) _ _ hY) (.cons (dp_ex (Ex.trans (fun z o hz => ?_) ups) _ _ hv') .nil)
          obtain ⟨z1, z2⟩ := nw_some hz
          have zL : z ≠ L := fun q => by
            rw [q, hL1] at z1
            cases z1
          rw [hid_ne zL zL]
          exact nw_of (hE.back hS1 z1) z2
        · rw [List.take_add_one, hdi]
          exact LsA.app hLs (.cons hls .nil)
      -- behind the comprehension: what is handed back
      have fin1 : ∀ (ds : List PyData) (L : Addr) (ys : List V) (es : List PyData) (H1 H2 : Hp), H L = none → ExS a b H H1 → SAt H1 a b (n + cntA ds) → H1 L = some (.lst ys) → DpAll K (hid L L (nw H H1)) ys es → (Ls d (.list es) ∧ Ls d (.tuple es)) → cnt d = cntA ds + 1 →
          ExS a b H1 H2 → SAt H2 a b (n + cntA ds + 1) → Q (.ref L) H2 ∧ SqL K H2 L ys ∧ ∀ u, H2 u = none → Q (.ref u) (upd H2 u (.tup ys)) := by
        intro ds L ys es H1 H2 hL hE hS1 hL1 hY hls hcd e2 s2
        have la := hS.nea hL
        have lb := hS.neb hL
        have hL2 : H2 L = some (.lst ys) := e2.at hL1 la lb
        have hY2 := dpa_ex ((hid_mono (nw_step hS e2)).trans hid_ex) _ _ hY
        refine ⟨k H2 (.ref L) (.list es) (hE.trans e2) (s2.mono (by omega)) (.lst (SqL.of (nw_of hL hL2)) hY2) hls.1, SqL.of hL2, fun u hu => ?_⟩
        have hu0 : H u = none := ExS.back (hE.trans e2) s2 hu
        refine k _ (.ref u) (.tuple es) (ExS.new (hE.trans e2) hu) ((s2.ex (Ex.new hu)).mono (by omega)) (.tup (SqT.of (nw_of hu0 upd_same)) (dpa_ex (fun z o hz => ?_) _ _ hY2)) hls.2
        obtain ⟨z1, z2⟩ := nw_some hz
        exact nw_of z1 (Ex.new hu z o z2)
      rcases d with _ | b0 | i0 | x0 | ds | ds | kvs
      · cases hi
      · cases hi
      · cases hd
        refine ⟨.int i0, p, _, _, [.type "list", .type "tuple"], false, rfl, upd_same, .cons (.ty _) (.cons (.ty _) .nil), .base (.int i0), seq_no_i, false, rfl, ?_⟩
        refine iteF ?_
        refine ⟨_, rfl, k _ (.int i0) (.int i0) e1 (s1.mono (by omega)) (.int i0) (.int i0)⟩
      · cases hi
      · cases hd with
        | lst hx hD =>
          rename_i c xs
          have hA : allIA ds = true := hi
          have hdep : PyData.depthAll ds < D := Nat.lt_of_succ_lt_succ hdp
          have hcn : cnt (.list ds) = cntA ds + 1 := rfl
          rw [hcn] at hn hc
          have hxl := dpa_len hD
          refine ⟨_, p, _, _, [.type "list", .type "tuple"], true, rfl, upd_same, .cons (.ty _) (.cons (.ty _) .nil), ty_l (ex_l (e1.trans hid_ex) hx), seq_yes_l, true, rfl, ?_⟩
          refine iteT ?_
          refine Or.inl ⟨_, rfl, c, rfl, ⟨xs, ex_l (e1.trans hid_ex) hx⟩, fun L hL => ?_⟩
          have hL0 : H L = none := fresh_back (Ex.new hp) hL
          have la := hS.nea hL0
          have lb := hS.neb hL0
          refine lc_list (xs := xs) (fun i H1 => ∃ (ys : List V) (es : List PyData), ExS a b H H1 ∧ SAt H1 a b (n + cntA (ds.take i)) ∧ H1 L = some (.lst ys) ∧ DpAll K (hid L L (nw H H1)) ys es ∧ LsA (ds.take i) es ∧ ys.length = i) ?_ ?_ ?_ ?_
          · exact ⟨[], [], ExS.own e1 hL0 la lb, s1.upd la lb, upd_same, .nil, .nil, rfl⟩
          · rintro i H1 _ ⟨ys, es, q⟩
            exact ex_l (q.1.trans hid_ex) hx
          · rintro i x H1 hxi q
            refine ⟨rfl, ?_⟩
            exact ⟨_, rfl, _, rfl, turn c xs ds L hD hA hdep (by omega) (by omega) hL0 i x H1 hxi q⟩
          · rintro H1 ⟨ys, es, hE, hS1, hL1, hY, hls, hyl⟩
            rw [hxl, List.take_of_length_le (Nat.le_refl _)] at hls hS1
            refine ⟨_, rfl, a, b, n + cntA ds, 2, rfl, hS1, by omega, by decide, by decide, fun H2 x e2 s2 x0 x1 => ⟨rfl, _, rfl, ?_⟩⟩
            obtain ⟨f1, f2, f3⟩ := fin1 ds L ys es H1 H2 hL0 hE hS1 hL1 hY ⟨.ll hls, .lt hls⟩ hcn e2 s2
            refine dec_ite (fun _ => ?_) (fun _ => ?_)
            · exact ⟨_, rfl, f1⟩
            · exact ⟨_, rfl, L, ys, rfl, .inl ⟨f2, f3⟩⟩
      · cases hd with
        | tup hx hD =>
          rename_i c xs
          have hA : allIA ds = true := hi
          have hdep : PyData.depthAll ds < D := Nat.lt_of_succ_lt_succ hdp
          have hcn : cnt (.tuple ds) = cntA ds + 1 := rfl
          rw [hcn] at hn hc
          have hxl := dpa_len hD
          refine ⟨_, p, _, _, [.type "list", .type "tuple"], true, rfl, upd_same, .cons (.ty _) (.cons (.ty _) .nil), ty_t (ex_t (e1.trans hid_ex) hx), seq_yes_t, true, rfl, ?_⟩
          refine iteT ?_
          refine Or.inr ⟨_, rfl, c, rfl, ⟨xs, ex_t (e1.trans hid_ex) hx⟩, fun L hL => ?_⟩
          have hL0 : H L = none := fresh_back (Ex.new hp) hL
          have la := hS.nea hL0
          have lb := hS.neb hL0
          refine lc_tup (xs := xs) (fun i H1 => ∃ (ys : List V) (es : List PyData), ExS a b H H1 ∧ SAt H1 a b (n + cntA (ds.take i)) ∧ H1 L = some (.lst ys) ∧ DpAll K (hid L L (nw H H1)) ys es ∧ LsA (ds.take i) es ∧ ys.length = i) ?_ ?_ ?_ ?_
          · exact ⟨[], [], ExS.own e1 hL0 la lb, s1.upd la lb, upd_same, .nil, .nil, rfl⟩
          · rintro i H1 _ ⟨ys, es, q⟩
            exact ex_t (q.1.trans hid_ex) hx
          · rintro i x H1 hxi q
            refine ⟨rfl, ?_⟩
            exact ⟨_, rfl, _, rfl, turn c xs ds L hD hA hdep (by omega) (by omega) hL0 i x H1 hxi q⟩
          · rintro H1 ⟨ys, es, hE, hS1, hL1, hY, hls, hyl⟩
            rw [hxl, List.take_of_length_le (Nat.le_refl _)] at hls hS1
            refine ⟨_, rfl, a, b, n + cntA ds, 2, rfl, hS1, by omega, by decide, by decide, fun H2 x e2 s2 x0 x1 => ⟨rfl, _, rfl, ?_⟩⟩
            obtain ⟨f1, f2, f3⟩ := fin1 ds L ys es H1 H2 hL0 hE hS1 hL1 hY ⟨.tl hls, .tt hls⟩ hcn e2 s2
            refine dec_ite (fun _ => ?_) (fun _ => ?_)
            · exact ⟨_, rfl, f1⟩
            · exact ⟨_, rfl, L, ys, rfl, .inl ⟨f2, f3⟩⟩
      · cases hi
end
end AA

set_option Elab.async false
set_option linter.all false
set_option maxRecDepth 100000
set_option maxHeartbeats 4000000
/-! A function of the module, held as a value: isinstance of it. -/
namespace AA
open PySem PySem.Spec PyProof.Rows
theorem fl_lk : typeLookup (.type "function") "__class__" = pure (some (.builtin "object.__class__")) := by
  rw [typeLookup_type, builtinLookup_eq_fast]
  kernel_rfl
theorem fl_sub : isSubtype (.type "function") (.type (".".intercalate ("object.__class__".cutAt '.').dropLast)) = pure true := by
  rw [F.owner_object_class, isSubtype_type]
  kernel_rfl
theorem fl_ga : Slot "function" "__getattribute__" "object.__getattribute__" :=
  .of (owner := "object") (n := "__getattribute__") (by rw [typeLookup_type, builtinLookup_eq_fast]; kernel_rfl)
    (by decide +kernel) (by decide +kernel) (by decide +kernel) (by first | exact .inl (by decide +kernel) | exact .inr (by decide +kernel))
    (by rw [isSubtype_type]; kernel_rfl)
section
variable {prog : Program} {w : World} {A : Around} {E : Value → Shared → Prop} {h : Heap} {g : Array GenState} {d : Drawn} {t : Nat} {os : OsState} {a : Addr} {o : Obj}
theorem fl_get {R : Result → Shared → Prop} (hx : h.get? a = some o) (hc : o.cls = .type "function") (hq : R (.ok (.ret (.type "function"))) ⟨h, g, d, t, os⟩) :
    codeAny (model prog w) A (.call (.builtin "getset_descriptor.__get__") ⟨[.builtin "object.__class__", .ref a, .type "function"], []⟩) R ⟨h, g, d, t, os⟩ := by
  have hT : (⟨h, g, d, t, os⟩ : Shared).TypeIs (.ref a) "function" := ⟨_, hx, hc⟩
  have hT5 : (⟨h, g, d, t, os⟩ : Shared).TypeIs (.builtin "object.__class__") "getset_descriptor" := F.typeOf_object_class
  have f8 := fl_sub
  refine codeAny_call_builtin F.slot_gs_get.plain F.entry_gs_get (F.slot_gs_get.check _ _ _ _ _ _ _ _ hT5 (F.args_gs_get _ _ _) ?_)
  repeat (any_goals (first | assumption | wp_step))
  refine ⟨Code.quiet_builtin _ (by decide +kernel), codeAny_builtin F.entry_object_class ?_⟩
  repeat (any_goals (first | assumption | wp_step))
theorem fl_entry {tk : Tok} {Q : PySem.Fin → Shared → Prop} (hx : h.get? a = some o) (hc : o.cls = .type "function") (hq : Q (.done (.ret (.type "function"))) ⟨h, g, d, t, os⟩) :
    wpAny (model prog w) A (Builtin.«object.__getattribute__» ⟨[.ref a, .str "__class__" tk], []⟩) Q E ⟨h, g, d, t, os⟩ := by
  have hT : (⟨h, g, d, t, os⟩ : Shared).TypeIs (.ref a) "function" := ⟨_, hx, hc⟩
  have hT5 : (⟨h, g, d, t, os⟩ : Shared).TypeIs (.builtin "object.__class__") "getset_descriptor" := F.typeOf_object_class
  have f4 := fl_lk
  have f5 := F.typeOf_object_class
  have f6 := F.slot_gs_get.lookup
  have f7 := F.slot_gs_set.lookup
  repeat (any_goals (first | assumption | wp_step))
  refine fl_get hx hc ?_
  repeat (any_goals (first | assumption | wp_step))
theorem fl_call {tk : Tok} {R : Result → Shared → Prop} (hx : h.get? a = some o) (hc : o.cls = .type "function") (hq : R (.ok (.ret (.type "function"))) ⟨h, g, d, t, os⟩) :
    codeAny (model prog w) A (.call (.builtin "object.__getattribute__") ⟨[.ref a, .str "__class__" tk], []⟩) R ⟨h, g, d, t, os⟩ :=
  codeAny_call_builtin fl_ga.plain F.entry_object_getattribute
    (fl_ga.check _ _ _ _ _ _ _ _ (show (⟨h, g, d, t, os⟩ : Shared).TypeIs (.ref a) "function" from ⟨_, hx, hc⟩) (F.args_object_getattribute_2 _ _) (fl_entry hx hc hq))
theorem fl_by {tk : Tok} {Q : Value → Shared → Prop} (hx : h.get? a = some o) (hc : o.cls = .type "function") (hq : Q (.type "function") ⟨h, g, d, t, os⟩) :
    wpAny (model prog w) A (getAttrBy (.ref a) (.str "__class__" tk) false) Q E ⟨h, g, d, t, os⟩ := by
  have hT : (⟨h, g, d, t, os⟩ : Shared).TypeIs (.ref a) "function" := ⟨_, hx, hc⟩
  have f2 := fl_ga.lookup
  have f3 := fl_ga.bind (.ref a)
  repeat (any_goals (first | assumption | wp_step))
  refine fl_call hx hc ?_
  repeat (any_goals (first | assumption | wp_step))
theorem fl_attr {Q : Option Value → Shared → Prop} (hx : h.get? a = some o) (hc : o.cls = .type "function") (hq : Q (some (.type "function")) ⟨h, g, d, t + 1, os⟩) :
    wpAny (model prog w) A (getAttr? (.ref a) "__class__") Q E ⟨h, g, d, t, os⟩ := by
  unfold getAttr? getAttrBy?
  repeat (any_goals (first | assumption | with_reducible apply fl_by hx hc | wp_step))
end
theorem kitx_fn {K : PySem.W.Frag} {a : Addr} : PySem.W.KitX K (.ref a) (.type "function") (PySem.W.KitAt a "function") :=
  PySem.W.kitx_of PySem.W.kitAt_ty (fun {_ _ _ _ _ s} p k => by
    obtain ⟨h, g, d, t, os⟩ := s
    obtain ⟨o, h1, h2⟩ := p
    exact fl_attr h1 h2 k)
theorem fl_eq : Slot "function" (cmpInfo .Eq).2.1 "object.__eq__" :=
  .of (owner := "object") (n := "__eq__") (by rw [typeLookup_type, builtinLookup_eq_fast]; kernel_rfl)
    (by decide +kernel) (by decide +kernel) (by decide +kernel) (by first | exact .inl (by decide +kernel) | exact .inr (by decide +kernel))
    (by rw [isSubtype_type]; kernel_rfl)
section
open L2
variable {X : Cx} {j : Nat}
/-- what isinstance asks of a value: TyX, or a function of the module -/
def TyF (K : PySem.W.Frag) (H : Hp) (x : V) (t : Value) : Prop := TyX K H x t ∨ ∃ (a : Addr) (o : Obj), x = .ref a ∧ K.lookup a = some o ∧ o.cls = .type "function" ∧ t = .type "function"
theorem kit_F {pins : List (Addr × Obj)} {σ : L2.St} {H : Hp} {s : Shared} {x : V} {u t : Value} (I : Inv X pins σ H s) (rx : RelV x u) (ty : TyF X.K H x t) :
    ∃ P : Heap → Prop, PySem.W.KitX X.K u t P ∧ P s.heap ∧ u ≠ .builtin "__main__.__loader__#opaque" := by
  rcases ty with ty | ⟨a, o, rfl, h1, h2, rfl⟩
  · exact kit_of I rx ty
  · cases (show u = Value.ref a from rx)
    exact ⟨_, kitx_fn, ⟨o, I.kIn a o h1, h2⟩, fun z => nomatch z⟩
def rIs1 (K : PySem.W.Frag) : List V → Hp → VK → Prop := fun xs H Q => ∃ (x c : V) (t u : Value) (b : Bool), xs = [x, c] ∧ ClsV c u ∧ TyF K H x t ∧ PySem.W.kitOne K t u = some b ∧ Q (.bl b) H
def rIsN (K : PySem.W.Frag) : List V → Hp → VK → Prop := fun xs H Q => ∃ (x : V) (tp : Addr) (cs : List V) (t : Value) (us : List Value) (b : Bool), xs = [x, .ref tp] ∧ H tp = some (.tup cs) ∧ Paired ClsV cs us ∧ TyF K H x t ∧ PySem.W.kitAny K t us = some b ∧ Q (.bl b) H
theorem call_is1 : CallR X (.builtin "isinstance") (rIs1 X.K) := by
  intro pins s σ H xs us Q I r h
  obtain ⟨x, c, t, u, b, rfl, k, ty, e, q⟩ := h
  obtain ⟨u1, u2, rfl, r1, r2⟩ := vals2 r
  cases k.eq r2
  obtain ⟨P, Z, p, hx⟩ := kit_F I r1 ty
  exact PySem.W.kia_one Z I.kIn p e hx fun tk => ⟨.bl b, H, I.tok tk, rfl, q⟩
theorem call_isN : CallR X (.builtin "isinstance") (rIsN X.K) := by
  intro pins s σ H xs us Q I r h
  obtain ⟨x, tp, cs, t, ws, b, rfl, hT, k, ty, e, q⟩ := h
  obtain ⟨u1, u2, rfl, r1, r2⟩ := vals2 r
  cases (show u2 = Value.ref tp from r2)
  obtain ⟨P, Z, p, hx⟩ := kit_F I r1 ty
  obtain ⟨_, its, rv, ob, g1, g2, n, g3⟩ := (show ObjOk X.prog X.w H s.heap tp (.tup cs) from I.hok tp _ hT)
  cases ClsV.all k rv
  obtain ⟨oc, od, dt, sl⟩ := ob
  simp only at g2 g3
  subst g2 g3
  exact PySem.W.kia_tup Z I.kIn p g1 e hx fun tk => ⟨.bl b, H, I.tok tk, rfl, q⟩
/-- f == f, a function of the module -/
def rEqF (K : PySem.W.Frag) : R2 := fun x y H Q => ∃ (f : Addr) (o : Obj), x = .ref f ∧ y = .ref f ∧ K.lookup f = some o ∧ o.cls = .type "function" ∧ Q (.bl true) H
theorem op_eqF (hr : Room j X.A) : OpR X (compareOp .Eq) (rEqF X.K) := by
  intro pins s σ H x y v u Q I rx ry h
  obtain ⟨f, o, rfl, rfl, h1, h2, q⟩ := h
  cases (show v = Value.ref f from rx)
  cases (show u = Value.ref f from ry)
  have hT : s.TypeIs (.ref f) "function" := ⟨o, I.kIn f o h1, h2⟩
  show wpAny _ _ (richCompare .Eq (.ref f) (.ref f)) _ _ s
  refine wpAny_richCompare_same_room (op := .Eq) hT hT fl_eq (wpAny_call_entry fl_eq hT F.cmpEntry_eq (objEq_entry_same ?_) (F.cmpArgs_eq _ _)) hr.units0
  exact ⟨_, rfl, fun e => (nomatch e), ⟨.bl true, H, I, rfl, q⟩⟩
end
end AA

set_option Elab.async false
set_option linter.all false
set_option maxRecDepth 100000
set_option maxHeartbeats 4000000
namespace AA
open PySem PySem.Spec PyProof.Rows L2 Evl
theorem op_orR {X : Cx} {f : Value → Value → Sem Value} {r1 r2 : R2} (h1 : OpR X f r1) (h2 : OpR X f r2) : OpR X f (fun x y H Q => r1 x y H Q ∨ r2 x y H Q) :=
  fun pins s σ H x y v u Q I rx ry h => h.elim (h1 pins s σ H x y v u Q I rx ry) (h2 pins s σ H x y v u Q I rx ry)
/-! ### alike, kind by kind -/
def leaf : V → Bool
  | .non => true
  | .bl _ => true
  | .int _ => true
  | .str z => PyData.strOk z
  | _ => false
/-- what an own class must say, so that isinstance asks its instances rightly -/
structure InsK (K : PySem.W.Frag) (C : Addr) : Prop where
  cl : Cls K C
  ha : PySem.W.findIn K (.ref C) "__class__" = some (some (.builtin "object.__class__"))
  hn : PySem.W.specialIn K (.builtin "object.__class__") "__get__" = some (some (.builtin "getset_descriptor.__get__"))
  ht : PySem.W.takesIn K (.builtin "object.__class__") = some true
  hm : PySem.W.mroIn K C (.type "object") = some true
  n1 : PySem.W.kitAny K (.ref C) [.type "list", .type "tuple"] = some false
  n2 : PySem.W.kitOne K (.ref C) (.type "dict") = some false
  n3 : PySem.W.kitOne K (.ref C) (.type "bool") = some false
  n4 : PySem.W.kitAny K (.ref C) [.type "list", .type "tuple", .type "dict"] = some false
def Sm (K : PySem.W.Frag) (C : Addr) (R : Addr → Addr → Hp → Prop) (H : Hp) : Nat → V → V → Prop
  | 0, _, _ => False
  | n + 1, x, y => (x = y ∧ leaf x = true) ∨
      (∃ a b xs ys, x = .ref a ∧ y = .ref b ∧ SqL K H a xs ∧ SqL K H b ys ∧ Paired (Sm K C R H n) xs ys ∧ xs.length ≤ 1000000) ∨
      (∃ a b xs ys, x = .ref a ∧ y = .ref b ∧ SqT K H a xs ∧ SqT K H b ys ∧ Paired (Sm K C R H n) xs ys ∧ xs.length ≤ 1000000) ∨
      (∃ a b, x = .ref a ∧ y = .ref b ∧ H a = some (.dK []) ∧ H b = some (.dK []) ∧ 0 < n) ∨
      (∃ a dx fs, x = .ref a ∧ y = .ref a ∧ H a = some (.ins C dx fs) ∧ R a a H) ∨
      (∃ f o, x = .ref f ∧ y = .ref f ∧ K.lookup f = some o ∧ o.cls = .type "function")
theorem sm_ex {K : PySem.W.Frag} {C : Addr} {R : Addr → Addr → Hp → Prop} {H H' : Hp} (hR : ∀ a b H H', Ex H H' → R a b H → R a b H') (e : Ex H H') : ∀ (n : Nat) (x y : V), Sm K C R H n x y → Sm K C R H' n x y
  | 0, _, _, h => h
  | n + 1, x, y, h => by
    rcases h with h | ⟨a, b, xs, ys, h1, h2, h3, h4, h5, h6⟩ | ⟨a, b, xs, ys, h1, h2, h3, h4, h5, h6⟩ | ⟨a, b, h1, h2, h3, h4, h5⟩ | ⟨a, dx, fs, h1, h2, h3, h4⟩ | h
    · exact .inl h
    · exact .inr (.inl ⟨a, b, xs, ys, h1, h2, ex_l e h3, ex_l e h4, Paired.mapP h5 fun u v => sm_ex hR e n u v, h6⟩)
    · exact .inr (.inr (.inl ⟨a, b, xs, ys, h1, h2, ex_t e h3, ex_t e h4, Paired.mapP h5 fun u v => sm_ex hR e n u v, h6⟩))
    · exact .inr (.inr (.inr (.inl ⟨a, b, h1, h2, e _ _ h3, e _ _ h4, h5⟩)))
    · exact .inr (.inr (.inr (.inr (.inl ⟨a, dx, fs, h1, h2, e _ _ h3, hR _ _ _ _ e h4⟩))))
    · exact .inr (.inr (.inr (.inr (.inr h))))
theorem kit_no2 {K : PySem.W.Frag} {T : String} (h1 : kitB T "list" = some false) (h2 : kitB T "tuple" = some false) : PySem.W.kitAny K (.type T) [.type "list", .type "tuple"] = some false :=
  kitAny_cons (b := false) (kit_ty h1) (fun _ => kitAny_cons (b := false) (kit_ty h2) (fun _ => kitAny_nil) (fun z => nomatch z)) (fun z => nomatch z)
theorem kit_no3 {K : PySem.W.Frag} {T : String} (h1 : kitB T "list" = some false) (h2 : kitB T "tuple" = some false) (h3 : kitB T "dict" = some false) : PySem.W.kitAny K (.type T) [.type "list", .type "tuple", .type "dict"] = some false :=
  kitAny_cons (b := false) (kit_ty h1) (fun _ => kitAny_cons (b := false) (kit_ty h2) (fun _ => kitAny_cons (b := false) (kit_ty h3) (fun _ => kitAny_nil) (fun z => nomatch z)) (fun z => nomatch z)) (fun z => nomatch z)
/-- a thing that is no list, no tuple, no dict, no bool, and equal to itself -/
def Plain (K : PySem.W.Frag) (C : Addr) (R : Addr → Addr → Hp → Prop) (H : Hp) (x : V) : Prop := ∃ t : Value, (∀ H', Ex H H' → TyF K H' x t) ∧ PySem.W.kitAny K t [.type "list", .type "tuple"] = some false ∧
  PySem.W.kitOne K t (.type "dict") = some false ∧ PySem.W.kitOne K t (.type "bool") = some false ∧ PySem.W.kitAny K t [.type "list", .type "tuple", .type "dict"] = some false ∧
  ∀ (H' : Hp) (Q' : VK), Ex H H' → (∀ H2, Ex H' H2 → Q' (.bl true) H2) → (rEqD K x x H' Q' ∨ rEqF K x x H' Q') ∨ rEqG (DIns C R) x x H' Q'
theorem str_eqv (x : Str) : PyData.eqv (.str x) (.str x) = true := by
  show (x == x) = true
  exact beq_self_eq_true x
theorem sm_plain {K : PySem.W.Frag} {C : Addr} {R : Addr → Addr → Hp → Prop} {H : Hp} (IC : InsK K C) (hR : ∀ a b H H', Ex H H' → R a b H → R a b H') {n : Nat} {x y : V} (h : Sm K C R H (n + 1) x y) :
    (x = y ∧ Plain K C R H x) ∨ (∃ b, x = .bl b ∧ y = .bl b) ∨
      (∃ a b xs ys, x = .ref a ∧ y = .ref b ∧ SqL K H a xs ∧ SqL K H b ys ∧ Paired (Sm K C R H n) xs ys ∧ xs.length ≤ 1000000) ∨
      (∃ a b xs ys, x = .ref a ∧ y = .ref b ∧ SqT K H a xs ∧ SqT K H b ys ∧ Paired (Sm K C R H n) xs ys ∧ xs.length ≤ 1000000) ∨
      (∃ a b, x = .ref a ∧ y = .ref b ∧ H a = some (.dK []) ∧ H b = some (.dK []) ∧ 0 < n) := by
  rcases h with ⟨rfl, h⟩ | h | h | h | ⟨a, dx, fs, rfl, rfl, h3, h4⟩ | ⟨f, o, rfl, rfl, h1, h2⟩
  · cases x with
    | non => exact .inl ⟨rfl, .type "NoneType", fun _ _ => .inl (.base .non), kit_no2 (by decide +kernel) (by decide +kernel), kit_ty (by decide +kernel), kit_ty (by decide +kernel), kit_no3 (by decide +kernel) (by decide +kernel) (by decide +kernel), fun H' Q' e q => .inl (.inl ⟨.none, .none, .non, .non, rfl, rfl, q _ (Ex.refl _)⟩)⟩
    | bl b => exact .inr (.inl ⟨b, rfl, rfl⟩)
    | int i => exact .inl ⟨rfl, .type "int", fun _ _ => .inl (.base (.int i)), kit_no2 (by decide +kernel) (by decide +kernel), kit_ty (by decide +kernel), kit_ty (by decide +kernel), kit_no3 (by decide +kernel) (by decide +kernel) (by decide +kernel), fun H' Q' e q => .inl (.inl ⟨.int i, .int i, .int i, .int i, rfl, rfl, by
        have : PyData.eqv (.int i) (.int i) = true := beq_self_eq_true i
        rw [this]
        exact q _ (Ex.refl _)⟩)⟩
    | str z =>
      have hz : PyData.strOk z = true := h
      have hsh : SeqAt.shaped (.str z) = true := by
        show (PyData.strOk z && decide (PyData.depth (.str z) ≤ 64)) = true
        rw [hz]
        rfl
      exact .inl ⟨rfl, .type "str", fun _ _ => .inl (.base (.str z)), kit_no2 (by decide +kernel) (by decide +kernel), kit_ty (by decide +kernel), kit_ty (by decide +kernel), kit_no3 (by decide +kernel) (by decide +kernel) (by decide +kernel), fun H' Q' e q => .inl (.inl ⟨.str z, .str z, .str z, .str z, hsh, hsh, by
        rw [str_eqv]
        exact q _ (Ex.refl _)⟩)⟩
    | byt b => cases h
    | flt b => cases h
    | ref a => cases h
    | ty n => cases h
  · exact .inr (.inr (.inl h))
  · exact .inr (.inr (.inr (.inl h)))
  · exact .inr (.inr (.inr (.inr h)))
  · exact .inl ⟨rfl, .ref C, fun H' e => .inl (.base (.ins (e _ _ h3) IC.cl IC.ha IC.hn IC.ht IC.hm)), IC.n1, IC.n2, IC.n3, IC.n4, fun H' Q' e q => .inr ⟨⟨a, a, dx, dx, fs, fs, rfl, rfl, e _ _ h3, e _ _ h3, hR _ _ _ _ e h4⟩, fun H2 e2 => q H2 e2⟩⟩
  · exact .inl ⟨rfl, .type "function", fun _ _ => .inr ⟨f, o, rfl, h1, h2, rfl⟩, kit_no2 (by decide +kernel) (by decide +kernel), kit_ty (by decide +kernel), kit_ty (by decide +kernel), kit_no3 (by decide +kernel) (by decide +kernel) (by decide +kernel), fun H' Q' e q => .inl (.inr ⟨f, o, rfl, rfl, h1, h2, q _ (Ex.refl _)⟩)⟩
theorem paired_at {α β : Type} {F : α → β → Prop} : ∀ {xs : List α} {ys : List β} {i : Nat} {x : α}, Paired F xs ys → xs[i]? = some x → ∃ y, ys[i]? = some y ∧ F x y
  | _, _, _, _, .nil, e => by simp at e
  | _, _, 0, _, .cons r _, e => ⟨_, rfl, (Option.some.inj e) ▸ r⟩
  | _, _, i + 1, _, .cons _ t, e => paired_at (i := i) t e
theorem lc_zipL {K : PySem.W.Frag} {a b : Addr} {xs ys : List V} {g : TG} {tt : TT} {te : TE} {vs : List Nat} {σ : L2.St} {H1 : Hp} {D : Addr} {Qd : Hp → Prop} (hl : xs.length = ys.length) (Pv : Nat → Hp → Prop) (h0 : Pv 0 (upd H1 D (.lst [])))
    (hq : ∀ i H, Pv i H → SqL K H a xs ∧ SqL K H b ys)
    (hs : ∀ (i : Nat) (x y : V) (H : Hp) (T : Addr), xs[i]? = some x → ys[i]? = some y → Pv i H → H T = none → g (.ref T) (wipe σ vs) (upd H T (.tup [x, y])) fun σ2 H2 => wipe σ2 vs = wipe σ vs ∧ tt σ2 H2 fun c H3 =>
      if c = true then te σ2 H3 fun z H4 => ∃ acc, H4 D = some (.lst acc) ∧ acc.length < sizeLine ∧ Pv (i + 1) (upd H4 D (.lst (acc ++ [z]))) else Pv (i + 1) H3) (hd : ∀ H, Pv xs.length H → Qd H) :
    ∃ W : Nat → Nat → Hp → Prop, (∃ m, W 0 m (upd H1 D (.lst []))) ∧ ∀ i m H, W i m H →
      ((Itz K a b).stop i H ∧ Qd H) ∨ ((Itz K a b).go i H ∧ ∃ Nx : Hp → Prop, (∀ H', Nx H' → ∃ m', m' < m ∧ W (i + 1) m' H') ∧ ∀ x H', (Itz K a b).yld i H x H' → g x (wipe σ vs) H' fun σ2 H2 => wipe σ2 vs = wipe σ vs ∧ tt σ2 H2 fun c H3 =>
        if c = true then te σ2 H3 fun z H4 => ∃ acc, H4 D = some (.lst acc) ∧ acc.length < sizeLine ∧ Nx (upd H4 D (.lst (acc ++ [z]))) else Nx H3) := by
  refine ⟨fun i m H => m = xs.length - i ∧ i ≤ xs.length ∧ Pv i H, ⟨xs.length, by simp, Nat.zero_le _, h0⟩, ?_⟩
  rintro i m H ⟨rfl, hi, p⟩
  obtain ⟨q1, q2⟩ := hq i H p
  by_cases hlt : i < xs.length
  · have g1 : xs[i]? = some xs[i] := List.getElem?_eq_getElem hlt
    have g2 : ys[i]? = some (ys[i]'(by omega)) := List.getElem?_eq_getElem (by omega)
    refine .inr ⟨⟨xs, ys, _, _, q1, q2, g1, g2⟩, Pv (i + 1), fun H' p' => ⟨xs.length - (i + 1), by omega, rfl, hlt, p'⟩, fun x H' y => ?_⟩
    obtain ⟨T, z1, z2, rfl, hT, rfl, f1, f2⟩ := y
    exact hs i z1 z2 H T (f1 _ q1) (f2 _ q2) p hT
  · have e : i = xs.length := by omega
    subst e
    exact .inl ⟨⟨xs, ys, q1, q2, .inl (Nat.le_refl _)⟩, hd H p⟩
theorem lc_zipT {K : PySem.W.Frag} {a b : Addr} {xs ys : List V} {g : TG} {tt : TT} {te : TE} {vs : List Nat} {σ : L2.St} {H1 : Hp} {D : Addr} {Qd : Hp → Prop} (hl : xs.length = ys.length) (Pv : Nat → Hp → Prop) (h0 : Pv 0 (upd H1 D (.lst [])))
    (hq : ∀ i H, Pv i H → SqT K H a xs ∧ SqT K H b ys)
    (hs : ∀ (i : Nat) (x y : V) (H : Hp) (T : Addr), xs[i]? = some x → ys[i]? = some y → Pv i H → H T = none → g (.ref T) (wipe σ vs) (upd H T (.tup [x, y])) fun σ2 H2 => wipe σ2 vs = wipe σ vs ∧ tt σ2 H2 fun c H3 =>
      if c = true then te σ2 H3 fun z H4 => ∃ acc, H4 D = some (.lst acc) ∧ acc.length < sizeLine ∧ Pv (i + 1) (upd H4 D (.lst (acc ++ [z]))) else Pv (i + 1) H3) (hd : ∀ H, Pv xs.length H → Qd H) :
    ∃ W : Nat → Nat → Hp → Prop, (∃ m, W 0 m (upd H1 D (.lst []))) ∧ ∀ i m H, W i m H →
      ((RZ.ItzT K a b).stop i H ∧ Qd H) ∨ ((RZ.ItzT K a b).go i H ∧ ∃ Nx : Hp → Prop, (∀ H', Nx H' → ∃ m', m' < m ∧ W (i + 1) m' H') ∧ ∀ x H', (RZ.ItzT K a b).yld i H x H' → g x (wipe σ vs) H' fun σ2 H2 => wipe σ2 vs = wipe σ vs ∧ tt σ2 H2 fun c H3 =>
        if c = true then te σ2 H3 fun z H4 => ∃ acc, H4 D = some (.lst acc) ∧ acc.length < sizeLine ∧ Nx (upd H4 D (.lst (acc ++ [z]))) else Nx H3) := by
  refine ⟨fun i m H => m = xs.length - i ∧ i ≤ xs.length ∧ Pv i H, ⟨xs.length, by simp, Nat.zero_le _, h0⟩, ?_⟩
  rintro i m H ⟨rfl, hi, p⟩
  obtain ⟨q1, q2⟩ := hq i H p
  by_cases hlt : i < xs.length
  · have g1 : xs[i]? = some xs[i] := List.getElem?_eq_getElem hlt
    have g2 : ys[i]? = some (ys[i]'(by omega)) := List.getElem?_eq_getElem (by omega)
    refine .inr ⟨⟨xs, ys, _, _, q1, q2, g1, g2⟩, Pv (i + 1), fun H' p' => ⟨xs.length - (i + 1), by omega, rfl, hlt, p'⟩, fun x H' y => ?_⟩
    obtain ⟨T, z1, z2, rfl, hT, rfl, f1, f2⟩ := y
    exact hs i z1 z2 H T (f1 _ q1) (f2 _ q2) p hT
  · have e : i = xs.length := by omega
    subst e
    exact .inl ⟨⟨xs, ys, q1, q2, .inl (Nat.le_refl _)⟩, hd H p⟩
theorem all_true (n : Nat) : (List.replicate n true).all id = true := by
  rw [List.all_eq_true]
  intro x hx
  rw [(List.mem_replicate.mp hx).2]
  rfl
section
variable {P : Program} {w : World} {K : PySem.W.Frag} {mg : Str → Option Value} {base : Heap}
def spSame (K : PySem.W.Frag) (C : Addr) (R : Addr → Addr → Hp → Prop) (n : Nat) : Sp := fun vs H Q _ => ∃ (x y : V), vs = [x, y] ∧ Sm K C R H n x y ∧ ∀ H', Ex H H' → Q (.bl true) H'
theorem scSame : FnScope ["_law_found", "_law_due", "_law_mine", "_law_theirs"] ["_law_found", "_law_due"] (defScope sSame) := ⟨rfl, rfl, rfl, by decide +kernel, rfl, by decide +kernel, by decide +kernel⟩
theorem ok_same {C : Addr} {R : Addr → Addr → Hp → Prop} {f fE : Addr} {fd fdE : FuncData} (F : L2.Fun K "_law_same" "_law_same" sSame f fd) (T : Bn mg) (hm : mg "_law_same" = some (.ref f)) (bS : Binds K fd ["_law_found", "_law_due"] [])
    (IC : InsK K C) (hR : ∀ a b H H', Ex H H' → R a b H → R a b H')
    (GE : FnOk P w K mg base CX0 2 fE fdE ["self", "other"] (spEq R)) (hs : PySem.W.findIn K (.ref C) "__eq__" = some (some (.ref fE))) (hf : PySem.W.isFn K (.ref fE) = true) (bE : Binds K fdE ["self", "other"] []) :
    ∀ n : Nat, FnOk P w K mg base CX0 (n + 3) f fd ["_law_found", "_law_due"] (spSame K C R n)
  | 0 => ⟨fun vs H Q E h => by
      obtain ⟨x, y, rfl, _⟩ := h
      rfl, fun A outer s H args us vs Q E _ _ _ _ h => by
      obtain ⟨x, y, _, h, _⟩ := h
      exact h.elim⟩
  | n + 1 => by
    have cS : C8.Cal P w K mg base (n + 3) "_law_same" (spSame K C R n) [] := cal_of F hm bS (ok_same F T hm bS IC hR GE hs hf bE n)
    refine F.ok scSame (fun vs H Q E h => ?_) (fun cdv A outer s H vs Q E hr h => ?_)
    · obtain ⟨x, y, rfl, _⟩ := h
      rfl
    · obtain ⟨x, y, rfl, hsm, k⟩ := h
      have rE : RcG (cxOf CX0 P w K mg base ["_law_found", "_law_due", "_law_mine", "_law_theirs"] "_law_same" (defScope sSame) f cdv A outer s H E).nox 2 (DIns C R) := rcG_ins (E := E0) GE hs hf bE pass0
      refine ⟨_, pss_cons (ps_if (pt_val (pe_callB call_isN (by rfl) T.isinstance boot_isinstance (pa_cons (pv 1) (pa_cons (pe_tup (pa_cons (pe_bltn (v := .ty "list") (by rfl) T.list boot_list rfl) (pa_cons (pe_bltn (v := .ty "tuple") (by rfl) T.tuple boot_tuple rfl) pa_nil))) pa_nil))))
          (pss_cons (ps_if (PW.pt (pw_or (pt_cmpR op_ne (pe_callB call_is1 (by rfl) T.isinstance boot_isinstance (pa_cons (pv 0) (pa_cons (pe_bltn (v := .ty "list") (by rfl) T.list boot_list rfl) pa_nil))) (pe_callB call_is1 (by rfl) T.isinstance boot_isinstance (pa_cons (pv 1) (pa_cons (pe_bltn (v := .ty "list") (by rfl) T.list boot_list rfl) pa_nil))) (nomark _))
              (pw_or1 (pt_cmpR op_ne (pe_callB call_is1 (by rfl) T.isinstance boot_isinstance (pa_cons (pv 0) (pa_cons (pe_bltn (v := .ty "tuple") (by rfl) T.tuple boot_tuple rfl) pa_nil))) (pe_callB call_is1 (by rfl) T.isinstance boot_isinstance (pa_cons (pv 1) (pa_cons (pe_bltn (v := .ty "tuple") (by rfl) T.tuple boot_tuple rfl) pa_nil))) (nomark _)))))
              (pss_one (ps_ret pe_bl)) pss_nil)
            (pss_one (ps_ret (pe_and (pe_cmpR op_eq (pe_callB call_len_seq (by rfl) T.len PySem.boot_len (pa_cons (pv 0) pa_nil)) (pe_callB call_len_seq (by rfl) T.len PySem.boot_len (pa_cons (pv 1) pa_nil)) (nomark _))
              (pe_one (pe_callB (cr_all (by rfl)) (by rfl) T.all boot_all (pa_cons (pe_lc (own := [("_law_mine", 2), ("_law_theirs", 3)]) (g := gTup K 2 (gCons (gName 2) (gCons (gName 3) gNil))) (tt := tYes) (by rfl) scSame.nd (RZ.pi_zipA (by rfl) T.zip (pa_cons (pv 0) (pa_cons (pv 1) pa_nil))) (blkOk_by (N := ["_law_found", "_law_due", "_law_mine", "_law_theirs"]) (sc := defScope sSame) (by decide +kernel))
                (fun _ _ _ _ _ => pg_tup rfl (pgs_cons (pg_name (i := 2) scSame.nd rfl (Or.inl rfl)) (pgs_cons (pg_name (i := 3) scSame.nd rfl (Or.inl rfl)) pgs_nil))) (fun _ _ _ _ _ => pts_nil) (fun _ _ _ _ _ => C8.pe_c cS hr (by omega) (by rfl) (pa_cons (pv 2) (pa_cons (pv 3) pa_nil)))) pa_nil))))))) pss_nil)
        (pss_cons (ps_if (pt_val (pe_callB call_is1 (by rfl) T.isinstance boot_isinstance (pa_cons (pv 1) (pa_cons (pe_bltn (v := .ty "dict") (by rfl) T.dict boot_dict rfl) pa_nil))))
          (pss_one (ps_ret (pe_and (pe_callB call_is1 (by rfl) T.isinstance boot_isinstance (pa_cons (pv 0) (pa_cons (pe_bltn (v := .ty "dict") (by rfl) T.dict boot_dict rfl) pa_nil)))
            (pe_one (C8.pe_c cS hr (by omega) (by rfl) (pa_cons (LiI.pe_listItems (by rfl) (pv 0) (by rfl) T.list boot_list) (pa_cons (LiI.pe_listItems (by rfl) (pv 1) (by rfl) T.list boot_list) pa_nil))))))) pss_nil)
        (pss_cons (ps_if (PW.pt (pw_or (pt_val (pe_callB call_is1 (by rfl) T.isinstance boot_isinstance (pa_cons (pv 1) (pa_cons (pe_bltn (v := .ty "bool") (by rfl) T.bool boot_bool rfl) pa_nil)))) (pw_or1 (pt_val (pe_callB call_is1 (by rfl) T.isinstance boot_isinstance (pa_cons (pv 0) (pa_cons (pe_bltn (v := .ty "bool") (by rfl) T.bool boot_bool rfl) pa_nil)))))))
          (pss_one (ps_ret (pe_and (pe_callB call_is1 (by rfl) T.isinstance boot_isinstance (pa_cons (pv 1) (pa_cons (pe_bltn (v := .ty "bool") (by rfl) T.bool boot_bool rfl) pa_nil))) (pe_and (pe_callB call_is1 (by rfl) T.isinstance boot_isinstance (pa_cons (pv 0) (pa_cons (pe_bltn (v := .ty "bool") (by rfl) T.bool boot_bool rfl) pa_nil))) (pe_one (pe_cmpR op_eq (pv 0) (pv 1) (nomark _))))))) pss_nil)
        (pss_one (ps_ret (pe_and (pe_not (pe_callB call_isN (by rfl) T.isinstance boot_isinstance (pa_cons (pv 0) (pa_cons (pe_tup (pa_cons (pe_bltn (v := .ty "list") (by rfl) T.list boot_list rfl) (pa_cons (pe_bltn (v := .ty "tuple") (by rfl) T.tuple boot_tuple rfl) (pa_cons (pe_bltn (v := .ty "dict") (by rfl) T.dict boot_dict rfl) pa_nil)))) pa_nil))))
            (pe_one (pe_cmpR (op_orR (op_orR (op_eqD hr.units) (op_eqF hr)) (op_eqG rE (hr.mono (by omega)))) (pv 0) (pv 1) (nomark _)))))))), ?_⟩
      rcases sm_plain IC hR hsm with ⟨rfl, t, hty, k1, k2, k3, k4, heq⟩ | ⟨b, rfl, rfl⟩ | ⟨a, b, xs, ys, rfl, rfl, hx, hy, hp2, hln⟩ | ⟨a, b, xs, ys, rfl, rfl, hx, hy, hp2, hln⟩ | ⟨a, b, rfl, rfl, ha, hb, hn0⟩
      · refine ⟨_, rfl, by show 2 ≤ sizeLine; decide, fun p hp => ?_⟩
        have e1 : Ex H (upd H p (.tup [.ty "list", .ty "tuple"])) := Ex.new hp
        refine ⟨x, p, _, t, [.type "list", .type "tuple"], false, rfl, upd_same, .cons (.ty _) (.cons (.ty _) .nil), hty _ e1, k1, false, rfl, ?_⟩
        refine iteF ?_
        refine ⟨_, rfl, x, _, t, .type "dict", false, rfl, .ty _, hty _ e1, k2, false, rfl, ?_⟩
        refine iteF ?_
        refine ⟨_, rfl, x, _, t, .type "bool", false, rfl, .ty _, hty _ e1, k3, false, rfl, ?_⟩
        refine iteF ?_
        refine ⟨_, rfl, x, _, t, .type "bool", false, rfl, .ty _, hty _ e1, k3, false, rfl, ?_⟩
        refine iteF ?_
        refine ⟨_, rfl, by show 3 ≤ sizeLine; decide, fun p2 hp2 => ?_⟩
        have e2 := e1.trans (Ex.new (o := .tup [.ty "list", .ty "tuple", .ty "dict"]) hp2)
        refine ⟨x, p2, _, t, [.type "list", .type "tuple", .type "dict"], false, rfl, upd_same, .cons (.ty _) (.cons (.ty _) (.cons (.ty _) .nil)), hty _ e2, k4, false, rfl, true, rfl, ?_⟩
        refine iteT ?_
        exact ⟨_, rfl, _, rfl, heq _ _ e2 fun H2 e3 => k H2 (e2.trans e3)⟩
      · refine ⟨_, rfl, by show 2 ≤ sizeLine; decide, fun p hp => ?_⟩
        have e1 : Ex H (upd H p (.tup [.ty "list", .ty "tuple"])) := Ex.new hp
        have ty : ∀ H', TyF K H' (.bl b) (.type "bool") := fun H' => .inl (.base (.bl b))
        refine ⟨.bl b, p, _, _, [.type "list", .type "tuple"], false, rfl, upd_same, .cons (.ty _) (.cons (.ty _) .nil), ty _, kit_no2 (by decide +kernel) (by decide +kernel), false, rfl, ?_⟩
        refine iteF ?_
        refine ⟨_, rfl, .bl b, _, _, .type "dict", false, rfl, .ty _, ty _, kit_ty (by decide +kernel), false, rfl, ?_⟩
        refine iteF ?_
        refine ⟨_, rfl, .bl b, _, _, .type "bool", true, rfl, .ty _, ty _, kit_ty (by decide +kernel), true, rfl, ?_⟩
        refine iteT ?_
        refine iteT ?_
        refine ⟨_, rfl, .bl b, _, _, .type "bool", true, rfl, .ty _, ty _, kit_ty (by decide +kernel), true, rfl, ?_⟩
        refine iteT ?_
        refine ⟨_, rfl, .bl b, _, _, .type "bool", true, rfl, .ty _, ty _, kit_ty (by decide +kernel), true, rfl, ?_⟩
        refine iteT ?_
        refine ⟨_, rfl, _, rfl, rfl, ?_⟩
        rw [decide_eq_true rfl]
        exact k _ e1
      · have hll := hp2.length
        refine ⟨_, rfl, by show 2 ≤ sizeLine; decide, fun p hp => ?_⟩
        have e1 : Ex H (upd H p (.tup [.ty "list", .ty "tuple"])) := Ex.new hp
        have tx : TyF K (upd H p (.tup [.ty "list", .ty "tuple"])) (.ref a) (.type "list") := .inl (ty_l (ex_l e1 hx))
        have ty : TyF K (upd H p (.tup [.ty "list", .ty "tuple"])) (.ref b) (.type "list") := .inl (ty_l (ex_l e1 hy))
        refine ⟨.ref b, p, _, _, [.type "list", .type "tuple"], true, rfl, upd_same, .cons (.ty _) (.cons (.ty _) .nil), ty, seq_yes_l, true, rfl, ?_⟩
        refine iteT ?_
        refine ⟨_, rfl, .ref a, _, _, .type "list", true, rfl, .ty _, tx, kit_ty (by decide +kernel), _, rfl, .ref b, _, _, .type "list", true, rfl, .ty _, ty, kit_ty (by decide +kernel), rfl, false, by rw [decide_eq_true rfl]; rfl, ?_⟩
        refine iteF ?_
        refine ⟨_, rfl, .ref a, _, _, .type "tuple", false, rfl, .ty _, tx, kit_ty (by decide +kernel), _, rfl, .ref b, _, _, .type "tuple", false, rfl, .ty _, ty, kit_ty (by decide +kernel), rfl, false, by rw [decide_eq_true rfl]; rfl, ?_⟩
        refine iteF ?_
        refine ⟨_, rfl, a, xs, rfl, .inl (ex_l e1 hx), _, rfl, b, ys, rfl, .inl (ex_l e1 hy), rfl, true, by rw [hll, decide_eq_true rfl], ?_⟩
        refine iteT ?_
        refine ⟨_, rfl, _, rfl, a, b, xs, ys, rfl, .inl ⟨ex_l e1 hx, ex_l e1 hy, fun L hL => ?_⟩⟩
        refine lc_zipL hll (fun i H' => Ex (upd H p (.tup [.ty "list", .ty "tuple"])) H' ∧ H' L = some (.lst ((List.replicate i true).map V.bl))) ?_ ?_ ?_ ?_
        · exact ⟨Ex.mut (Ex.refl _) hL, upd_same⟩
        · rintro i H' ⟨q1, q2⟩
          exact ⟨ex_l (e1.trans q1) hx, ex_l (e1.trans q1) hy⟩
        · rintro i x y H' T hxi hyi ⟨q1, q2⟩ hT
          obtain ⟨y', hy', hF⟩ := paired_at hp2 hxi
          have ey : y' = y := Option.some.inj (hy'.symm.trans hyi)
          subst ey
          have hLT : L ≠ T := ne_of_none q2 hT
          have il : i < xs.length := (List.getElem?_eq_some_iff.mp hxi).1
          refine ⟨T, [x, y'], rfl, SqT.of upd_same, rfl, x, [y'], rfl, y', [], rfl, rfl, rfl, ?_⟩
          refine ⟨_, rfl, _, rfl, x, y', rfl, sm_ex hR (e1.trans (q1.trans (Ex.new hT))) n _ _ hF, fun H2 e2 => ?_⟩
          have hL2 : H2 L = some (.lst ((List.replicate i true).map V.bl)) := e2 _ _ (by rw [upd_ne hLT]; exact q2)
          refine ⟨_, hL2, by rw [List.length_map, List.length_replicate]; exact sz_m (by omega), Ex.mut (q1.trans ((Ex.new hT).trans e2)) hL, ?_⟩
          rw [List.replicate_succ', List.map_append]
          exact upd_same
        · rintro H' ⟨q1, q2⟩
          refine ⟨L, List.replicate xs.length true, rfl, SqL.of q2, ?_⟩
          rw [all_true]
          exact k _ (e1.trans q1)
      · have hll := hp2.length
        refine ⟨_, rfl, by show 2 ≤ sizeLine; decide, fun p hp => ?_⟩
        have e1 : Ex H (upd H p (.tup [.ty "list", .ty "tuple"])) := Ex.new hp
        have tx : TyF K (upd H p (.tup [.ty "list", .ty "tuple"])) (.ref a) (.type "tuple") := .inl (ty_t (ex_t e1 hx))
        have ty : TyF K (upd H p (.tup [.ty "list", .ty "tuple"])) (.ref b) (.type "tuple") := .inl (ty_t (ex_t e1 hy))
        refine ⟨.ref b, p, _, _, [.type "list", .type "tuple"], true, rfl, upd_same, .cons (.ty _) (.cons (.ty _) .nil), ty, seq_yes_t, true, rfl, ?_⟩
        refine iteT ?_
        refine ⟨_, rfl, .ref a, _, _, .type "list", false, rfl, .ty _, tx, kit_ty (by decide +kernel), _, rfl, .ref b, _, _, .type "list", false, rfl, .ty _, ty, kit_ty (by decide +kernel), rfl, false, by rw [decide_eq_true rfl]; rfl, ?_⟩
        refine iteF ?_
        refine ⟨_, rfl, .ref a, _, _, .type "tuple", true, rfl, .ty _, tx, kit_ty (by decide +kernel), _, rfl, .ref b, _, _, .type "tuple", true, rfl, .ty _, ty, kit_ty (by decide +kernel), rfl, false, by rw [decide_eq_true rfl]; rfl, ?_⟩
        refine iteF ?_
        refine ⟨_, rfl, a, xs, rfl, .inr (ex_t e1 hx), _, rfl, b, ys, rfl, .inr (ex_t e1 hy), rfl, true, by rw [hll, decide_eq_true rfl], ?_⟩
        refine iteT ?_
        refine ⟨_, rfl, _, rfl, a, b, xs, ys, rfl, .inr ⟨ex_t e1 hx, ex_t e1 hy, fun L hL => ?_⟩⟩
        refine lc_zipT hll (fun i H' => Ex (upd H p (.tup [.ty "list", .ty "tuple"])) H' ∧ H' L = some (.lst ((List.replicate i true).map V.bl))) ?_ ?_ ?_ ?_
        · exact ⟨Ex.mut (Ex.refl _) hL, upd_same⟩
        · rintro i H' ⟨q1, q2⟩
          exact ⟨ex_t (e1.trans q1) hx, ex_t (e1.trans q1) hy⟩
        · rintro i x y H' T hxi hyi ⟨q1, q2⟩ hT
          obtain ⟨y', hy', hF⟩ := paired_at hp2 hxi
          have ey : y' = y := Option.some.inj (hy'.symm.trans hyi)
          subst ey
          have hLT : L ≠ T := ne_of_none q2 hT
          have il : i < xs.length := (List.getElem?_eq_some_iff.mp hxi).1
          refine ⟨T, [x, y'], rfl, SqT.of upd_same, rfl, x, [y'], rfl, y', [], rfl, rfl, rfl, ?_⟩
          refine ⟨_, rfl, _, rfl, x, y', rfl, sm_ex hR (e1.trans (q1.trans (Ex.new hT))) n _ _ hF, fun H2 e2 => ?_⟩
          have hL2 : H2 L = some (.lst ((List.replicate i true).map V.bl)) := e2 _ _ (by rw [upd_ne hLT]; exact q2)
          refine ⟨_, hL2, by rw [List.length_map, List.length_replicate]; exact sz_m (by omega), Ex.mut (q1.trans ((Ex.new hT).trans e2)) hL, ?_⟩
          rw [List.replicate_succ', List.map_append]
          exact upd_same
        · rintro H' ⟨q1, q2⟩
          refine ⟨L, List.replicate xs.length true, rfl, SqL.of q2, ?_⟩
          rw [all_true]
          exact k _ (e1.trans q1)
      · have ty : ∀ (H' : Hp) (c : Addr), H' c = some (.dK []) → TyF K H' (.ref c) (.type "dict") := fun H' c h => .inl (.base (.dK h))
        refine ⟨_, rfl, by show 2 ≤ sizeLine; decide, fun p hp => ?_⟩
        have e1 : Ex H (upd H p (.tup [.ty "list", .ty "tuple"])) := Ex.new hp
        refine ⟨.ref b, p, _, _, [.type "list", .type "tuple"], false, rfl, upd_same, .cons (.ty _) (.cons (.ty _) .nil), ty _ _ (e1 _ _ hb), kit_no2 (by decide +kernel) (by decide +kernel), false, rfl, ?_⟩
        refine iteF ?_
        refine ⟨_, rfl, .ref b, _, _, .type "dict", true, rfl, .ty _, ty _ _ (e1 _ _ hb), kit_ty (by decide +kernel), true, rfl, ?_⟩
        refine iteT ?_
        refine ⟨_, rfl, .ref a, _, _, .type "dict", true, rfl, .ty _, ty _ _ (e1 _ _ ha), kit_ty (by decide +kernel), true, rfl, ?_⟩
        refine iteT ?_
        refine ⟨_, rfl, a, [], rfl, e1 _ _ ha, fun H2 p2 ts2 e2 _ _ _ g2 pr2 => ?_⟩
        have ts2e : ts2 = [] := List.eq_nil_of_length_eq_zero pr2.length
        subst ts2e
        refine ⟨_, rfl, b, [], rfl, e2 _ _ (e1 _ _ hb), fun H3 p3 ts3 e3 _ _ _ g3 pr3 => ?_⟩
        have ts3e : ts3 = [] := List.eq_nil_of_length_eq_zero pr3.length
        subst ts3e
        refine ⟨.ref p2, .ref p3, rfl, ?_, fun H4 e4 => k _ (e1.trans (Ex.trans e2 (Ex.trans e3 e4)))⟩
        obtain ⟨m, rfl⟩ : ∃ m, n = m + 1 := ⟨n - 1, by omega⟩
        exact .inr (.inl ⟨p2, p3, [], [], rfl, rfl, SqL.of (e3 _ _ g2), SqL.of g3, .nil, Nat.zero_le _⟩)
end
end AA

set_option Elab.async false
set_option linter.all false
set_option maxRecDepth 100000
set_option maxHeartbeats 4000000
/-! Steps in order: sorted of a list of them. -/
namespace AA
open PySem PySem.Spec PyProof.Rows L2 Evl
def pqLt (s t : St5) : Bool := if s.p = t.p then decide (s.q < t.q) else decide (s.p < t.p)
def stLt (s t : St5) : Bool :=
  if s.one = t.one then
    if s.other = t.other then
      if s.p = t.p ∧ s.q = t.q then
        if s.ticks = t.ticks then decide (s.change < t.change) else decide (s.ticks < t.ticks)
      else pqLt s t
    else decide (s.other < t.other)
  else decide (s.one < t.one)
theorem stLt_iff {s t : St5} : stLt s t = true ↔ s.one < t.one ∨ (s.one = t.one ∧ (s.other < t.other ∨ (s.other = t.other ∧ (s.p < t.p ∨ (s.p = t.p ∧ (s.q < t.q ∨ (s.q = t.q ∧ (s.ticks < t.ticks ∨ (s.ticks = t.ticks ∧ s.change < t.change))))))))) := by
  unfold stLt pqLt
  by_cases h1 : s.one = t.one
  · rw [if_pos h1]
    by_cases h2 : s.other = t.other
    · rw [if_pos h2]
      by_cases h3 : s.p = t.p ∧ s.q = t.q
      · rw [if_pos h3]
        by_cases h4 : s.ticks = t.ticks
        · rw [if_pos h4, decide_eq_true_eq]
          omega
        · rw [if_neg h4, decide_eq_true_eq]
          omega
      · rw [if_neg h3]
        by_cases h4 : s.p = t.p
        · rw [if_pos h4, decide_eq_true_eq]
          omega
        · rw [if_neg h4, decide_eq_true_eq]
          omega
    · rw [if_neg h2, decide_eq_true_eq]
      omega
  · rw [if_neg h1, decide_eq_true_eq]
    omega
theorem stLt_no {s t : St5} : stLt s t = false ↔ ¬ (s.one < t.one ∨ (s.one = t.one ∧ (s.other < t.other ∨ (s.other = t.other ∧ (s.p < t.p ∨ (s.p = t.p ∧ (s.q < t.q ∨ (s.q = t.q ∧ (s.ticks < t.ticks ∨ (s.ticks = t.ticks ∧ s.change < t.change)))))))))) := by
  rw [← stLt_iff]
  cases stLt s t <;> simp
theorem swo_st (k : Value → St5) : SrtO.Swo fun v u => stLt (k v) (k u) := by
  refine ⟨fun x y h => ?_, fun x y z h1 h2 => ?_⟩
  · have a := stLt_iff.mp h
    refine stLt_no.mpr ?_
    omega
  · have a := stLt_no.mp h1
    have b := stLt_no.mp h2
    refine stLt_no.mpr ?_
    omega
/-- a step stands at v -/
def IsSt (h : Heap) (v : Value) (s : St5) : Prop := ∃ (a u : Addr) (o r : Obj) (n m : Nat) (t1 t2 t3 t4 t5 t6 : Tok), v = .ref a ∧ h.get? a = some o ∧ o.cls = .type "tuple" ∧
  o.data = .seq #[.int s.one t1, .int s.other t2, .ref u, .int s.ticks t3, .int s.change t4] n ∧ h.get? u = some r ∧ r.cls = .type "tuple" ∧ r.data = .seq #[.int s.p t5, .int s.q t6] m
theorem IsSt.keeps {h h' : Heap} {v : Value} {s : St5} (x : IsSt h v s) (k : ∀ b o, h.get? b = some o → o.cls = .type "tuple" → h'.get? b = some o) : IsSt h' v s := by
  obtain ⟨a, u, o, r, n, m, t1, t2, t3, t4, t5, t6, e, h1, h2, h3, h4, h5, h6⟩ := x
  exact ⟨a, u, o, r, n, m, t1, t2, t3, t4, t5, t6, e, k _ _ h1 h2, h2, h3, k _ _ h4 h5, h5, h6⟩
section
variable {prog : Program} {w : World} {A : Around} {E : Value → Shared → Prop} {s : Shared}
theorem st_cmp {vs : List Value} {k : Value → St5} (hu : A.units + 1 < cLine) (hp : ∀ v ∈ vs, IsSt s.heap v (k v)) : SrtO.Cmp prog w A s (tuples' true) (fun p => p.1 ∈ vs) (SrtO.lt2 fun v u => stLt (k v) (k u)) := by
  intro p q hm hm'
  have h1 := hp _ hm
  have h2 := hp _ hm'
  show wpAny (model prog w) A (keyLt' (tuples' true) p.1 q.1) (fun r s' => s' = s ∧ r = stLt (k p.1) (k q.1)) (fun _ _ => False) s
  generalize k p.1 = x at h1 ⊢
  generalize k q.1 = y at h2 ⊢
  obtain ⟨a, u, o, r, n, m, t1, t2, t3, t4, t5, t6, e, g1, g2, g3, g4, g5, g6⟩ := h1
  obtain ⟨a', u', o', r', n', m', u1, u2, u3, u4, u5, u6, e', j1, j2, j3, j4, j5, j6⟩ := h2
  rw [e, e']
  refine PySem.W.kat_lt g1 g3 j1 j3 ?_
  show PySem.W.KatLex prog w A true (decide (5 < 5)) _ [(.int x.one t1, .int y.one u1), (.int x.other t2, .int y.other u2), (.ref u, .ref u'), (.int x.ticks t3, .int y.ticks u3), (.int x.change t4, .int y.change u4)] 0 s
  refine PySem.W.kat_cons (SeqAt.EqAt.int_int _ _ _ _ prog w _ _ ?_)
  refine PySem.W.kat_go (fun e1 => ?ye1) (fun e1 => ?ne1)
  case ne1 =>
    have ex : ¬ x.one = y.one := by simpa using e1
    refine PySem.W.kat_no (oneLt_int ⟨rfl, ?_⟩)
    unfold stLt
    rw [if_neg ex]
  have ex : x.one = y.one := by simpa using e1
  refine PySem.W.kat_yes (PySem.W.kat_cons (SeqAt.EqAt.int_int _ _ _ _ prog w _ _ ?_))
  refine PySem.W.kat_go (fun e2 => ?ye2) (fun e2 => ?ne2)
  case ne2 =>
    have ey : ¬ x.other = y.other := by simpa using e2
    refine PySem.W.kat_no (PySem.W.kat_one _ _ (PyProof.Rows.lt_int (Q := PySem.W.BoolBack _) ⟨rfl, ?_⟩))
    unfold stLt
    rw [if_pos ex, if_neg ey]
  have ey : x.other = y.other := by simpa using e2
  have k1 : IsTupleKey (PySem.intKind prog w) s.heap [x.p, x.q] u := ⟨r, _, m, g4, g5, g6, .cons (by simp [PySem.intKind, Value.isInt]) (.cons (by simp [PySem.intKind, Value.isInt]) .nil)⟩
  have k2 : IsTupleKey (PySem.intKind prog w) s.heap [y.p, y.q] u' := ⟨r', _, m', j4, j5, j6, .cons (by simp [PySem.intKind, Value.isInt]) (.cons (by simp [PySem.intKind, Value.isInt]) .nil)⟩
  refine PySem.W.kat_yes (PySem.W.kat_cons (wpAny_eqBool_tuple (by omega) k1 k2 ?_))
  refine PySem.W.kat_go (fun e3 => ?ye3) (fun e3 => ?ne3)
  case ne3 =>
    have ez : ¬ (x.p = y.p ∧ x.q = y.q) := by simpa using e3
    refine PySem.W.kat_no (PySem.W.kat_one _ _ (HT.lt_tupInts (ns := [x.p, x.q]) (ms := [y.p, y.q]) ⟨r, g4, g5, m, g6⟩ ⟨r', j4, j5, m', j6⟩ (.cons _ _ (.cons _ _ .nil)) (.cons _ _ (.cons _ _ .nil)) (by omega) ⟨rfl, ?_⟩))
    unfold stLt
    rw [if_pos ex, if_pos ey, if_neg ez]
    show HT.lexLt [x.p, x.q] [y.p, y.q] = pqLt x y
    rw [HT.lexLt_cons, HT.lexLt_cons, HT.lexLt_nil_nil]
    unfold pqLt
    by_cases hpp : x.p = y.p
    · rw [if_pos hpp, if_pos hpp, if_neg (fun z => ez ⟨hpp, z⟩)]
    · rw [if_neg hpp, if_neg hpp]
  have ez : x.p = y.p ∧ x.q = y.q := by simpa using e3
  refine PySem.W.kat_yes (PySem.W.kat_cons (SeqAt.EqAt.int_int _ _ _ _ prog w _ _ ?_))
  refine PySem.W.kat_go (fun e4 => ?ye4) (fun e4 => ?ne4)
  case ne4 =>
    have et : ¬ x.ticks = y.ticks := by simpa using e4
    refine PySem.W.kat_no (PySem.W.kat_one _ _ (PyProof.Rows.lt_int (Q := PySem.W.BoolBack _) ⟨rfl, ?_⟩))
    unfold stLt
    rw [if_pos ex, if_pos ey, if_pos ez, if_neg et]
  have et : x.ticks = y.ticks := by simpa using e4
  refine PySem.W.kat_yes (PySem.W.kat_cons (SeqAt.EqAt.int_int _ _ _ _ prog w _ _ ?_))
  refine PySem.W.kat_go (fun e5 => ?ye5) (fun e5 => ?ne5)
  case ne5 =>
    refine PySem.W.kat_no (PySem.W.kat_one _ _ (PyProof.Rows.lt_int (Q := PySem.W.BoolBack _) ⟨rfl, ?_⟩))
    unfold stLt
    rw [if_pos ex, if_pos ey, if_pos ez, if_pos et]
  have ec : x.change = y.change := by simpa using e5
  refine PySem.W.kat_yes (PySem.W.kat_nil ⟨rfl, ?_⟩)
  unfold stLt
  rw [if_pos ex, if_pos ey, if_pos ez, if_pos et, ec]
  exact (decide_eq_false (Int.lt_irrefl _)).symm
theorem st_firsts {h : Heap} : ∀ {vs : List Value}, (∀ v ∈ vs, ∃ s, IsSt h v s) → ∃ fs : List Value, PySem.W.KatTups h vs fs ∧ fs.length = vs.length ∧ ∀ f ∈ fs, ∃ x t, f = Value.int x t
  | [], _ => ⟨[], PySem.W.KatTups.nil, rfl, fun _ hm => absurd hm (by simp)⟩
  | v :: vs, hp => by
    obtain ⟨fs, h1, h2, h3⟩ := st_firsts (vs := vs) fun v' hm => hp v' (List.mem_cons_of_mem _ hm)
    obtain ⟨s, a, u, o, r, n, m, t1, t2, t3, t4, t5, t6, rfl, g1, g2, g3, _⟩ := hp v List.mem_cons_self
    refine ⟨.int s.one t1 :: fs, PySem.W.KatTups.cons g1 g2 g3 rfl h1, by rw [List.length_cons, List.length_cons, h2], fun f hm => ?_⟩
    rcases List.mem_cons.mp hm with rfl | hm
    · exact ⟨_, _, rfl⟩
    · exact h3 f hm
theorem st_sortable {a : Addr} {vs : List Value} {k : Value → St5} (hu : A.units + 1 < cLine) (h0 : 0 < vs.length) (hp : ∀ v ∈ vs, IsSt s.heap v (k v)) (ha : ∀ o, s.heap.get? a = some o → o.cls ≠ .type "tuple") :
    SrtO.SortableO prog w A s a vs fun v u => stLt (k v) (k u) := by
  intro h' keep
  have hp' : ∀ v ∈ vs, IsSt h' v (k v) := fun v hm => (hp v hm).keeps fun b o e c => keep b o (fun z => ha o (by rw [← z]; exact e) c) e
  obtain ⟨fs, h1, h2, h3⟩ := st_firsts fun v hm => ⟨_, hp' v hm⟩
  refine ⟨tuples' true, fun Q E hq => ?_, st_cmp hu hp'⟩
  refine PySem.W.kat_kind (T := .type "int") h1 (by omega) (fun f hm => ?_) (by rfl) ?_
  · obtain ⟨x, t, rfl⟩ := h3 f hm
    exact PySem.W.Looks.now
  · have e : (Value.type "int" != Value.type "tuple") = true := by decide +kernel
    rw [e]
    exact hq
end
section
open Classical
variable {X : Cx} {pins : List (Addr × Obj)} {σ : L2.St} {H : Hp} {s : Shared}
theorem is_st {v : V} {u : Value} {t : St5} (I : Inv X pins σ H s) (d : Dp X.K H v (stD t)) (r : RelV v u) : IsSt s.heap u t := by
  obtain ⟨a, b, rfl, h1, h2⟩ := stD_inv d
  cases (show u = Value.ref a from r)
  obtain ⟨i1, r1, ⟨o, g1, g2, n, g3⟩, _⟩ := I.tuple h1
  obtain ⟨i2, r2, ⟨o2, j1, j2, m, j3⟩, _⟩ := I.tuple h2
  cases r1 with
  | cons q1 r1 =>
    cases r1 with
    | cons q2 r1 =>
      cases r1 with
      | cons q3 r1 =>
        cases r1 with
        | cons q4 r1 =>
          cases r1 with
          | cons q5 r1 =>
            cases r1
            cases r2 with
            | cons p1 r2 =>
              cases r2 with
              | cons p2 r2 =>
                cases r2
                obtain ⟨t1, rfl⟩ := q1
                obtain ⟨t2, rfl⟩ := q2
                obtain rfl := q3
                obtain ⟨t3, rfl⟩ := q4
                obtain ⟨t4, rfl⟩ := q5
                obtain ⟨t5, rfl⟩ := p1
                obtain ⟨t6, rfl⟩ := p2
                exact ⟨a, b, o, o2, n, m, t1, t2, t3, t4, t5, t6, rfl, g1, g2, g3, j1, j2, j3⟩
theorem IsSt.uniq {h : Heap} {v : Value} {s t : St5} (x : IsSt h v s) (y : IsSt h v t) : s = t := by
  obtain ⟨a, u, o, r, n, m, t1, t2, t3, t4, t5, t6, rfl, g1, g2, g3, g4, g5, g6⟩ := x
  obtain ⟨a', u', o', r', n', m', u1, u2, u3, u4, u5, u6, e', j1, j2, j3, j4, j5, j6⟩ := y
  cases e'
  rw [g1] at j1
  cases j1
  rw [g3] at j3
  injection j3 with j3 _
  injection j3 with j3
  simp only [List.cons.injEq, Value.int.injEq, Value.ref.injEq, and_true] at j3
  obtain ⟨⟨e1, _⟩, ⟨e2, _⟩, e3, ⟨e4, _⟩, e5, _⟩ := j3
  subst e3
  rw [g4] at j4
  cases j4
  rw [g6] at j6
  injection j6 with j6 _
  injection j6 with j6
  simp only [List.cons.injEq, Value.int.injEq, and_true] at j6
  obtain ⟨⟨e6, _⟩, e7, _⟩ := j6
  cases s
  cases t
  simp_all
/-- steps in order -/
def SrS (ts : List St5) : Prop := ts.Pairwise fun x y => stLt y x = false
theorem dpa_of {K : PySem.W.Frag} {H : Hp} {k : Value → St5} : ∀ {l : List Value}, (∀ u ∈ l, Dp K H (backV u) (stD (k u))) → DpAll K H (l.map backV) ((l.map k).map stD)
  | [], _ => .nil
  | u :: l, h => .cons (h u List.mem_cons_self) (dpa_of fun v m => h v (List.mem_cons_of_mem _ m))
theorem ks_eq {k : Value → St5} (I : Inv X pins σ H s) : ∀ {xs : List V} {its : List Value} {ss : List St5}, Vals xs its → DpAll X.K H xs (ss.map stD) → (∀ v ∈ its, IsSt s.heap v (k v)) → its.map k = ss
  | [], _, ss, r, h, _ => by
    cases r
    cases ss with
    | nil => rfl
    | cons => cases h
  | x :: xs, _, [], r, h, _ => by cases h
  | x :: xs, _, t :: ss, r, h, hk => by
    cases r with
    | cons r1 r2 =>
      cases h with
      | cons h1 h2 =>
        rw [List.map_cons, ks_eq I r2 h2 fun v m => hk v (List.mem_cons_of_mem _ m), (hk _ List.mem_cons_self).uniq (is_st I h1 r1)]
/-- sorted of a list of steps: the same ones in order -/
def rSortSt (K : PySem.W.Frag) : List V → Hp → VK → Prop := fun vs H Q => ∃ (a : Addr) (xs : List V) (ss : List St5), vs = [V.ref a] ∧ SqL K H a xs ∧ DpAll K H xs (ss.map stD) ∧
  ∀ (ys : List V) (ts : List St5) (p : Addr), ys.Perm xs → ts.Perm ss → DpAll K H ys (ts.map stD) → SrS ts → H p = none → Q (.ref p) (upd H p (.lst ys))
theorem cr_sortSt {j : Nat} (hr : Room j X.A) : CallR X (.builtin "sorted") (rSortSt X.K) := by
  intro pins s σ H vs us Q I r h
  obtain ⟨a, xs, ss, rfl, hs, hD0, q⟩ := h
  have hx : ∀ x ∈ xs, ∃ t, Dp X.K H x (stD t) := fun x hx => by
    obtain ⟨i, hi⟩ := List.mem_iff_getElem?.mp hx
    obtain ⟨d, h1, h2⟩ := dpa_get hD0 hi
    rw [List.getElem?_map] at h1
    cases q : ss[i]? with
    | none =>
      rw [q] at h1
      cases h1
    | some t =>
      rw [q] at h1
      cases h1
      exact ⟨t, h2⟩
  obtain ⟨its, rv, hl, hz⟩ := I.list hs
  obtain ⟨u, rfl, ru⟩ := vals1 r
  cases (show u = Value.ref a from ru)
  have hun := hr.un
  have all : ∀ v ∈ its, ∃ t, IsSt s.heap v t := fun v hv => by
    obtain ⟨i, hi⟩ := List.mem_iff_getElem?.mp hv
    have hlen := rv.length
    have hil : i < its.length := (List.getElem?_eq_some_iff.mp hi).1
    have hx1 : xs[i]? = some (xs[i]'(by omega)) := List.getElem?_eq_getElem (by omega)
    obtain ⟨w', hw, rw'⟩ := rv.get hx1
    rw [hi] at hw
    cases hw
    obtain ⟨t, ht⟩ := hx _ (mem_of_get hx1)
    exact ⟨t, is_st I ht rw'⟩
  let k : Value → St5 := fun v => if h : ∃ t, IsSt s.heap v t then Classical.choose h else ⟨0, 0, 0, 0, 0, 0⟩
  have hk : ∀ v ∈ its, IsSt s.heap v (k v) := fun v hv => by
    have e : k v = Classical.choose (all v hv) := dif_pos (all v hv)
    rw [e]
    exact Classical.choose_spec (all v hv)
  have hks := ks_eq I rv hD0 hk
  obtain ⟨e1, e2⟩ := refs_back rv fun x m => by
    obtain ⟨t, ht⟩ := hx x m
    obtain ⟨b, c, e, _⟩ := stD_inv ht
    exact ⟨b, e⟩
  refine SrtO.sorted_ord (swo_st k) hl.isList (by rw [← rv.length]; exact hz) (fun h2 h₁ b hb kk => ?_) fun out h1 h2 => ?_
  · refine st_sortable (s := { s with heap := h₁ }) (show X.A.in1.in1.units + 1 < cLine by show X.A.units + 1 + 1 + 1 < cLine; omega) (by omega) (fun v hv => (hk v hv).keeps fun c o e _ => (kk c o e).2) fun o e => ?_
    cases (show some o = some (seqObj "list" its.toArray 0) from e.symm.trans hb)
    intro c
    exact absurd (Value.type.inj c) (by decide)
  · have h3 : ∀ u ∈ out, ∃ a, u = Value.ref a := fun u hu => e2 u (h2.perm.mem_iff.mp hu)
    obtain ⟨n, hn⟩ := PyProof.Rows.sortedAll_at s.heap its out.toArray
    have hp : (out.map backV).Perm xs := by
      rw [e1]
      exact h2.perm.map backV
    have hD : DpAll X.K H (out.map backV) ((out.map k).map stD) := dpa_of fun u hu => by
      obtain ⟨b, rfl⟩ := h3 u hu
      obtain ⟨t, ht⟩ := hx (backV (.ref b)) (hp.mem_iff.mp (List.mem_map.mpr ⟨_, hu, rfl⟩))
      have h5 := is_st I ht (show RelV (backV (.ref b)) (.ref b) from rfl)
      rw [(hk _ (h2.perm.mem_iff.mp hu)).uniq h5]
      exact ht
    have hO : SrS (out.map k) := List.pairwise_map.mpr h1
    refine ⟨.ref (s.heap.objs.size + 1), upd H (s.heap.objs.size + 1) (.lst (out.map backV)), I.laid (t' := s.toks) (fun b o e => PyProof.Rows.sortedAll_old e) (Nat.le_succ _) ⟨?_, out, n, vals_back h3, hn⟩, rfl, q _ _ _ hp (by rw [← hks]; exact h2.perm.map k) hD hO (I.hok.fresh (Nat.le_succ _))⟩
    rw [hp.length_eq]
    exact hz
end
end AA

set_option Elab.async false
set_option linter.all false
set_option maxRecDepth 100000
set_option maxHeartbeats 4000000
/-! A dict whose keys are steps (tuples with a tuple in them), whose values are True. -/
namespace AA
open PySem PySem.Spec PyProof.Rows L2 Evl
def stK (s : St5) : NestedKey := .tup [.num s.one, .num s.other, .tup [.num s.p, .num s.q], .num s.ticks, .num s.change]
theorem stK_inj {s t : St5} (h : stK s = stK t) : s = t := by
  unfold stK at h
  injection h with h
  injection h with a1 h
  injection h with a2 h
  injection h with a3 h
  injection h with a4 h
  injection h with a5 _
  injection a1 with a1
  injection a2 with a2
  injection a4 with a4
  injection a5 with a5
  injection a3 with a3
  injection a3 with b1 a3
  injection a3 with b2 _
  injection b1 with b1
  injection b2 with b2
  cases s
  cases t
  simp_all
theorem IsSt.nested {h : Heap} {b : Addr} {s : St5} (x : IsSt h (.ref b) s) : NestedIs h (stK s) (.ref b) := by
  obtain ⟨a, u, o, r, n, m, t1, t2, t3, t4, t5, t6, e, g1, g2, g3, g4, g5, g6⟩ := x
  cases e
  exact .tup g1 g2 g3 (.cons (.int _ _) (.cons (.int _ _) (.cons (.tup g4 g5 g6 (.cons (.int _ _) (.cons (.int _ _) .nil))) (.cons (.int _ _) (.cons (.int _ _) .nil)))))
theorem IsSt.key {prog : Program} {w : World} {h : Heap} {b : Addr} {s : St5} (x : IsSt h (.ref b) s) : (nestedKind prog w).is h (stK s) b := ⟨x.nested, by simp [stK, NestedKey.depth, NestedKey.depthAll]⟩
/-- the entries of the dict -/
def sdEn (x : St5 × Addr) : NestedKey × Addr × Value := (stK x.1, x.2, .bool true)
/-- a dict at a, its keys these steps at these places -/
def SD (P : Program) (w : World) (a : Addr) (ks : List (St5 × Addr)) : HO := .ext fun h => ks.length ≤ sizeLine ∧ (a == sysModules) = false ∧ (ks.map (·.1)).Nodup ∧
  ∃ o es ep, h.get? a = some o ∧ o.ExactDict ∧ o.data = .dict es ep ∧ es.toList = (ks.map sdEn).map (entryOfKey (nestedKind P w))
/-- and its keys stand -/
def KsOk (K : PySem.W.Frag) (H : Hp) (ks : List (St5 × Addr)) : Prop := ∀ x ∈ ks, Dp K H (.ref x.2) (stD x.1)
theorem KsOk.ex {K : PySem.W.Frag} {H H' : Hp} {ks : List (St5 × Addr)} (h : KsOk K H ks) (e : Ex H H') : KsOk K H' ks := fun x m => dp_ex e _ _ (h x m)
theorem KsOk.nil {K : PySem.W.Frag} {H : Hp} : KsOk K H [] := fun _ m => absurd m (by simp)
theorem KsOk.snoc {K : PySem.W.Frag} {H : Hp} {ks : List (St5 × Addr)} {s : St5} {b : Addr} (h : KsOk K H ks) (d : Dp K H (.ref b) (stD s)) : KsOk K H (ks ++ [(s, b)]) := fun x m => by
  rcases List.mem_append.mp m with m | m
  · exact h x m
  · rw [List.mem_singleton] at m
    subst m
    exact d
theorem sd_nodup : ∀ {ks : List (St5 × Addr)}, (ks.map (·.1)).Nodup → ((ks.map sdEn).map (·.1)).Nodup := by
  intro ks h
  have e : (ks.map sdEn).map (·.1) = (ks.map (·.1)).map stK := by
    rw [List.map_map, List.map_map]
    rfl
  rw [e]
  exact h.map stK fun x y n z => n (stK_inj z)
theorem sd_at (t : St5) : ∀ ks : List (St5 × Addr), (atKey (ks.map sdEn) (stK t)).isSome = decide (t ∈ ks.map (·.1))
  | [] => rfl
  | x :: r => by
    have ih := sd_at t r
    by_cases e : x.1 = t
    · have h1 : (stK x.1 = stK t) := by rw [e]
      have h2 : atKey ((x :: r).map sdEn) (stK t) = some (x.2, .bool true) := by simp [atKey, sdEn, h1]
      rw [h2, List.map_cons, decide_eq_true (List.mem_cons.mpr (.inl e.symm))]
      rfl
    · have h1 : ¬ stK x.1 = stK t := fun z => e (stK_inj z)
      have h2 : atKey ((x :: r).map sdEn) (stK t) = atKey (r.map sdEn) (stK t) := by simp [atKey, sdEn, h1]
      rw [h2, ih]
      exact decide_eq_decide.mpr ⟨fun m => List.mem_cons_of_mem _ m, fun m => (List.mem_cons.mp m).elim (fun z => absurd z.symm e) id⟩
theorem sd_none {t : St5} {ks : List (St5 × Addr)} (h : t ∉ ks.map (·.1)) : atKey (ks.map sdEn) (stK t) = none := by
  have := sd_at t ks
  rw [decide_eq_false h] at this
  cases q : atKey (ks.map sdEn) (stK t) with
  | none => rfl
  | some x =>
    rw [q] at this
    cases this
section
variable {X : Cx} {pins : List (Addr × Obj)} {σ : L2.St} {H : Hp} {s : Shared} {a : Addr} {ks : List (St5 × Addr)} {A : Around} {E : Value → Shared → Prop}
theorem sd_is {x : St5 × Addr} (I : Inv X pins σ H s) (d : Dp X.K H (.ref x.2) (stD x.1)) : (nestedKind X.prog X.w).is s.heap (stK x.1) x.2 :=
  IsSt.key (is_st I d rfl)
theorem sd_of (I : Inv X pins σ H s) (e : H a = some (SD X.prog X.w a ks)) (k : KsOk X.K H ks) : ks.length ≤ sizeLine ∧ (a == sysModules) = false ∧ (ks.map (·.1)).Nodup ∧ s.heap.DictOfH (nestedKind X.prog X.w) a (ks.map sdEn) := by
  obtain ⟨⟨z, hd, hn, o, es, ep, h1, h2, h3, h4⟩, _, _⟩ := (show ObjOk X.prog X.w H s.heap a (SD X.prog X.w a ks) from I.hok a _ e)
  refine ⟨z, hd, hn, o, es, ep, h1, h2, h3, h4, fun y hy => ?_, sd_nodup hn⟩
  obtain ⟨x, hx, rfl⟩ := List.mem_map.mp hy
  exact sd_is I (k x hx)
theorem sd_ok {P : Program} {w : World} {H' : Hp} {h' : Heap} (z : ks.length ≤ sizeLine) (hd : (a == sysModules) = false) (hn : (ks.map (·.1)).Nodup) (d : h'.DictOfH (nestedKind P w) a (ks.map sdEn)) : ObjOk P w H' h' a (SD P w a ks) := by
  obtain ⟨o, es, ep, h1, h2, h3, h4, _⟩ := d
  exact ⟨⟨z, hd, hn, o, es, ep, h1, h2, h3, h4⟩, ⟨o, h1⟩, fun h1' h2' p k => by
    obtain ⟨z, hd, hn, o, es, ep, g1, g⟩ := p
    exact ⟨z, hd, hn, o, es, ep, k _ g1, g⟩⟩
/-- found[step] = True, the step new -/
theorem sd_set {t : St5} {b : Addr} {Q : Unit → Shared → Prop} (hu : A.units + 9 < cLine) (I : Inv X pins σ H s) (e : H a = some (SD X.prog X.w a ks)) (k : KsOk X.K H ks) (d : Dp X.K H (.ref b) (stD t)) (hn : t ∉ ks.map (·.1)) (hl : ks.length < sizeLine)
    (h : ∀ s', Inv X pins σ (upd H a (SD X.prog X.w a (ks ++ [(t, b)]))) s' → Q () s') : wpAny (model X.prog X.w) A (setItem (.ref a) (.ref b) (.bool true)) Q E s := by
  obtain ⟨z, hd, nd, dd⟩ := sd_of I e k
  refine wpAny_setItem_heap (hsz := by rw [List.length_map]; exact z) (show A.in1.units + 8 < cLine by rw [Around.in1_units]; omega) (sd_is (x := (t, b)) I d) dd fun h' dd' hs => h _ ?_
  rw [storedH_new (sd_none hn)] at dd'
  have e2 : ks.map sdEn ++ [(stK t, b, Value.bool true)] = (ks ++ [(t, b)]).map sdEn := by rw [List.map_append]; rfl
  rw [show ((stK (t, b).1), b, Value.bool true) = (stK t, b, Value.bool true) from rfl, e2] at dd'
  obtain ⟨q, es, ep, hq, h2⟩ := id dd'
  refine d_write I (by rw [e]; exact True.intro) hs ⟨q, hq⟩ (sd_ok (by rw [List.length_append]; exact hl) hd ?_ dd')
  rw [List.map_append, List.nodup_append]
  refine ⟨nd, by simp, fun x hx y hy => ?_⟩
  simp only [List.map_cons, List.map_nil, List.mem_singleton] at hy
  subst hy
  exact fun q => hn (q ▸ hx)
theorem sd_in {t : St5} {b : Addr} {Q : Value → Shared → Prop} (hu : A.units + 9 < cLine) (I : Inv X pins σ H s) (e : H a = some (SD X.prog X.w a ks)) (k : KsOk X.K H ks) (d : Dp X.K H (.ref b) (stD t))
    (h : ∀ s', Inv X pins σ H s' → Q (.bool (decide (t ∈ ks.map (·.1)))) s') : wpAny (model X.prog X.w) A (compareOp .In (.ref b) (.ref a)) Q E s := by
  obtain ⟨z, hd, nd, dd⟩ := sd_of I e k
  refine wpAny_in_heap (show A.in1.units + 8 < cLine by rw [Around.in1_units]; omega) (sd_is (x := (t, b)) I d) hd dd ?_
  rw [sd_at]
  exact h _ (I.tok _)
theorem sd_notIn {t : St5} {b : Addr} {Q : Value → Shared → Prop} (hu : A.units + 9 < cLine) (I : Inv X pins σ H s) (e : H a = some (SD X.prog X.w a ks)) (k : KsOk X.K H ks) (d : Dp X.K H (.ref b) (stD t))
    (h : ∀ s', Inv X pins σ H s' → Q (.bool (!decide (t ∈ ks.map (·.1)))) s') : wpAny (model X.prog X.w) A (compareOp .NotIn (.ref b) (.ref a)) Q E s := by
  obtain ⟨z, hd, nd, dd⟩ := sd_of I e k
  refine wpAny_notIn_heap (show A.in1.units + 8 < cLine by rw [Around.in1_units]; omega) (sd_is (x := (t, b)) I d) hd dd ?_
  rw [sd_at]
  exact h _ (I.tok _)
end
end AA

set_option Elab.async false
set_option linter.all false
set_option maxRecDepth 100000
set_option maxHeartbeats 4000000
/-! The same: None looked up, the rules for the program's text, list of it, a comprehension that makes one. -/
namespace AA
open PySem PySem.Spec PyProof.Rows L2 Evl
section
variable {prog : Program} {w : World} {A : Around} {E : Value → Shared → Prop} {s : Shared}
theorem find_none {d : Addr} {o : Obj} {es : Array DictEntry} {ep : Nat} {hh : Int} {Q : Option Nat → Shared → Prop} (hu : A.units + 8 < cLine) (ho : s.heap.get? d = some o) (hd : o.data = .dict es ep)
    (hk : ∀ e ∈ es, ∃ t b, e.key = .ref b ∧ IsSt s.heap (.ref b) t) (hq : Q none s) : wpAny (model prog w) A (dictFind d .none hh) Q E s := by
  have key : ∀ (i : Nat) (e : DictEntry), es[i]? = some e → ∃ t b, e.key = .ref b ∧ IsSt s.heap (.ref b) t := fun i e h => hk e (Array.mem_of_getElem? h)
  unfold dictFind
  try with_reducible refine wpAny_holding ?_
  refine wpAny_bind (wpAny_dictEntries ho hd ?_)
  dsimp only
  by_cases hc : ((Value.none :: (placesWithHash es.size (fun i => es[i]?.map (·.hash)) hh).filterMap (fun i => es[i]?.map (·.key))).all carriedByValue) = true
  · rw [if_pos hc]
    have hp : ∀ i ∈ placesWithHash es.size (fun i => es[i]?.map (·.hash)) hh, es[i]? = none := fun i hi => by
      cases q : es[i]? with
      | none => rfl
      | some e =>
        obtain ⟨t, b, e1, _⟩ := key i e q
        have m : e.key ∈ (placesWithHash es.size (fun i => es[i]?.map (·.hash)) hh).filterMap (fun i => es[i]?.map (·.key)) := List.mem_filterMap.mpr ⟨i, hi, by rw [q]; rfl⟩
        have := List.all_eq_true.mp hc _ (List.mem_cons_of_mem _ m)
        rw [e1] at this
        cases this
    unfold dictWalkPlain
    refine wpAny_bind ?_
    refine wpAny_forIn_list _ (fun rest b s' => s' = s ∧ b = (none, ()) ∧ ∀ i ∈ rest, es[i]? = none) _ ?_ ?_ _ _ ⟨rfl, rfl, hp⟩
    · rintro x rest b s' ⟨rfl, rfl, hr⟩
      rw [hr x List.mem_cons_self]
      exact wpAny_pure ⟨rfl, rfl, fun i hi => hr i (List.mem_cons_of_mem _ hi)⟩
    · rintro b s' ⟨rfl, rfl, _⟩
      exact wpAny_pure hq
  · rw [if_neg hc]
    have hst : ∀ v ∈ (placesWithHash es.size (fun i => es[i]?.map (·.hash)) hh).filterMap (fun i => es[i]?.map (·.key)), ∃ t b, v = .ref b ∧ IsSt s.heap (.ref b) t := fun v hv => by
      obtain ⟨i, _, hi⟩ := List.mem_filterMap.mp hv
      cases q : es[i]? with
      | none =>
        rw [q] at hi
        cases hi
      | some e =>
        rw [q] at hi
        obtain rfl : e.key = v := by simpa using hi
        exact key i e q
    have tell : ∀ (st : List Value) (R : Bool → Shared → Prop), (∀ v ∈ st, ∃ t b, v = .ref b ∧ IsSt s.heap (.ref b) t) → R false s → wpAny (model prog w) A (tableMayTell .none st) R E s := by
      intro st R hv hR
      unfold tableMayTell
      split
      · exact wpAny_pure hR
      · refine wpAny_bind (quiet_key .none _ 8 s .none (by simp [NestedKey.depth]) A E _ ?_)
        simp only [Bool.not_true, Bool.false_eq_true, if_false]
        refine wpAny_bind ?_
        refine wpAny_forIn_list _ (fun rest r s' => s' = s ∧ r = (none, ()) ∧ ∀ v ∈ rest, ∃ t b, v = .ref b ∧ IsSt s.heap (.ref b) t) _ ?_ ?_ _ _ ⟨rfl, rfl, hv⟩
        · rintro x rest r s' ⟨rfl, rfl, hr⟩
          obtain ⟨t, b, rfl, hb⟩ := hr x List.mem_cons_self
          refine wpAny_bind (quiet_key (stK t) _ 8 s' hb.nested (by simp [stK, NestedKey.depth, NestedKey.depthAll]) A E _ ?_)
          simp only [Bool.not_true, Bool.false_eq_true, if_false]
          exact wpAny_pure ⟨rfl, rfl, fun v m => hr v (List.mem_cons_of_mem _ m)⟩
        · rintro r s' ⟨rfl, rfl, _⟩
          exact wpAny_pure hR
    rw [if_neg (fun z => ?bad)]
    case bad =>
      have z1 := eq_of_beq z
      obtain ⟨t, b, q, _⟩ := hst .none (by rw [z1]; exact List.mem_cons_self)
      cases q
    refine wpAny_bind (tell _ _ hst ?_)
    rw [if_neg (by simp)]
    refine wpAny_bind ?_
    refine wpAny_forIn_list _ (fun rest b s' => s' = s ∧ b = (none, none)) _ ?_ ?_ _ _ ⟨rfl, rfl⟩
    · rintro x rest b s' ⟨rfl, rfl⟩
      cases q : es[x]? with
      | none => exact wpAny_pure ⟨rfl, rfl⟩
      | some e =>
        obtain ⟨t, b, e1, hb⟩ := key x e q
        dsimp only
        by_cases hs : (e.hash == hh) = true
        · rw [if_pos hs]
          refine wpAny_bind (wpAny_dictEpoch ho hd (wpAny_bind ?_))
          rw [e1]
          refine eqAt_key (stK t) .none A s' _ _ hb.nested .none (by simp only [NestedKey.depth]; omega) _ _ _ _ ?_
          refine wpAny_bind (wpAny_dictEpoch ho hd ?_)
          rw [if_neg (by simp)]
          rw [if_neg (by simp [stK, NestedKey.beq])]
          refine wpAny_bind (wpAny_rule ?_)
          rw [if_neg (by simp)]
          exact wpAny_pure ⟨rfl, rfl⟩
        · rw [if_neg hs]
          exact wpAny_pure ⟨rfl, rfl⟩
    · rintro b s' ⟨rfl, rfl⟩
      exact wpAny_pure hq
theorem get_none {d : Addr} {o : Obj} {es : Array DictEntry} {ep : Nat} {Q : Option Value → Shared → Prop} (hu : A.units + 8 < cLine) (ho : s.heap.get? d = some o) (hd : o.data = .dict es ep)
    (hk : ∀ e ∈ es, ∃ t b, e.key = .ref b ∧ IsSt s.heap (.ref b) t) (hq : Q none { s with toks := s.toks + 1 }) : wpAny (model prog w) A (dictGet d .none) Q E s := by
  unfold dictGet
  try with_reducible refine wpAny_holding ?_
  exact wpAny_bind (pyHash_key .none .none A s _ .none (by simp only [NestedKey.depth]; omega) (wpAny_bind (find_none (s := { s with toks := s.toks + 1 }) hu ho hd hk (wpAny_pure hq))))
theorem notIn_none {d : Addr} {o : Obj} {es : Array DictEntry} {ep : Nat} {Q : Value → Shared → Prop} (hu : A.units + 9 < cLine) (hs : (d == sysModules) = false) (ho : s.heap.get? d = some o) (hx : o.ExactDict) (hd : o.data = .dict es ep)
    (hk : ∀ e ∈ es, ∃ t b, e.key = .ref b ∧ IsSt s.heap (.ref b) t) (hq : Q (.bool true) { s with toks := s.toks + 1 }) : wpAny (model prog w) A (compareOp .NotIn .none (.ref d)) Q E s := by
  have hT : s.TypeIs (.ref d) "dict" := ⟨o, ho, hx.1⟩
  show wpAny _ _ (contains (.ref d) .none >>= fun b => pure (.bool (!b))) Q E s
  refine wpAny_bind (wpAny_contains_slot hT slot_dict_contains (wpAny_call_entry slot_dict_contains hT entry_dict_contains ?_ (args_dict_contains _ _)))
  show wpAny _ _ (dictGet d .none >>= _) _ _ s
  refine wpAny_bind (get_none (by rw [Around.in1_units]; omega) ho hd hk ?_)
  exact wpAny_bind (wpAny_pendingKey_other hs (wpAny_pure ⟨_, rfl, wpAny_truthy_bool (wpAny_pure hq)⟩))
end
section
variable {X : Cx} {o i e value : Expr} {pos pos' tpos : Pos} {j : Nat} {td ty tv : TE}
theorem sd_ents {pins : List (Addr × Obj)} {σ : L2.St} {H : Hp} {s : Shared} {a : Addr} {ks : List (St5 × Addr)} (I : Inv X pins σ H s) (e : H a = some (SD X.prog X.w a ks)) (k : KsOk X.K H ks) :
    (a == sysModules) = false ∧ ks.length ≤ sizeLine ∧ ∃ o es ep, s.heap.get? a = some o ∧ o.ExactDict ∧ o.data = .dict es ep ∧ es.toList = (ks.map sdEn).map (entryOfKey (nestedKind X.prog X.w)) ∧ ∀ e ∈ es, ∃ t b, e.key = .ref b ∧ IsSt s.heap (.ref b) t := by
  obtain ⟨⟨z, hd, hn, o, es, ep, h1, h2, h3, h4⟩, _, _⟩ := (show ObjOk X.prog X.w H s.heap a (SD X.prog X.w a ks) from I.hok a _ e)
  refine ⟨hd, z, o, es, ep, h1, h2, h3, h4, fun en hen => ?_⟩
  have m : en ∈ (ks.map sdEn).map (entryOfKey (nestedKind X.prog X.w)) := h4 ▸ Array.mem_toList_iff.mpr hen
  obtain ⟨y, hy, rfl⟩ := List.mem_map.mp m
  obtain ⟨x, hx, rfl⟩ := List.mem_map.mp hy
  exact ⟨x.1, x.2, rfl, is_st I (k x hx) rfl⟩
/-- {}, to hold steps -/
def tSNew (X : Cx) : TE := fun _ H Q => ∀ p, H p = none → Q (.ref p) (upd H p (SD X.prog X.w p []))
theorem sd_empty {P : Program} {w : World} {H : Hp} (h : Heap) (hb : sysModules < h.objs.size) : ObjOk P w H (h.push { cls := .type "dict", data := .dict #[] }) h.objs.size (SD P w h.objs.size []) :=
  sd_ok (Nat.zero_le _) (beq_eq_false_iff_ne.mpr (Ne.symm (Nat.ne_of_lt hb))) List.nodup_nil (Heap.DictOfH.new h)
theorem pe_snew : PE X (.Dict [] [] pos) (tSNew X) := ⟨fun pins s σ H Q I h =>
  have hf : s.heap.objs.size ≤ s.heap.objs.size := Nat.le_refl _
  wpAny_Dict_empty ⟨.ref s.heap.objs.size, _, I.laid (t' := s.toks) (o := SD X.prog X.w s.heap.objs.size []) (fun _ _ q => Heap.get?_push_of_some _ q) hf (sd_empty s.heap I.big), rfl, h _ (I.hok.fresh hf)⟩⟩
/-- the step y among the dict's keys -/
def SHas (X : Cx) (H : Hp) (x y : V) (r : Bool) : Prop := ∃ a ks b t, x = .ref a ∧ y = .ref b ∧ H a = some (SD X.prog X.w a ks) ∧ KsOk X.K H ks ∧ Dp X.K H (.ref b) (stD t) ∧ r = decide (t ∈ ks.map (·.1))
/-- None is not -/
def SNon (X : Cx) (H : Hp) (x y : V) : Prop := ∃ a ks, x = .ref a ∧ y = .non ∧ H a = some (SD X.prog X.w a ks) ∧ KsOk X.K H ks
def tSIn (X : Cx) (ty td : TE) : TE := fun σ H Q => ty σ H fun y H1 => td σ H1 fun x H2 => ∃ r, SHas X H2 x y r ∧ Q (.bl r) H2
def tSNot (X : Cx) (ty td : TE) : TE := fun σ H Q => ty σ H fun y H1 => td σ H1 fun x H2 => (∃ r, SHas X H2 x y r ∧ Q (.bl (!r)) H2) ∨ (SNon X H2 x y ∧ Q (.bl true) H2)
def sSPut (X : Cx) (td ty : TE) : TS := fun D σ H => td σ H fun x H2 => ty σ H2 fun y H3 => ∃ a ks b t, x = .ref a ∧ y = .ref b ∧ H3 a = some (SD X.prog X.w a ks) ∧ KsOk X.K H3 ks ∧ Dp X.K H3 (.ref b) (stD t) ∧ t ∉ ks.map (·.1) ∧ ks.length < sizeLine ∧
  D.nx σ (upd H3 a (SD X.prog X.w a (ks ++ [(t, b)])))
theorem pc_sin (hu : X.A.units + 9 < cLine) (hi : PE X i ty) (ho : PE X o td) : PC X .In i o (tSIn X ty td) := ⟨fun pins s σ H Q I h =>
  thn (hi.run pins s σ H _ I h) fun iv s1 ⟨y, H1, I1, ry, q1⟩ => thn (ho.run pins s1 σ H1 _ I1 q1) fun u s2 ⟨x, H2, I2, rx, r, g, q2⟩ => by
    obtain ⟨a, ks, b, t, rfl, rfl, e, k, d, rfl⟩ := g
    cases (show u = Value.ref a from rx)
    cases (show iv = Value.ref b from ry)
    exact sd_in hu I2 e k d fun s3 I3 => ⟨.bl _, H2, I3, rfl, q2⟩⟩
theorem pc_snot (hu : X.A.units + 9 < cLine) (hi : PE X i ty) (ho : PE X o td) : PC X .NotIn i o (tSNot X ty td) := ⟨fun pins s σ H Q I h =>
  thn (hi.run pins s σ H _ I h) fun iv s1 ⟨y, H1, I1, ry, q1⟩ => thn (ho.run pins s1 σ H1 _ I1 q1) fun u s2 ⟨x, H2, I2, rx, q2⟩ => by
    rcases q2 with ⟨r, ⟨a, ks, b, t, rfl, rfl, e, k, d, rfl⟩, q2⟩ | ⟨⟨a, ks, rfl, rfl, e, k⟩, q2⟩
    · cases (show u = Value.ref a from rx)
      cases (show iv = Value.ref b from ry)
      exact sd_notIn hu I2 e k d fun s3 I3 => ⟨.bl _, H2, I3, rfl, q2⟩
    · cases (show u = Value.ref a from rx)
      cases (show iv = Value.none from ry)
      obtain ⟨hs, _, o, es, ep, h1, h2, h3, _, h5⟩ := sd_ents I2 e k
      exact notIn_none hu hs h1 h2 h3 h5 ⟨.bl true, H2, I2.tok _, rfl, q2⟩⟩
theorem ps_sput (hu : X.A.units + 9 < cLine) (ho : PE X o td) (hi : PE X i ty) (hs : swapsWith (.Constant (.bool true) j tpos) (some (.Subscript o i pos')) pos.line X.env = pure false) :
    PS X (.Assign [.Subscript o i pos'] (.Constant (.bool true) j tpos) pos) (sSPut X td ty) := ⟨fun pins s σ H D I h =>
  wpAny_Assign_Subscript (Constant_bool (thn (ho.run pins s σ H _ I h) fun u s2 ⟨x, H2, I2, rx, q2⟩ => thn (hi.run pins s2 σ H2 _ I2 q2) fun iv s3 ⟨y, H3, I3, ry, g⟩ => by
    obtain ⟨a, ks, b, t, rfl, rfl, e, k, d, hn, hl, q⟩ := g
    cases (show u = Value.ref a from rx)
    cases (show iv = Value.ref b from ry)
    exact sd_set hu I3 e k d hn hl fun s4 I4 => ⟨σ, _, I4, q⟩)) hs⟩
/-- list(d): the steps in the order in which they came -/
theorem call_list_sd (hc : X.calm = true) : CallR X (.type "list") (fun xs H Q => ∃ d ks, xs = [V.ref d] ∧ H d = some (SD X.prog X.w d ks) ∧ KsOk X.K H ks ∧ ∀ p, H p = none → Q (.ref p) (upd H p (.lst (ks.map fun x => V.ref x.2)))) := by
  intro pins s σ H xs us Q I r h
  obtain ⟨d, ks, rfl, hd, hk, q⟩ := h
  obtain ⟨u, rfl, rx⟩ := r.one
  cases rx
  obtain ⟨hs, hz, o, es, ep, ho, hx, hdt, he, _⟩ := sd_ents I hd hk
  have l1 : es.size = ks.length := by rw [size_of_entries he, List.length_map]
  refine PySem.W.kdl_call (kdl_raw hs hx hdt) (I.ok.hd hc) ho (by omega) fun h' tk acc' c' kp e it => ?_
  have ea : acc'.toList = (ks.map fun x => x.2).map Value.ref := by
    apply List.ext_getElem?
    intro j
    rw [List.getElem?_map, List.getElem?_map]
    by_cases hj : j < ks.length
    · have hj2 : j < acc'.toList.length := by rw [Array.length_toList, it.1]; omega
      have ej := List.getElem?_eq_getElem hj2
      obtain ⟨en, hen, hv⟩ := it.2 j _ (by rw [← Array.getElem?_toList]; exact ej)
      have qe := entry_at he j
      rw [hen, List.getElem?_map, List.getElem?_eq_getElem hj] at qe
      have e2 : en = entryOfKey (nestedKind X.prog X.w) (sdEn ks[j]) := Option.some.inj qe
      rw [ej, List.getElem?_eq_getElem hj, hv, e2]
      rfl
    · rw [List.getElem?_eq_none (by rw [Array.length_toList, it.1]; omega), List.getElem?_eq_none (by omega)]
      rfl
  have rv : Vals ((ks.map fun x => x.2).map V.ref) acc'.toList := by
    rw [ea]
    exact vals_refs _
  have em : (ks.map fun x => x.2).map V.ref = ks.map fun x => V.ref x.2 := by
    rw [List.map_map]
    rfl
  rw [em] at rv
  have hf : s.heap.objs.size ≤ s.heap.objs.size := Nat.le_refl _
  exact ⟨.ref s.heap.objs.size, _, I.laid (t' := tk) (o := .lst (ks.map fun x => V.ref x.2)) kp hf ⟨by rw [List.length_map]; exact hz, acc'.toList, c', rv, by rw [Array.toArray_toList]; exact e⟩, rfl, q _ (I.hok.fresh hf)⟩
end
end AA

set_option Elab.async false
set_option linter.all false
set_option maxRecDepth 100000
set_option maxHeartbeats 4000000
/-! {step: True for .. in ..}: a comprehension that makes a dict of steps (by way of compLoop_anyD, as dc_core goes for dicts with plain keys). -/
namespace AA
open PySem PySem.Spec PyProof.Rows L2 Evl
section
variable {X : Cx} {pins : List (Addr × Obj)} {σ : L2.St} {H : Hp} {s : Shared}
theorem sd_dictSet {E : Value → Shared → Prop} {D b : Addr} {ks : List (St5 × Addr)} {t : St5} {Q : Unit → Shared → Prop} (hu : X.A.units + 8 < cLine) (I : Inv X pins σ H s) (e : H D = some (SD X.prog X.w D ks)) (k : KsOk X.K H ks) (d : Dp X.K H (.ref b) (stD t))
    (hn : t ∉ ks.map (·.1)) (hl : ks.length < sizeLine) (h : ∀ s', Inv X pins σ (upd H D (SD X.prog X.w D (ks ++ [(t, b)]))) s' → Q () s') : wpAny (model X.prog X.w) X.A (dictSet D (.ref b) (.bool true)) Q E s := by
  obtain ⟨z, hd, nd, dd⟩ := sd_of I e k
  refine wpAny_dictSet_heap (hsz := by rw [List.length_map]; exact z) (show X.A.units + 8 < cLine from hu) (sd_is (x := (t, b)) I d) dd fun h' dd' hs => h _ ?_
  rw [storedH_new (sd_none hn)] at dd'
  have e2 : ks.map sdEn ++ [(stK (t, b).1, b, Value.bool true)] = (ks ++ [(t, b)]).map sdEn := by rw [List.map_append]; rfl
  rw [e2] at dd'
  obtain ⟨q, es, ep, hq, h2⟩ := id dd'
  refine d_write I (by rw [e]; exact True.intro) hs ⟨q, hq⟩ (sd_ok (by rw [List.length_append]; exact hl) hd ?_ dd')
  rw [List.map_append, List.nodup_append]
  refine ⟨nd, by simp, fun x hx y hy => ?_⟩
  simp only [List.map_cons, List.map_nil, List.mem_singleton] at hy
  subst hy
  exact fun q => hn (q ▸ hx)
end
/-- the key y goes into the dict at D -/
def SNext (X : Cx) (H : Hp) (D : Addr) (y : V) (Nx : Hp → Prop) : Prop := ∃ ks b t, y = .ref b ∧ H D = some (SD X.prog X.w D ks) ∧ KsOk X.K H ks ∧ Dp X.K H (.ref b) (stD t) ∧ t ∉ ks.map (·.1) ∧ ks.length < sizeLine ∧ Nx (upd H D (SD X.prog X.w D (ks ++ [(t, b)])))
def tSc (X : Cx) (wi : TI) (g : TG) (tk : TE) (vs : List Nat) : TE := fun σ G Q => wi σ G fun J G1 => ∀ D, G1 D = none → ∃ W : Nat → Nat → Hp → Prop, (∃ m, W 0 m (upd G1 D (SD X.prog X.w D []))) ∧ ∀ i m G, W i m G →
  (J.stop i G ∧ Q (.ref D) G) ∨ (J.go i G ∧ ∃ Nx : Hp → Prop, (∀ G', Nx G' → ∃ m', m' < m ∧ W (i + 1) m' G') ∧ ∀ x G', J.yld i G x G' → g x (wipe σ vs) G' fun σ2 G2 => wipe σ2 vs = wipe σ vs ∧ tk σ2 G2 fun y G4 => SNext X G4 D y Nx)
section
variable {X : Cx}
theorem sc_core {pins : List (Addr × Obj)} {t0 : Shared} {σ : L2.St} {G : Hp} {Q : VK} {kx tg iter : Expr} {scope : Scope} {own : List (Str × Nat)} {j : Nat} {p0 p1 p2 : Pos} {wi : TI} {g : TG} {tk : TE} {use : Option (Value → Sem Unit)} {Qf : Value → Shared → Prop}
    (hu : X.A.units + 8 < cLine) (hc : X.calm = true) (hN : X.N.Nodup) (I0 : Inv X pins σ G t0) (hi : PI X tg iter wi) (ok : BlkOk X.N X.env.scope scope own)
    (hg : ∀ (t : Shared) (G : Hp) (C : Addr) (cl : List (Str × Addr)) (fp : List Addr), PG (X.blk t G scope (compEnvC scope cl C X.env) fp) tg g)
    (hk : ∀ (t : Shared) (G : Hp) (C : Addr) (cl : List (Str × Addr)) (fp : List Addr), PE (X.blk t G scope (compEnvC scope cl C X.env) fp) kx tk) (hs : ∀ x, foldedSetIterable iter X.env x = pure x)
    (h : tSc X wi g tk (own.map (·.2)) σ G Q)
    (back : ∀ D C s' m G', Inv X pins σ G' s' → Q (.ref D) G' → s'.heap.Ns C m → FpOk X pins G' C → compPost (model X.prog X.w) X.A X.xe use Qf (.ref D) C (.ok .next) s') :
    wpAny (model X.prog X.w) X.A (comprehension (.DictComp kx (.Constant (.bool true) j p2) [⟨tg, iter, [], 0⟩] scope p0) scope X.env p1 newDict false (eval iter X.env) use) Qf X.xe t0 := by
  have fr : ∀ y ∈ scope.names, y.2 = .free → ∃ c, X.env.cells.lookup y.1 = some c := fun y hy e => (ok.free y hy e).elim (fun k => I0.ok.has _ (.inl k)) (fun k => I0.ok.has _ (.inr k))
  refine wpAny_comprehension_free (use := use) rfl hs (closure_ok fr) ok.kind (fun y hy e => by rw [ok.uniq y hy, e]) (thn (hi.run pins t0 σ G _ I0 h) fun xv t1 hx => thn hx fun itv t2 got => ?_)
  obtain ⟨it, fp, tn, J, G2, rfl, I2, T, st2, f2, q⟩ := got
  refine wpAny_newObj_type (newEnv_comp ?_)
  generalize hD : t2.heap.objs.size = D
  have hDn : G2 D = none := I2.hok.fresh (Nat.le_of_eq hD)
  obtain ⟨W, ⟨m0, w0⟩, turn⟩ := q D hDn
  generalize ht3 : ({ t2 with heap := t2.heap.push { cls := .type "dict", data := .dict #[] } } : Shared) = t3
  have e3 : t3.heap = t2.heap.push { cls := .type "dict", data := .dict #[] } := by rw [← ht3]
  have I3 : Inv X pins σ (upd G2 D (SD X.prog X.w D [])) t3 := by
    rw [← ht3]
    refine I2.laid (t' := t2.toks) (fun b o e => Heap.get?_push_of_some _ e) (Nat.le_of_eq hD) ?_
    rw [← hD]
    exact sd_empty t2.heap I2.big
  have f3 : ∀ b ∈ fp, FpOk X pins (upd G2 D (SD X.prog X.w D [])) b ∧ b < t3.heap.objs.size := fun b hb => by
    obtain ⟨o, e, _⟩ := T.obj _ _ st2 b hb
    have hlt := Heap.lt_size e
    refine ⟨⟨?_, (f2 b hb).2⟩, by rw [e3, Heap.size_push]; exact Nat.lt_succ_of_lt hlt⟩
    rw [upd_ne (by rw [← hD]; exact Nat.ne_of_lt hlt)]
    exact (f2 b hb).1
  have st3 : tn 0 t3.heap := T.keep _ _ _ st2 fun b _ o e => by rw [e3]; exact Heap.get?_push_of_some _ e
  have I4 := block_start I3 ok hN f3
  have pg := hg t3 (upd G2 D (SD X.prog X.w D [])) t3.heap.objs.size (cellsFrom (t3.heap.objs.size + 1) scope.names (cloFrom X.env.cells scope.names [])) fp
  have pk := hk t3 (upd G2 D (SD X.prog X.w D [])) t3.heap.objs.size (cellsFrom (t3.heap.objs.size + 1) scope.names (cloFrom X.env.cells scope.names [])) fp
  show codeAny _ _ (.compStart (.DictComp kx (.Constant (.bool true) j p2) [⟨tg, iter, [], 0⟩] scope p0) 0 (.ref it) (.ref D) (compEnvC scope (cellsFrom (t3.heap.objs.size + 1) scope.names (cloFrom X.env.cells scope.names [])) t3.heap.objs.size X.env)) (compPost (model X.prog X.w) X.A X.xe use Qf (.ref D) t3.heap.objs.size) { t3 with heap := pushCells (t3.heap.push { cls := .type "dict", data := .dict #[] }) scope.names }
  have nfp : ∀ b ∈ fp, (upd G2 D (SD X.prog X.w D [])) b = none := fun b hb => (f3 b hb).1.1
  generalize hce : compEnvC scope (cellsFrom (t3.heap.objs.size + 1) scope.names (cloFrom X.env.cells scope.names [])) t3.heap.objs.size X.env = ce at I4 pg pk ⊢
  have cL : ce.locals = t3.heap.objs.size := by subst hce; rfl
  generalize hG3 : upd G2 D (SD X.prog X.w D []) = G3 at I3 I4 pg pk w0 nfp f3
  generalize ht4 : ({ t3 with heap := pushCells (t3.heap.push { cls := .type "dict", data := .dict #[] }) scope.names } : Shared) = t4 at I4 ⊢
  have st4 : tn 0 t4.heap := T.keep _ _ _ st3 fun b _ o e => by rw [← ht4]; exact pushCells_keeps _ _ _ _ (Heap.get?_push_of_some _ e)
  have stat : ∀ {σ' : L2.St} {G' : Hp} {s' : Shared}, Inv (X.blk t3 G3 scope ce fp) [] σ' G' s' → (∀ b ∈ fp, G' b = none) → ∀ b ∈ fp, FpOk (X.blk t3 G3 scope ce fp) [] G' b := fun {σ' G' s'} I' hn b hb =>
    ⟨hn b hb, (I'.ok.exf b hb).1, I'.ok.exfs b hb, .inl hb, fun x c e => (I'.ok.exf b hb).2 x c e, fun p hp => absurd (show p ∈ ([] : List (Addr × Obj)) ++ [] from hp) (by simp)⟩
  have loop : codeAny (model X.prog X.w) X.A (.compLoop (.DictComp kx (.Constant (.bool true) j p2) [⟨tg, iter, [], 0⟩] scope p0) 0 (.ref it) (.ref D) ce) (compPost (model X.prog X.w) X.A X.xe use Qf (.ref D) t3.heap.objs.size) t4 := by
    refine compLoop_anyD (fun n s' => ∃ i G', Inv (X.blk t3 G3 scope ce fp) [] (wipe σ (own.map (·.2))) G' s' ∧ tn i s'.heap ∧ (∀ b ∈ fp, G' b = none) ∧ W i n G') ?_ m0 ⟨0, G3, I4, st4, nfp, w0⟩
    rintro n t5 ⟨i, G5, I5, st5, n5, w5⟩
    rcases turn i n G5 w5 with ⟨stop, qq⟩ | ⟨go, Nx, hNx, step⟩
    · have td := T.done (X.blk t3 G3 scope ce fp) rfl rfl rfl hc i [] t5 _ G5 (fun _ _ => False) I5 (stat I5 n5) st5 stop
      refine thnF td fun r t6 ⟨hr, I6⟩ => ?_
      subst hr
      have I7 : Inv X pins σ G5 t6 := I3.call' (ch := fp) I6.os I6.base I6.hok I6.bare fun b hb => ⟨(f3 b hb).1.2.2.2.1, (f3 b hb).1.2.1, (f3 b hb).1.2.2.2.2.1, (f3 b hb).1.2.2.2.2.2⟩
      have nC : G5 t3.heap.objs.size = none := by
        have z : G5 ce.locals = none := I6.free
        rw [cL] at z
        exact z
      obtain ⟨m, hn, _⟩ := I6.loc
      have hn : t6.heap.Ns ce.locals m := hn
      rw [cL] at hn
      exact back D t3.heap.objs.size t6 m G5 I7 qq hn (I3.fpOk (Nat.le_refl _) nC)
    · have ti := T.item (X.blk t3 G3 scope ce fp) rfl rfl rfl hc i [] t5 _ G5 (fun _ _ => False) I5 (stat I5 n5) st5 go
      refine thnF ti fun r t6 ⟨u, hr, h6⟩ => ?_
      subst hr
      refine thnF h6 fun _ t7 ⟨x, G7, I7, r7, y7, st7, n7⟩ => ?_
      have I7' := I7.pinned (stat I7 n7) (T.obj _ _ st7)
      refine thnF (pg.run _ t7 _ G7 x u _ I7' r7 (step x G7 y7)) fun _ t8 ⟨σ8, G8, I8, hw8, q8⟩ => ?_
      refine wpAny_pure ?_
      simp only [if_true]
      refine thnF (pk.run _ t8 σ8 G8 _ I8 q8) fun z t9 ⟨yk, G9, I9, r9, ks, b, t, ek, hD9, hk9, hd9, hn9, hl9, nx⟩ => ?_
      subst ek
      cases (show z = Value.ref b from r9)
      refine Constant_bool ?_
      refine sd_dictSet (X := X.blk t3 G3 scope ce fp) hu I9 hD9 hk9 hd9 hn9 hl9 fun s' I' => ?_
      obtain ⟨m', hm, w'⟩ := hNx _ nx
      have pin' : ∀ b ∈ fp, ∀ o, t7.heap.get? b = some o → s'.heap.get? b = some o ∧ _ = none := fun b hb o e =>
        let z := I'.pin (b, o) (List.mem_append_right _ (List.mem_append_right _ (mem_pinsAt hb e)))
        ⟨z.1, z.2.1⟩
      have hl : (wipe σ (own.map (·.2))).length = σ8.length := by rw [← hw8, wipe_length]
      refine ⟨m', hm, i + 1, _, (I'.unpinned (pins := [])).weak hl (fun j v e => ?_), T.keep _ _ _ st7 fun b hb o e => (pin' b hb o e).1, fun b hb => ?_, w'⟩
      · rw [← hw8] at e
        exact (wipe_some e).1
      · obtain ⟨o, e, _⟩ := T.obj _ _ st7 b hb
        exact (pin' b hb o e).2
  exact codeAny_compStart_dict loop (T.self X.A 0 _ _ _ st4 loop)
theorem pe_sc {kx tg iter : Expr} {scope : Scope} {own : List (Str × Nat)} {j : Nat} {p0 p2 : Pos} {wi : TI} {g : TG} {tk : TE} (hu : X.A.units + 8 < cLine) (hc : X.calm = true) (hN : X.N.Nodup) (hi : PI X tg iter wi) (ok : BlkOk X.N X.env.scope scope own)
    (hg : ∀ (t : Shared) (G : Hp) (C : Addr) (cl : List (Str × Addr)) (fp : List Addr), PG (X.blk t G scope (compEnvC scope cl C X.env) fp) tg g)
    (hk : ∀ (t : Shared) (G : Hp) (C : Addr) (cl : List (Str × Addr)) (fp : List Addr), PE (X.blk t G scope (compEnvC scope cl C X.env) fp) kx tk) (hs : ∀ x, foldedSetIterable iter X.env x = pure x := by intro _; rfl) :
    PE X (.DictComp kx (.Constant (.bool true) j p2) [⟨tg, iter, [], 0⟩] scope p0) (tSc X wi g tk (own.map (·.2))) := ⟨fun pins t0 σ G Q I0 h => by
  rw [arm_eval_DictComp]
  refine sc_core hu hc hN I0 hi ok hg hk hs h fun D C s' m G' I' q hn f => ⟨m, hn, fun h'' sb => ?_⟩
  obtain ⟨f0, f1, f2, f3, f4, f5⟩ := f
  exact ⟨.ref D, G', I'.turned (t' := s'.toks) (fun b o hb e => (sb.2 b hb).trans e) f0 f1 f3 f4 f5, rfl, q⟩⟩
/-- over a list that stays -/
theorem sc_list {K : PySem.W.Frag} {a : Addr} {xs : List V} {g : TG} {tk : TE} {vs : List Nat} {σ : L2.St} {G1 : Hp} {D : Addr} {Qd : Hp → Prop} (Pv : Nat → Hp → Prop) (h0 : Pv 0 (upd G1 D (SD X.prog X.w D []))) (hl : ∀ i G, i ≤ xs.length → Pv i G → SqL K G a xs)
    (hs : ∀ i x G, xs[i]? = some x → Pv i G → g x (wipe σ vs) G fun σ2 G2 => wipe σ2 vs = wipe σ vs ∧ tk σ2 G2 fun y G4 => SNext X G4 D y (Pv (i + 1))) (hd : ∀ G, Pv xs.length G → Qd G) :
    ∃ W : Nat → Nat → Hp → Prop, (∃ m, W 0 m (upd G1 D (SD X.prog X.w D []))) ∧ ∀ i m G, W i m G →
      ((Itl K a).stop i G ∧ Qd G) ∨ ((Itl K a).go i G ∧ ∃ Nx : Hp → Prop, (∀ G', Nx G' → ∃ m', m' < m ∧ W (i + 1) m' G') ∧ ∀ x G', (Itl K a).yld i G x G' → g x (wipe σ vs) G' fun σ2 G2 => wipe σ2 vs = wipe σ vs ∧ tk σ2 G2 fun y G4 => SNext X G4 D y Nx) := by
  refine ⟨fun i m G => m = xs.length - i ∧ i ≤ xs.length ∧ Pv i G, ⟨xs.length, by simp, Nat.zero_le _, h0⟩, fun i m G w => ?_⟩
  obtain ⟨rfl, hi, p⟩ := w
  have q := hl i G hi p
  by_cases hlt : i < xs.length
  · refine .inr ⟨⟨xs, xs[i], q, by simp [hlt]⟩, Pv (i + 1), fun G' p' => ⟨xs.length - (i + 1), by omega, rfl, hlt, p'⟩, fun x G' y => ?_⟩
    obtain ⟨rfl, y⟩ := y
    exact hs i x _ (y xs q) p
  · obtain rfl : i = xs.length := by omega
    exact .inl ⟨⟨xs, q, Nat.le_refl _⟩, hd G p⟩
end
end AA

set_option Elab.async false
set_option linter.all false
set_option maxRecDepth 100000
set_option maxHeartbeats 4000000
/-! The program's checks: is_integer, is_list, is_integers. -/
namespace AA
open PySem PySem.Spec PyProof.Rows L2 Evl
/-! ### the heap without tables of code objects: they alone grow -/
def nt (H : Hp) : Hp := fun x => match H x with
  | some (.tbl _) => none
  | o => o
theorem nt_some {H : Hp} {x : Addr} {o : HO} (h : nt H x = some o) : H x = some o ∧ ∀ ps, o ≠ .tbl ps := by
  unfold nt at h
  split at h
  · cases h
  · rename_i hn
    exact ⟨h, fun ps e => hn ps (by rw [h, e])⟩
theorem nt_of {H : Hp} {x : Addr} {o : HO} (h : H x = some o) (n : ∀ ps, o ≠ .tbl ps) : nt H x = some o := by
  unfold nt
  split
  · rename_i ps hp
    rw [h] at hp
    exact absurd (Option.some.inj hp) (n ps)
  · exact h
theorem nt_le {H : Hp} : Ex (nt H) H := fun x o h => (nt_some h).1
theorem nt_mono {H H' : Hp} (e : Ex H H') : Ex (nt H) (nt H') := fun x o h => nt_of (e _ _ (nt_some h).1) (nt_some h).2
theorem nt_idem {H : Hp} : Ex (nt H) (nt (nt H)) := fun x o h => nt_of h (nt_some h).2
theorem sql_nt {K : PySem.W.Frag} {H : Hp} {a : Addr} {xs : List V} (h : SqL K H a xs) : SqL K (nt H) a xs := by
  rcases h with h | h
  · refine .inl ?_
    rcases h with h | ⟨u, h⟩
    · exact .inl (nt_of h fun ps z => nomatch z)
    · exact .inr ⟨u, nt_of h fun ps z => nomatch z⟩
  · exact .inr h
theorem sqt_nt {K : PySem.W.Frag} {H : Hp} {a : Addr} {xs : List V} (h : SqT K H a xs) : SqT K (nt H) a xs := by
  rcases h with h | h
  · refine .inl ?_
    rcases h with h | ⟨u, h⟩
    · exact .inl (nt_of h fun ps z => nomatch z)
    · exact .inr ⟨u, nt_of h fun ps z => nomatch z⟩
  · exact .inr h
mutual
theorem dp_nt {K : PySem.W.Frag} {H : Hp} : ∀ (d : PyData) (v : V), Dp K H v d → Dp K (nt H) v d
  | .none, _, h => by
    cases h
    exact .non
  | .bool b, _, h => by
    cases h
    exact .bl _
  | .int i, _, h => by
    cases h
    exact .int _
  | .str x, _, h => by
    cases h
    exact .str _
  | .list ds, _, h => by
    cases h with
    | lst h1 h2 => exact .lst (sql_nt h1) (dpa_nt ds _ h2)
  | .tuple ds, _, h => by
    cases h with
    | tup h1 h2 => exact .tup (sqt_nt h1) (dpa_nt ds _ h2)
  | .dict _, _, h => by cases h
theorem dpa_nt {K : PySem.W.Frag} {H : Hp} : ∀ (ds : List PyData) (vs : List V), DpAll K H vs ds → DpAll K (nt H) vs ds
  | [], _, h => by
    cases h
    exact .nil
  | d :: ds, _, h => by
    cases h with
    | cons h1 h2 => exact .cons (dp_nt d _ h1) (dpa_nt ds _ h2)
end
/-- the name of the type of data -/
def tnD : PyData → String
  | .none => "NoneType"
  | .bool _ => "bool"
  | .int _ => "int"
  | .str _ => "str"
  | .list _ => "list"
  | .tuple _ => "tuple"
  | .dict _ => "dict"
def isIntD : PyData → Bool
  | .int _ => true
  | _ => false
def isListD : PyData → Bool
  | .list _ => true
  | .tuple _ => true
  | _ => false
def isIntsD (m : Int) : PyData → Bool
  | .list xs => decide ((xs.length : Int) = m) && xs.all isIntD
  | .tuple xs => decide ((xs.length : Int) = m) && xs.all isIntD
  | _ => false
theorem ty_dp {K : PySem.W.Frag} {H : Hp} {v : V} {d : PyData} (h : Dp K H v d) : TyF K H v (.type (tnD d)) := by
  cases h with
  | non => exact .inl (.base .non)
  | bl b => exact .inl (.base (.bl b))
  | int i => exact .inl (.base (.int i))
  | str x => exact .inl (.base (.str x))
  | lst h1 _ => exact .inl (ty_l h1)
  | tup h1 _ => exact .inl (ty_t h1)
def isBoolD : PyData → Bool
  | .bool _ => true
  | _ => false
theorem kd_int {K : PySem.W.Frag} (d : PyData) : PySem.W.kitOne K (.type (tnD d)) (.type "int") = some (isIntD d || isBoolD d) := by
  cases d with
  | none => exact kit_ty (show kitB "NoneType" "int" = some false by decide +kernel)
  | bool => exact kit_ty (show kitB "bool" "int" = some true by decide +kernel)
  | int => exact kit_ty (show kitB "int" "int" = some true by decide +kernel)
  | str => exact kit_ty (show kitB "str" "int" = some false by decide +kernel)
  | list => exact kit_ty (show kitB "list" "int" = some false by decide +kernel)
  | tuple => exact kit_ty (show kitB "tuple" "int" = some false by decide +kernel)
  | dict => exact kit_ty (show kitB "dict" "int" = some false by decide +kernel)
theorem kd_bool {K : PySem.W.Frag} (d : PyData) : PySem.W.kitOne K (.type (tnD d)) (.type "bool") = some (isBoolD d) := by
  cases d with
  | none => exact kit_ty (show kitB "NoneType" "bool" = some false by decide +kernel)
  | bool => exact kit_ty (show kitB "bool" "bool" = some true by decide +kernel)
  | int => exact kit_ty (show kitB "int" "bool" = some false by decide +kernel)
  | str => exact kit_ty (show kitB "str" "bool" = some false by decide +kernel)
  | list => exact kit_ty (show kitB "list" "bool" = some false by decide +kernel)
  | tuple => exact kit_ty (show kitB "tuple" "bool" = some false by decide +kernel)
  | dict => exact kit_ty (show kitB "dict" "bool" = some false by decide +kernel)
theorem kd_seq {K : PySem.W.Frag} (d : PyData) : PySem.W.kitAny K (.type (tnD d)) [.type "list", .type "tuple"] = some (isListD d) := by
  cases d with
  | list => exact seq_yes_l
  | tuple => exact seq_yes_t
  | none => exact kit_no2 (T := "NoneType") (by decide +kernel) (by decide +kernel)
  | bool => exact kit_no2 (T := "bool") (by decide +kernel) (by decide +kernel)
  | int => exact kit_no2 (T := "int") (by decide +kernel) (by decide +kernel)
  | str => exact kit_no2 (T := "str") (by decide +kernel) (by decide +kernel)
  | dict => exact kit_no2 (T := "dict") (by decide +kernel) (by decide +kernel)
section
variable {P : Program} {w : World} {K : PySem.W.Frag} {mg : Str → Option Value} {base : Heap}
def spIsInteger (K : PySem.W.Frag) : Sp := fun vs H Q _ => ∃ (v : V) (d : PyData), vs = [v] ∧ Dp K H v d ∧ Q (.bl (isIntD d)) H
theorem scIsInteger : FnScope ["thing"] ["thing"] (defScope sIsInteger) := ⟨rfl, rfl, rfl, by decide +kernel, rfl, by decide +kernel, by decide +kernel⟩
theorem ok_isInteger {f : Addr} {fd : FuncData} (F : L2.Fun K "is_integer" "is_integer" sIsInteger f fd) (T : Bn mg) : FnOk P w K mg base CX0 1 f fd ["thing"] (spIsInteger K) := by
  refine F.ok scIsInteger (fun vs H Q E h => ?_) (fun cdv A outer s H vs Q E hr h => ?_)
  · obtain ⟨v, d, rfl, _⟩ := h
    rfl
  · obtain ⟨v, d, rfl, hd, k⟩ := h
    refine ⟨_, pss_one (ps_ret (pe_and (pe_callB call_is1 (by rfl) T.isinstance boot_isinstance (pa_cons (pv 0) (pa_cons (pe_bltn (v := .ty "int") (by rfl) T.int boot_int rfl) pa_nil)))
      (pe_one (pe_not (pe_callB call_is1 (by rfl) T.isinstance boot_isinstance (pa_cons (pv 0) (pa_cons (pe_bltn (v := .ty "bool") (by rfl) T.bool boot_bool rfl) pa_nil))))))), ?_⟩
    refine ⟨_, rfl, v, _, _, .type "int", _, rfl, .ty _, ty_dp hd, kd_int d, _, rfl, ?_⟩
    by_cases hi : isIntD d = true
    · rw [hi] at k ⊢
      refine iteT ?_
      refine ⟨_, rfl, v, _, _, .type "bool", _, rfl, .ty _, ty_dp hd, kd_bool d, _, rfl, ?_⟩
      cases d <;> first | exact k | cases hi
    · have hf : isIntD d = false := by simpa using hi
      rw [hf] at k ⊢
      cases d with
      | bool b =>
        refine iteT ?_
        exact ⟨_, rfl, v, _, _, .type "bool", _, rfl, .ty _, ty_dp hd, kd_bool _, _, rfl, k⟩
      | int i => cases hf
      | _ => exact iteF k
/-- what a thing is asked by is_list, in this heap and later ones -/
def Lk (K : PySem.W.Frag) (H : Hp) (v : V) (b : Bool) : Prop := ∃ t : Value, (∀ H', Ex (nt H) H' → TyF K H' v t) ∧ PySem.W.kitAny K t [.type "list", .type "tuple"] = some b
theorem lk_dp {H : Hp} {v : V} {d : PyData} (h : Dp K H v d) : Lk K H v (isListD d) := ⟨_, fun H' e => ty_dp (dp_ex e d v (dp_nt d v h)), kd_seq d⟩
theorem Lk.ex {H H' : Hp} {v : V} {b : Bool} (h : Lk K H v b) (e : Ex H H') : Lk K H' v b := by
  obtain ⟨t, h1, h2⟩ := h
  exact ⟨t, fun H2 e2 => h1 H2 ((nt_mono e).trans e2), h2⟩
theorem Lk.nt {H : Hp} {v : V} {b : Bool} (h : Lk K H v b) : Lk K (AA.nt H) v b := by
  obtain ⟨t, h1, h2⟩ := h
  exact ⟨t, fun H2 e2 => h1 H2 (nt_idem.trans e2), h2⟩
def spIsList (K : PySem.W.Frag) : Sp := fun vs H Q _ => ∃ (v : V) (b : Bool), vs = [v] ∧ Lk K H v b ∧ ∀ H', Ex H H' → Q (.bl b) H'
theorem scIsList : FnScope ["thing"] ["thing"] (defScope sIsList) := ⟨rfl, rfl, rfl, by decide +kernel, rfl, by decide +kernel, by decide +kernel⟩
theorem ok_isList {f : Addr} {fd : FuncData} (F : L2.Fun K "is_list" "is_list" sIsList f fd) (T : Bn mg) : FnOk P w K mg base CX0 1 f fd ["thing"] (spIsList K) := by
  refine F.ok scIsList (fun vs H Q E h => ?_) (fun cdv A outer s H vs Q E hr h => ?_)
  · obtain ⟨v, b, rfl, _⟩ := h
    rfl
  · obtain ⟨v, b, rfl, ⟨t, hty, hk⟩, k⟩ := h
    refine ⟨_, pss_one (ps_ret (pe_callB call_isN (by rfl) T.isinstance boot_isinstance (pa_cons (pv 0) (pa_cons (pe_tup (pa_cons (pe_bltn (v := .ty "list") (by rfl) T.list boot_list rfl) (pa_cons (pe_bltn (v := .ty "tuple") (by rfl) T.tuple boot_tuple rfl) pa_nil))) pa_nil)))), ?_⟩
    refine ⟨_, rfl, by show 2 ≤ sizeLine; decide, fun p hp => ?_⟩
    have e1 : Ex H (upd H p (.tup [.ty "list", .ty "tuple"])) := Ex.new hp
    exact ⟨v, p, _, t, [.type "list", .type "tuple"], b, rfl, upd_same, .cons (.ty _) (.cons (.ty _) .nil), hty _ (nt_le.trans e1), hk, k _ e1⟩
/-- a list or a tuple of data -/
theorem dp_seq {H : Hp} {v : V} {d : PyData} (h : Dp K H v d) (l : isListD d = true) : ∃ (a : Addr) (xs : List V) (ds : List PyData), v = .ref a ∧ DpAll K H xs ds ∧ ((d = .list ds ∧ SqL K H a xs) ∨ (d = .tuple ds ∧ SqT K H a xs)) := by
  cases h with
  | lst h1 h2 => exact ⟨_, _, _, rfl, h2, .inl ⟨rfl, h1⟩⟩
  | tup h1 h2 => exact ⟨_, _, _, rfl, h2, .inr ⟨rfl, h1⟩⟩
  | _ => cases l
def itemsD : PyData → List PyData
  | .list xs => xs
  | .tuple xs => xs
  | _ => []
end
end AA

set_option Elab.async false
set_option linter.all false
set_option maxRecDepth 100000
set_option maxHeartbeats 4000000
/-! read_step. -/
namespace AA
open PySem PySem.Spec PyProof.Rows L2 Evl
/-- the step that a thing is, between n places -/
def rdStep (n : Int) (d : PyData) : Option St5 :=
  match itemsD d with
  | [.int a, .int b, c, .int e, .int f] =>
    match itemsD c with
    | [.int p, .int q] => if 0 ≤ a ∧ a < n ∧ 0 ≤ b ∧ b < n ∧ 1 ≤ e then some ⟨a, b, p, q, e, f⟩ else none
    | _ => none
  | _ => none
theorem int_of {d : PyData} (h : isIntD d = true) : ∃ i, d = .int i := by
  cases d with
  | int i => exact ⟨i, rfl⟩
  | _ => cases h
theorem ints_of {m : Int} {d : PyData} (h : isIntsD m d = true) : ((itemsD d).length : Int) = m ∧ (itemsD d).all isIntD = true ∧ isListD d = true := by
  cases d with
  | list xs =>
    have h' : (decide ((xs.length : Int) = m) && xs.all isIntD) = true := h
    rw [Bool.and_eq_true] at h'
    exact ⟨of_decide_eq_true h'.1, h'.2, rfl⟩
  | tuple xs =>
    have h' : (decide ((xs.length : Int) = m) && xs.all isIntD) = true := h
    rw [Bool.and_eq_true] at h'
    exact ⟨of_decide_eq_true h'.1, h'.2, rfl⟩
  | _ => cases h
theorem rd_len {n : Int} {d : PyData} {s : St5} (h : rdStep n d = some s) : (itemsD d).length = 5 := by
  unfold rdStep at h
  split at h
  · rename_i e
    rw [e]
    rfl
  · cases h
theorem rd_list {n : Int} {d : PyData} {s : St5} (h : rdStep n d = some s) : isListD d = true := by
  have := rd_len h
  cases d with
  | list => rfl
  | tuple => rfl
  | _ => cases this
theorem rd_ints {n : Int} {d d0 d1 d2 d3 d4 : PyData} {s : St5} (hd : itemsD d = [d0, d1, d2, d3, d4]) (h : rdStep n d = some s) : isIntsD 4 (.list [d0, d1, d3, d4]) = true ∧ isIntsD 2 d2 = true := by
  unfold rdStep at h
  rw [hd] at h
  split at h
  · rename_i a b c e f q
    cases q
    split at h
    · rename_i p q e2
      refine ⟨rfl, ?_⟩
      cases d2 with
      | list xs =>
        obtain rfl : xs = [.int p, .int q] := e2
        rfl
      | tuple xs =>
        obtain rfl : xs = [.int p, .int q] := e2
        rfl
      | _ => cases e2
    · cases h
  · cases h
theorem rd_at {n a b e f p q : Int} {d c : PyData} (hd : itemsD d = [.int a, .int b, c, .int e, .int f]) (hc : itemsD c = [.int p, .int q]) :
    rdStep n d = if 0 ≤ a ∧ a < n ∧ 0 ≤ b ∧ b < n ∧ 1 ≤ e then some ⟨a, b, p, q, e, f⟩ else none := by
  unfold rdStep
  rw [hd]
  show (match itemsD c with | [.int p, .int q] => if 0 ≤ a ∧ a < n ∧ 0 ≤ b ∧ b < n ∧ 1 ≤ e then some (⟨a, b, p, q, e, f⟩ : St5) else none | _ => none) = _
  rw [hc]
theorem four_of {d0 d1 d3 d4 : PyData} (h : isIntsD 4 (.list [d0, d1, d3, d4]) = true) : ∃ a b e f, d0 = .int a ∧ d1 = .int b ∧ d3 = .int e ∧ d4 = .int f := by
  have := (ints_of h).2.1
  have h2 : (isIntD d0 && (isIntD d1 && (isIntD d3 && (isIntD d4 && true)))) = true := this
  simp only [Bool.and_eq_true] at h2
  obtain ⟨a, rfl⟩ := int_of h2.1
  obtain ⟨b, rfl⟩ := int_of h2.2.1
  obtain ⟨e, rfl⟩ := int_of h2.2.2.1
  obtain ⟨f, rfl⟩ := int_of h2.2.2.2.1
  exact ⟨a, b, e, f, rfl, rfl, rfl, rfl⟩
theorem two_of {d : PyData} (h : isIntsD 2 d = true) : ∃ p q, itemsD d = [.int p, .int q] := by
  obtain ⟨h1, h2, _⟩ := ints_of h
  generalize itemsD d = l at h1 h2
  match l, h1, h2 with
  | [x, y], _, h2 =>
    have h3 : (isIntD x && (isIntD y && true)) = true := h2
    simp only [Bool.and_eq_true] at h3
    obtain ⟨p, rfl⟩ := int_of h3.1
    obtain ⟨q, rfl⟩ := int_of h3.2.1
    exact ⟨p, q, rfl⟩
  | [], h1, _ => cases h1
  | [x], h1, _ => cases h1
  | x :: y :: z :: r, h1, _ =>
    simp only [List.length_cons] at h1
    omega
/-- what read_step answers -/
def RdR (K : PySem.W.Frag) (H : Hp) (r : V) : Option St5 → Prop
  | none => r = .non
  | some s => Dp K H r (stD s)
theorem pg_or {X : Cx} {tg : Expr} {g1 g2 : TG} (h1 : PG X tg g1) (h2 : PG X tg g2) : PG X tg (fun v σ H Q => g1 v σ H Q ∨ g2 v σ H Q) :=
  ⟨fun pins s σ H v u Q I r hw => hw.elim (h1.run pins s σ H v u Q I r) (h2.run pins s σ H v u Q I r)⟩
theorem gun_or {K : PySem.W.Frag} {n : Nat} {t : TGs} {v : V} {σ : L2.St} {H : Hp} {Q : L2.St → Hp → Prop} {a : Addr} {xs : List V} (e : v = .ref a) (h : SqL K H a xs ∨ SqT K H a xs) (hn : xs.length = n) (ht : t xs σ H Q) : gUnl K n t v σ H Q ∨ gTup K n t v σ H Q :=
  h.imp (fun h => ⟨a, xs, e, h, hn, ht⟩) (fun h => ⟨a, xs, e, h, hn, ht⟩)
theorem five_of {α : Type} {xs : List α} (h : xs.length = 5) : ∃ a b c d e, xs = [a, b, c, d, e] := by
  match xs, h with
  | [a, b, c, d, e], _ => exact ⟨a, b, c, d, e, rfl⟩
theorem dpa_five {K : PySem.W.Frag} {H : Hp} {x0 x1 x2 x3 x4 : V} {ds : List PyData} (h : DpAll K H [x0, x1, x2, x3, x4] ds) :
    ∃ d0 d1 d2 d3 d4, ds = [d0, d1, d2, d3, d4] ∧ Dp K H x0 d0 ∧ Dp K H x1 d1 ∧ Dp K H x2 d2 ∧ Dp K H x3 d3 ∧ Dp K H x4 d4 := by
  cases h with
  | cons h0 h =>
    cases h with
    | cons h1 h =>
      cases h with
      | cons h2 h =>
        cases h with
        | cons h3 h =>
          cases h with
          | cons h4 h =>
            cases h
            exact ⟨_, _, _, _, _, rfl, h0, h1, h2, h3, h4⟩
section
variable {P : Program} {w : World} {K : PySem.W.Frag} {mg : Str → Option Value} {base : Heap}
/-- a list or a tuple stands there -/
def SqA (K : PySem.W.Frag) (H : Hp) (a : Addr) (xs : List V) : Prop := SqL K H a xs ∨ SqT K H a xs
theorem SqA.ex {H H' : Hp} {a : Addr} {xs : List V} (h : SqA K H a xs) (e : Ex H H') : SqA K H' a xs := h.imp (fun h => ex_l e h) (fun h => ex_t e h)
theorem SqA.nt {H : Hp} {a : Addr} {xs : List V} (h : SqA K H a xs) : SqA K (AA.nt H) a xs := h.imp sql_nt sqt_nt
theorem lk_sq {H : Hp} {a : Addr} {xs : List V} (h : SqA K H a xs) : Lk K H (.ref a) true := h.elim (fun h => ⟨_, fun H' e => .inl (ty_l (ex_l e (sql_nt h))), seq_yes_l⟩) (fun h => ⟨_, fun H' e => .inl (ty_t (ex_t e (sqt_nt h))), seq_yes_t⟩)
/-- a thing that is no integer, in this heap and later ones -/
def NotI (K : PySem.W.Frag) (H : Hp) (v : V) : Prop := ∃ (t : Value) (i b : Bool), (∀ H', Ex (nt H) H' → TyF K H' v t) ∧ PySem.W.kitOne K t (.type "int") = some i ∧ PySem.W.kitOne K t (.type "bool") = some b ∧ (i && !b) = false
theorem NotI.ex {H H' : Hp} {v : V} (h : NotI K H v) (e : Ex H H') : NotI K H' v := by
  obtain ⟨t, i, b, h1, h2⟩ := h
  exact ⟨t, i, b, fun H2 e2 => h1 H2 ((nt_mono e).trans e2), h2⟩
theorem NotI.nt {H : Hp} {v : V} (h : NotI K H v) : NotI K (AA.nt H) v := by
  obtain ⟨t, i, b, h1, h2⟩ := h
  exact ⟨t, i, b, fun H2 e2 => h1 H2 (nt_idem.trans e2), h2⟩
theorem ni_dp {H : Hp} {v : V} {d : PyData} (h : Dp K H v d) (hd : isIntD d = false) : NotI K H v := ⟨_, _, _, fun H' e => ty_dp (dp_ex e d v (dp_nt d v h)), kd_int d, kd_bool d, by cases d <;> first | rfl | cases hd⟩
theorem ni_fn {H : Hp} {f : Addr} {o : Obj} (h1 : K.lookup f = some o) (h2 : o.cls = .type "function") : NotI K H (.ref f) := ⟨.type "function", false, false, fun H' e => .inr ⟨f, o, rfl, h1, h2, rfl⟩, kit_ty (by decide +kernel), kit_ty (by decide +kernel), rfl⟩
theorem ni_dict {H : Hp} {p : Addr} (h : H p = some (.dK [])) : NotI K H (.ref p) := ⟨.type "dict", false, false, fun H' e => .inl (.base (.dK (e _ _ (nt_of h fun ps z => nomatch z)))), kit_ty (by decide +kernel), kit_ty (by decide +kernel), rfl⟩
theorem ni_sq {H : Hp} {a : Addr} {xs : List V} (h : SqA K H a xs) : NotI K H (.ref a) := h.elim (fun h => ⟨_, false, false, fun H' e => .inl (ty_l (ex_l e (sql_nt h))), kit_ty (by decide +kernel), kit_ty (by decide +kernel), rfl⟩) (fun h => ⟨_, false, false, fun H' e => .inl (ty_t (ex_t e (sqt_nt h))), kit_ty (by decide +kernel), kit_ty (by decide +kernel), rfl⟩)
theorem lk_fn {H : Hp} {f : Addr} {o : Obj} (h1 : K.lookup f = some o) (h2 : o.cls = .type "function") : Lk K H (.ref f) false := ⟨.type "function", fun H' e => .inr ⟨f, o, rfl, h1, h2, rfl⟩, kit_no2 (by decide +kernel) (by decide +kernel)⟩
theorem lk_dict {H : Hp} {p : Addr} (h : H p = some (.dK [])) : Lk K H (.ref p) false := ⟨.type "dict", fun H' e => .inl (.base (.dK (e _ _ (nt_of h fun ps z => nomatch z)))), kit_no2 (by decide +kernel) (by decide +kernel)⟩
/-- a thing that read_step tells to be none -/
def RdNo (K : PySem.W.Frag) (n : Int) (H : Hp) (v : V) : Prop :=
  Lk K H v false ∨ ∃ (a : Addr) (xs : List V), v = .ref a ∧ SqA K H a xs ∧ (xs.length ≠ 5 ∨ ∃ x0 x1 x2 x3 x4, xs = [x0, x1, x2, x3, x4] ∧
    (Lk K H x2 false ∨ ∃ (b : Addr) (ys : List V), x2 = .ref b ∧ SqA K H b ys ∧ (ys.length ≠ 2 ∨ ∃ y0 y1, ys = [y0, y1] ∧
      ((∃ (is : List Int) (z : V) (r : List V), [x0, x1, y0, y1, x3, x4] = is.map V.int ++ z :: r ∧ NotI K H z) ∨
        ∃ i0 i1 p q i3 i4 : Int, [x0, x1, y0, y1, x3, x4] = [V.int i0, V.int i1, V.int p, V.int q, V.int i3, V.int i4] ∧ ¬ (0 ≤ i0 ∧ i0 < n ∧ 0 ≤ i1 ∧ i1 < n ∧ 1 ≤ i3)))))
theorem RdNo.ex {n : Int} {H H' : Hp} {v : V} (h : RdNo K n H v) (e : Ex H H') : RdNo K n H' v := by
  rcases h with h | ⟨a, xs, h1, h2, h⟩
  · exact .inl (h.ex e)
  · refine .inr ⟨a, xs, h1, h2.ex e, h.imp id ?_⟩
    rintro ⟨x0, x1, x2, x3, x4, h3, h⟩
    refine ⟨x0, x1, x2, x3, x4, h3, h.imp (fun z => z.ex e) ?_⟩
    rintro ⟨b, ys, h4, h5, h⟩
    refine ⟨b, ys, h4, h5.ex e, h.imp id ?_⟩
    rintro ⟨y0, y1, h6, h⟩
    refine ⟨y0, y1, h6, h.imp ?_ id⟩
    rintro ⟨is, z, r, h7, h8⟩
    exact ⟨is, z, r, h7, h8.ex e⟩
theorem RdNo.nt {n : Int} {H : Hp} {v : V} (h : RdNo K n H v) : RdNo K n (AA.nt H) v := by
  rcases h with h | ⟨a, xs, h1, h2, h⟩
  · exact .inl h.nt
  · refine .inr ⟨a, xs, h1, h2.nt, h.imp id ?_⟩
    rintro ⟨x0, x1, x2, x3, x4, h3, h⟩
    refine ⟨x0, x1, x2, x3, x4, h3, h.imp (fun z => z.nt) ?_⟩
    rintro ⟨b, ys, h4, h5, h⟩
    refine ⟨b, ys, h4, h5.nt, h.imp id ?_⟩
    rintro ⟨y0, y1, h6, h⟩
    refine ⟨y0, y1, h6, h.imp ?_ id⟩
    rintro ⟨is, z, r, h7, h8⟩
    exact ⟨is, z, r, h7, h8.nt⟩
def spReadStep (K : PySem.W.Frag) : Sp := fun vs H Q _ => ∃ (n : Int) (v : V), vs = [.int n, v] ∧ ((RdNo K n H v ∧ ∀ H', Ex H H' → Q .non H') ∨ ∃ d, Dp K H v d ∧ ∀ H' r, Ex H H' → RdR K H' r (rdStep n d) → Q r H')
theorem scReadStep : FnScope ["places", "thing", "one", "other", "amounts", "ticks", "change", "number"] ["places", "thing"] (defScope sReadStep) := ⟨rfl, rfl, rfl, by decide +kernel, rfl, by decide +kernel, by decide +kernel⟩
theorem rd_six {n : Int} {d d0 d1 d2 d3 d4 : PyData} {s : St5} (hd : itemsD d = [d0, d1, d2, d3, d4]) (h : rdStep n d = some s) : isListD d2 = true ∧ ∃ e0 e1, itemsD d2 = [e0, e1] ∧ ∀ z ∈ [d0, d1, e0, e1, d3, d4], isIntD z = true := by
  obtain ⟨h4, h2⟩ := rd_ints hd h
  obtain ⟨a, b, e, f, rfl, rfl, rfl, rfl⟩ := four_of h4
  obtain ⟨p, q, hc⟩ := two_of h2
  refine ⟨(ints_of h2).2.2, _, _, hc, fun z hz => ?_⟩
  simp only [List.mem_cons, List.not_mem_nil, or_false] at hz
  rcases hz with rfl | rfl | rfl | rfl | rfl | rfl <;> rfl
theorem two_ofl {α : Type} {xs : List α} (h : xs.length = 2) : ∃ a b, xs = [a, b] := by
  match xs, h with
  | [a, b], _ => exact ⟨a, b, rfl⟩
theorem dpa_two {K : PySem.W.Frag} {H : Hp} {x0 x1 : V} {ds : List PyData} (h : DpAll K H [x0, x1] ds) : ∃ d0 d1, ds = [d0, d1] ∧ Dp K H x0 d0 ∧ Dp K H x1 d1 := by
  cases h with
  | cons h0 h =>
    cases h with
    | cons h1 h =>
      cases h
      exact ⟨_, _, rfl, h0, h1⟩
theorem ix_at {K : PySem.W.Frag} {G : Hp} {b : Addr} {ys : List V} {j : Nat} {y : V} {Q : V → Hp → Prop} (h : SqL K G b ys ∨ SqT K G b ys) (e : ys[j]? = some y) (k : Q y G) : rIx K (.ref b) (.int (j : Nat)) G Q :=
  h.elim (fun h => .inl ⟨b, ys, _, y, rfl, rfl, h, atI_nat e, k⟩) (fun h => .inr (.inl ⟨b, ys, _, y, rfl, rfl, h, atI_nat e, k⟩))
theorem ok_readStep {f : Addr} {fd : FuncData} (F : L2.Fun K "read_step" "read_step" sReadStep f fd) (T : Bn mg) (cL : C8.Cal P w K mg base 1 "is_list" (spIsList K) []) :
    FnOk P w K mg base CX0 3 f fd ["places", "thing"] (spReadStep K) := by
  refine F.ok scReadStep (fun vs H Q E h => ?_) (fun cdv A outer s H vs Q E hr h => ?_)
  · obtain ⟨n, v, rfl, _⟩ := h
    rfl
  · obtain ⟨n, v, rfl, h⟩ := h
    refine ⟨_, pss_cons (ps_if (PW.pt (pw_or (pt_not (pt_val (C8.pe_c cL hr (by decide) (by rfl) (pa_cons (pv 1) pa_nil)))) (pw_or1 (pt_cmpR op_ne (pe_callB call_len_seq (by rfl) T.len PySem.boot_len (pa_cons (pv 1) pa_nil)) pe_int (nomark _)))))
        (pss_one (ps_ret pe_non)) pss_nil)
      (pss_cons (ps_asg (pv 1) (pg_or (pg_unl (n := 5) rfl (pgs_cons (pg_name (i := 2) scReadStep.nd rfl (Or.inl rfl)) (pgs_cons (pg_name (i := 3) scReadStep.nd rfl (Or.inl rfl)) (pgs_cons (pg_name (i := 4) scReadStep.nd rfl (Or.inl rfl)) (pgs_cons (pg_name (i := 5) scReadStep.nd rfl (Or.inl rfl)) (pgs_cons (pg_name (i := 6) scReadStep.nd rfl (Or.inl rfl)) pgs_nil))))))
          (pg_tup (n := 5) rfl (pgs_cons (pg_name (i := 2) scReadStep.nd rfl (Or.inl rfl)) (pgs_cons (pg_name (i := 3) scReadStep.nd rfl (Or.inl rfl)) (pgs_cons (pg_name (i := 4) scReadStep.nd rfl (Or.inl rfl)) (pgs_cons (pg_name (i := 5) scReadStep.nd rfl (Or.inl rfl)) (pgs_cons (pg_name (i := 6) scReadStep.nd rfl (Or.inl rfl)) pgs_nil))))))))
      (pss_cons (ps_if (PW.pt (pw_or (pt_not (pt_val (C8.pe_c cL hr (by decide) (by rfl) (pa_cons (pv 4) pa_nil)))) (pw_or1 (pt_cmpR op_ne (pe_callB call_len_seq (by rfl) T.len PySem.boot_len (pa_cons (pv 4) pa_nil)) pe_int (nomark _)))))
        (pss_one (ps_ret pe_non)) pss_nil)
      (pss_cons (ps_for PassesOwn.never rfl (pi_tup (pe_tup (pa_cons (pv 2) (pa_cons (pv 3) (pa_cons (pe_ix ix_seq (pv 4) pe_int (fun _ _ => rfl)) (pa_cons (pe_ix ix_seq (pv 4) pe_int (fun _ _ => rfl)) (pa_cons (pv 5) (pa_cons (pv 6) pa_nil)))))))) (pg_name (i := 7) scReadStep.nd rfl (Or.inl rfl))
        (pss_one (ps_if (PW.pt (pw_or (pt_not (pt_val (pe_callB call_is1 (by rfl) T.isinstance boot_isinstance (pa_cons (pv 7) (pa_cons (pe_bltn (v := .ty "int") (by rfl) T.int boot_int rfl) pa_nil)))))
            (pw_or1 (pt_val (pe_callB call_is1 (by rfl) T.isinstance boot_isinstance (pa_cons (pv 7) (pa_cons (pe_bltn (v := .ty "bool") (by rfl) T.bool boot_bool rfl) pa_nil)))))))
          (pss_one (ps_ret pe_non)) pss_nil)))
      (pss_cons (ps_if (PW.pt (pw_or (pt_cmpR op_lt (pv 2) pe_int (nomark _)) (pw_or (pt_cmpR op_ge (pv 2) (pv 0) (nomark _)) (pw_or (pt_cmpR op_lt (pv 3) pe_int (nomark _)) (pw_or (pt_cmpR op_ge (pv 3) (pv 0) (nomark _)) (pw_or1 (pt_cmpR op_lt (pv 5) pe_int (nomark _))))))))
        (pss_one (ps_ret pe_non)) pss_nil)
      (pss_one (ps_ret (pe_tup (pa_cons (pv 2) (pa_cons (pv 3) (pa_cons (pe_callTy call_tuple_of (by rfl) T.tuple boot_tuple (pa_cons (pv 4) pa_nil)) (pa_cons (pv 5) (pa_cons (pv 6) pa_nil)))))))))))), ?_⟩
    rcases h with ⟨hno, k⟩ | ⟨d, hd, k⟩
    · rcases hno with hl | ⟨a, xs, rfl, hs, hno⟩
      · exact ⟨_, rfl, v, _, rfl, hl, fun H1 e1 => ⟨_, rfl, iteT (iteT (k _ e1))⟩⟩
      refine ⟨_, rfl, .ref a, _, rfl, lk_sq hs, fun H1 e1 => ⟨_, rfl, iteF ?_⟩⟩
      have hs1 := hs.ex e1
      refine ⟨_, rfl, a, xs, rfl, hs1, rfl, _, rfl, ?_⟩
      rcases hno with h5 | ⟨x0, x1, x2, x3, x4, rfl, hno⟩
      · rw [decide_eq_false (fun z => h5 (by have := V.int.inj z; omega))]
        exact iteT (k _ e1)
      rw [decide_eq_true (show V.int (([x0, x1, x2, x3, x4] : List V).length : Int) = V.int 5 from rfl)]
      refine iteF ?_
      refine ⟨_, rfl, gun_or rfl hs1 rfl ⟨x0, _, rfl, x1, _, rfl, x2, _, rfl, x3, _, rfl, x4, _, rfl, rfl, ?_⟩⟩
      rcases hno with hl2 | ⟨b, ys, rfl, hs2, hno⟩
      · exact ⟨_, rfl, x2, _, rfl, hl2.ex e1, fun G2 e2 => ⟨_, rfl, iteT (iteT (k _ (e1.trans e2)))⟩⟩
      refine ⟨_, rfl, .ref b, _, rfl, lk_sq (hs2.ex e1), fun G2 eG2 => ⟨_, rfl, iteF ?_⟩⟩
      have e2 := e1.trans eG2
      have hs2' : SqL K G2 b ys ∨ SqT K G2 b ys := hs2.ex e2
      refine ⟨_, rfl, b, ys, rfl, hs2', rfl, _, rfl, ?_⟩
      rcases hno with h2 | ⟨y0, y1, rfl, hno⟩
      · rw [decide_eq_false (fun z => h2 (by have := V.int.inj z; omega))]
        exact iteT (k _ e2)
      rw [decide_eq_true (show V.int (([y0, y1] : List V).length : Int) = V.int 2 from rfl)]
      refine iteF ?_
      refine ⟨_, rfl, _, rfl, _, rfl, ix_at (j := 0) hs2' rfl ?_⟩
      refine ⟨_, rfl, ix_at (j := 1) hs2' rfl ?_⟩
      refine ⟨_, rfl, _, rfl, by show 6 ≤ sizeLine; decide, fun L hL => ?_⟩
      have e3 := e2.trans (Ex.new (o := .tup [x0, x1, y0, y1, x3, x4]) hL)
      refine ⟨L, rfl, ⟨_, SqT.of upd_same⟩, ?_⟩
      rcases hno with ⟨is, z, r, hz, hni⟩ | ⟨i0, i1, p, q, i3, i4, hz, hno⟩
      · have hln : is.length + 1 + r.length = 6 := by
          have := congrArg List.length hz
          simp only [List.length_cons, List.length_nil, List.length_append, List.length_map] at this
          omega
        refine for_tup (K := K) (a := L) (xs := [x0, x1, y0, y1, x3, x4]) (fun i σ G => ∃ x7 : Option V, σ = [some (.int n), some (.ref a), some x0, some x1, some (.ref b), some x3, some x4, x7] ∧ G = upd G2 L (.tup [x0, x1, y0, y1, x3, x4]) ∧ i ≤ is.length)
          ⟨none, rfl, rfl, Nat.zero_le _⟩ (fun i σ G _ ⟨_, _, e, _⟩ => by rw [e]; exact SqT.of upd_same) ?_ ?_
        · rintro i y σ G hy ⟨x7, rfl, rfl, hi⟩
          by_cases hlt : i < is.length
          · rw [hz, List.getElem?_append_left (by rw [List.length_map]; exact hlt)] at hy
            obtain ⟨c, _, rfl⟩ := get_ints hy
            refine ⟨_, rfl, _, _, _, .type "int", _, rfl, .ty _, ty_dp (d := .int c) (.int c), kd_int (.int c), _, rfl, ?_⟩
            refine iteF ?_
            exact ⟨_, rfl, _, _, _, .type "bool", _, rfl, .ty _, ty_dp (d := .int c) (.int c), kd_bool (.int c), _, rfl, iteF ⟨_, rfl, rfl, hlt⟩⟩
          · have hie : i = is.length := by omega
            subst hie
            rw [hz, List.getElem?_append_right (by rw [List.length_map]; exact Nat.le_refl _), List.length_map, Nat.sub_self] at hy
            cases (Option.some.inj hy)
            obtain ⟨t, bi, bb, h1, h2, h3, h4⟩ := hni
            refine ⟨_, rfl, _, _, _, .type "int", _, rfl, .ty _, h1 _ (nt_le.trans e3), h2, _, rfl, ?_⟩
            cases bi with
            | false => exact iteT (iteT (k _ e3))
            | true =>
              refine iteF ?_
              refine ⟨_, rfl, _, _, _, .type "bool", _, rfl, .ty _, h1 _ (nt_le.trans e3), h3, _, rfl, ?_⟩
              cases bb with
              | true => exact iteT (k _ e3)
              | false => cases h4
        · rintro σ G ⟨x7, rfl, rfl, hi⟩
          have hi : 6 ≤ is.length := hi
          omega
      · simp only [List.cons.injEq, and_true] at hz
        obtain ⟨rfl, rfl, rfl, rfl, rfl, rfl⟩ := hz
        refine for_tup (K := K) (a := L) (xs := [.int i0, .int i1, .int p, .int q, .int i3, .int i4]) (fun i σ G => ∃ x7 : Option V, σ = [some (.int n), some (.ref a), some (.int i0), some (.int i1), some (.ref b), some (.int i3), some (.int i4), x7] ∧ G = upd G2 L (.tup [.int i0, .int i1, .int p, .int q, .int i3, .int i4]))
          ⟨none, rfl, rfl⟩ (fun i σ G _ ⟨_, _, e⟩ => by rw [e]; exact SqT.of upd_same) ?_ ?_
        · rintro i y σ G hy ⟨x7, rfl, rfl⟩
          obtain ⟨c, _, rfl⟩ := get_ints (ns := [i0, i1, p, q, i3, i4]) hy
          refine ⟨_, rfl, _, _, _, .type "int", _, rfl, .ty _, ty_dp (d := .int c) (.int c), kd_int (.int c), _, rfl, ?_⟩
          refine iteF ?_
          exact ⟨_, rfl, _, _, _, .type "bool", _, rfl, .ty _, ty_dp (d := .int c) (.int c), kd_bool (.int c), _, rfl, iteF ⟨_, rfl, rfl⟩⟩
        · rintro σ G ⟨x7, rfl, rfl⟩
          have no : Q .non (upd G2 L (.tup [.int i0, .int i1, .int p, .int q, .int i3, .int i4])) := k _ e3
          refine ⟨_, rfl, _, _, rfl, rfl, _, rfl, ?_⟩
          refine dec_ite (fun z => ?_) (fun z1 => ?_)
          · exact iteT no
          refine ⟨_, rfl, _, rfl, _, _, rfl, rfl, _, rfl, ?_⟩
          refine dec_ite (fun z => ?_) (fun z2 => ?_)
          · exact iteT no
          refine ⟨_, rfl, _, _, rfl, rfl, _, rfl, ?_⟩
          refine dec_ite (fun z => ?_) (fun z3 => ?_)
          · exact iteT no
          refine ⟨_, rfl, _, rfl, _, _, rfl, rfl, _, rfl, ?_⟩
          refine dec_ite (fun z => ?_) (fun z4 => ?_)
          · exact iteT no
          refine ⟨_, rfl, _, _, rfl, rfl, _, rfl, ?_⟩
          refine dec_ite (fun z => ?_) (fun z5 => ?_)
          · exact no
          exact absurd ⟨by omega, by omega, by omega, by omega, by omega⟩ hno
    have kn : rdStep n d = none → ∀ H', Ex H H' → Q .non H' := fun e H' e' => k H' .non e' (by rw [e]; rfl)
    refine ⟨_, rfl, v, _, rfl, lk_dp hd, fun H1 e1 => ?_⟩
    refine ⟨_, rfl, ?_⟩
    by_cases hl : isListD d = true
    · rw [hl]
      refine iteF ?_
      obtain ⟨a, xs, ds, rfl, hX, hs⟩ := dp_seq hd hl
      have hlen := dpa_len hX
      have hit : itemsD d = ds := by
        rcases hs with ⟨rfl, _⟩ | ⟨rfl, _⟩ <;> rfl
      refine ⟨_, rfl, a, xs, rfl, hs.imp (fun z => ex_l e1 z.2) (fun z => ex_t e1 z.2), rfl, _, rfl, ?_⟩
      by_cases h5 : xs.length = 5
      · have h5' : V.int (xs.length : Int) = V.int 5 := by rw [h5]; rfl
        rw [decide_eq_true h5']
        refine iteF ?_
        obtain ⟨x0, x1, x2, x3, x4, rfl⟩ := five_of h5
        obtain ⟨d0, d1, d2, d3, d4, rfl, hx0, hx1, hx2, hx3, hx4⟩ := dpa_five hX
        refine ⟨_, rfl, gun_or rfl (hs.imp (fun z => ex_l e1 z.2) (fun z => ex_t e1 z.2)) rfl ⟨x0, _, rfl, x1, _, rfl, x2, _, rfl, x3, _, rfl, x4, _, rfl, rfl, ?_⟩⟩
        have nope : (isListD d2 = true → ∀ e0 e1, itemsD d2 = [e0, e1] → (∀ z ∈ [d0, d1, e0, e1, d3, d4], isIntD z = true) → False) → rdStep n d = none := fun z => by
          cases q : rdStep n d with
          | none => rfl
          | some s =>
            obtain ⟨z1, e0, e1, z2, z3⟩ := rd_six hit q
            exact (z z1 e0 e1 z2 z3).elim
        refine ⟨_, rfl, x2, _, rfl, lk_dp (dp_ex e1 _ _ hx2), fun G2 eG2 => ⟨_, rfl, ?_⟩⟩
        have e2 := e1.trans eG2
        by_cases hl2 : isListD d2 = true
        · rw [hl2]
          refine iteF ?_
          obtain ⟨b, ys, es, rfl, hY, hs2⟩ := dp_seq hx2 hl2
          have hit2 : itemsD d2 = es := by
            rcases hs2 with ⟨rfl, _⟩ | ⟨rfl, _⟩ <;> rfl
          have hylen := dpa_len hY
          have hs2' : SqL K G2 b ys ∨ SqT K G2 b ys := hs2.imp (fun z => ex_l e2 z.2) (fun z => ex_t e2 z.2)
          refine ⟨_, rfl, b, ys, rfl, hs2', rfl, _, rfl, ?_⟩
          by_cases h2 : ys.length = 2
          · have h2' : V.int (ys.length : Int) = V.int 2 := by rw [h2]; rfl
            rw [decide_eq_true h2']
            refine iteF ?_
            obtain ⟨y0, y1, rfl⟩ := two_ofl h2
            obtain ⟨c0, c1, rfl, hy0, hy1⟩ := dpa_two hY
            refine ⟨_, rfl, _, rfl, _, rfl, ix_at (j := 0) hs2' rfl ?_⟩
            refine ⟨_, rfl, ix_at (j := 1) hs2' rfl ?_⟩
            refine ⟨_, rfl, _, rfl, by show 6 ≤ sizeLine; decide, fun L hL => ?_⟩
            have e3 := e2.trans (Ex.new (o := .tup [x0, x1, y0, y1, x3, x4]) hL)
            have hA : DpAll K (upd G2 L (.tup [x0, x1, y0, y1, x3, x4])) [x0, x1, y0, y1, x3, x4] [d0, d1, c0, c1, d3, d4] := dpa_ex e3 _ _ (.cons hx0 (.cons hx1 (.cons hy0 (.cons hy1 (.cons hx3 (.cons hx4 .nil))))))
            refine ⟨L, rfl, ⟨_, SqT.of upd_same⟩, ?_⟩
            refine for_tup (K := K) (a := L) (xs := [x0, x1, y0, y1, x3, x4]) (fun i σ G => ∃ x7 : Option V, σ = [some (.int n), some (.ref a), some x0, some x1, some (.ref b), some x3, some x4, x7] ∧ G = upd G2 L (.tup [x0, x1, y0, y1, x3, x4]) ∧ ∀ z ∈ ([d0, d1, c0, c1, d3, d4] : List PyData).take i, isIntD z = true)
              ⟨none, rfl, rfl, fun z hz => by simp at hz⟩ (fun i σ G _ ⟨_, _, e, _⟩ => by rw [e]; exact SqT.of upd_same) ?_ ?_
            · rintro i y σ G hy ⟨x7, rfl, rfl, hi⟩
              obtain ⟨di, hdi, hyd⟩ := dpa_get hA hy
              have hmem := mem_of_get hdi
              refine ⟨_, rfl, y, _, _, .type "int", _, rfl, .ty _, ty_dp hyd, kd_int di, _, rfl, ?_⟩
              have bad : isIntD di = false → Q .non (upd G2 L (.tup [x0, x1, y0, y1, x3, x4])) := fun z => kn (nope fun _ f0 f1 hf hz => by
                rw [hit2] at hf
                cases hf
                have := hz di hmem
                rw [z] at this
                cases this) _ e3
              cases hi1 : isIntD di with
              | true =>
                refine iteF ?_
                refine ⟨_, rfl, y, _, _, .type "bool", _, rfl, .ty _, ty_dp hyd, kd_bool di, ?_⟩
                obtain ⟨i', rfl⟩ := int_of hi1
                refine ⟨_, rfl, iteF ⟨_, rfl, rfl, fun z hz => ?_⟩⟩
                rw [List.take_succ, hdi] at hz
                rcases List.mem_append.mp hz with hz | hz
                · exact hi z hz
                · simp at hz
                  subst hz
                  rfl
              | false =>
                cases di with
                | bool b' =>
                  refine iteF ?_
                  refine ⟨_, rfl, y, _, _, .type "bool", _, rfl, .ty _, ty_dp hyd, kd_bool _, ?_⟩
                  exact ⟨_, rfl, iteT (bad hi1)⟩
                | int => cases hi1
                | _ => exact iteT (iteT (bad hi1))
            · rintro σ G ⟨x7, rfl, rfl, hi⟩
              have hall : ∀ z ∈ [d0, d1, c0, c1, d3, d4], isIntD z = true := fun z hz => hi z (by simpa using hz)
              obtain ⟨i0, rfl⟩ := int_of (hall d0 (by simp))
              obtain ⟨i1, rfl⟩ := int_of (hall d1 (by simp))
              obtain ⟨p, rfl⟩ := int_of (hall c0 (by simp))
              obtain ⟨q, rfl⟩ := int_of (hall c1 (by simp))
              obtain ⟨i3, rfl⟩ := int_of (hall d3 (by simp))
              obtain ⟨i4, rfl⟩ := int_of (hall d4 (by simp))
              have hr5 := rd_at (n := n) hit hit2
              cases hx0
              cases hx1
              cases hx3
              cases hx4
              cases hy0
              cases hy1
              have no : ¬ (0 ≤ i0 ∧ i0 < n ∧ 0 ≤ i1 ∧ i1 < n ∧ 1 ≤ i3) → Q .non (upd G2 L (.tup [.int i0, .int i1, .int p, .int q, .int i3, .int i4])) := fun z => kn (by rw [hr5, if_neg z]) _ e3
              refine ⟨_, rfl, _, _, rfl, rfl, _, rfl, ?_⟩
              refine dec_ite (fun z => ?_) (fun z1 => ?_)
              · exact iteT (no (fun y => by omega))
              refine ⟨_, rfl, _, rfl, _, _, rfl, rfl, _, rfl, ?_⟩
              refine dec_ite (fun z => ?_) (fun z2 => ?_)
              · exact iteT (no (fun y => by omega))
              refine ⟨_, rfl, _, _, rfl, rfl, _, rfl, ?_⟩
              refine dec_ite (fun z => ?_) (fun z3 => ?_)
              · exact iteT (no (fun y => by omega))
              refine ⟨_, rfl, _, rfl, _, _, rfl, rfl, _, rfl, ?_⟩
              refine dec_ite (fun z => ?_) (fun z4 => ?_)
              · exact iteT (no (fun y => by omega))
              refine ⟨_, rfl, _, _, rfl, rfl, _, rfl, ?_⟩
              refine dec_ite (fun z => ?_) (fun z5 => ?_)
              · exact no (fun y => by omega)
              rw [if_pos ⟨by omega, by omega, by omega, by omega, by omega⟩] at hr5
              refine ⟨_, rfl, _, rfl, _, rfl, b, [.int p, .int q], rfl, ?_⟩
              rcases hs2 with ⟨_, hs2⟩ | ⟨_, hs2⟩
              · refine .inl ⟨ex_l e3 hs2, fun l hl => ⟨_, rfl, _, rfl, by show 5 ≤ sizeLine; decide, fun t ht => ?_⟩⟩
                refine k _ _ ((e3.trans (Ex.new hl)).trans (Ex.new ht)) ?_
                rw [hr5]
                exact stD_mk (s := ⟨i0, i1, p, q, i3, i4⟩) (SqT.of upd_same) (SqT.of (by rw [upd_ne (ne_of_none upd_same ht)]; exact upd_same))
              · refine .inr ⟨ex_t e3 hs2, _, rfl, _, rfl, by show 5 ≤ sizeLine; decide, fun t ht => ?_⟩
                refine k _ _ (e3.trans (Ex.new ht)) ?_
                rw [hr5]
                exact stD_mk (s := ⟨i0, i1, p, q, i3, i4⟩) (SqT.of upd_same) (ex_t (e3.trans (Ex.new ht)) hs2)
          · rw [decide_eq_false (fun z => h2 (by have := V.int.inj z; omega))]
            refine iteT (kn (nope fun _ f0 f1 hf _ => h2 ?_) _ e2)
            rw [hylen, ← hit2, hf]
            rfl
        · have hf : isListD d2 = false := by simpa using hl2
          rw [hf]
          exact iteT (iteT (kn (nope fun z _ _ _ _ => hl2 z) _ e2))
      · have hn : rdStep n d = none := by
          cases q : rdStep n d with
          | none => rfl
          | some s => exact absurd (by rw [hlen, ← hit]; exact rd_len q) h5
        rw [decide_eq_false (fun z => h5 (by have := V.int.inj z; omega))]
        exact iteT (kn hn _ e1)
    · have hn : rdStep n d = none := by
        cases q : rdStep n d with
        | none => rfl
        | some s => exact absurd (rd_list q) hl
      have hf : isListD d = false := by simpa using hl
      rw [hf]
      exact iteT (iteT (kn hn _ e1))
end
end AA

set_option Elab.async false
set_option linter.all false
set_option maxRecDepth 100000
set_option maxHeartbeats 4000000
/-! enumerate over a list or a tuple. -/
namespace AA
open PySem PySem.Spec PyProof.Rows L2 Evl
theorem enumT_new {v : Value} {o : Obj} {Z : Heap → Prop} (B : Begins v o Z) :
    Meets (Builtin.«enumerate.__new__» ⟨[.type "enumerate", v], []⟩) (fun _ R s => Z s.heap ∧
      R (.ok (.ret (.ref (s.heap.push o).objs.size))) { s with heap := (s.heap.push o).push { cls := .type "enumerate", data := .fields #[.none, .bool false, .ref s.heap.objs.size, rawInt 0, .none, .none] } }) :=
  .of_wp fun prog w A R s h => by
    obtain ⟨hp, g, d, tk, os⟩ := s
    obtain ⟨z, h⟩ := h
    have sb := sub_enumerate
    have go : ∀ {A' : Around} {E : Value → Shared → Prop} {Q : Value → Shared → Prop}, Q (.ref hp.objs.size) ⟨hp.push o, g, d, tk, os⟩ → wpAny (model prog w) A' (pyIter v) Q E ⟨hp, g, d, tk, os⟩ := fun q => B.iter prog w _ _ ⟨hp, g, d, tk, os⟩ _ z q
    wp_walk using go
    refine wpAny_stack_any (fun st => wpAny_pure ?_)
    split
    · rename_i c _ _ _ _ _
      cases (c == Value.type "enumerate") <;> (wp_walk using go; exact ⟨_, rfl, h⟩)
    · wp_walk using go
      exact ⟨_, rfl, h⟩
section
variable {prog : Program} {w : World} {A : Around} {E : Value → Shared → Prop} {s : Shared}
theorem enumT_call {v : Value} {o : Obj} {Z : Heap → Prop} {Q : Value → Shared → Prop} (B : Begins v o Z) (z : Z s.heap)
    (h : ∀ h', IsEnum h' (s.heap.objs.size + 1) s.heap.objs.size 0 .none → h'.get? s.heap.objs.size = some o → h'.objs.size = s.heap.objs.size + 2 →
      (∀ b o, s.heap.get? b = some o → h'.get? b = some o) → Q (.ref (s.heap.objs.size + 1)) { s with heap := h' }) : wpAny (model prog w) A (call (.type "enumerate") [v]) Q E s := by
  have hz : (s.heap.push o).objs.size = s.heap.objs.size + 1 := Heap.size_push ..
  have he : IsEnum ((s.heap.push o).push { cls := .type "enumerate", data := .fields #[.none, .bool false, .ref s.heap.objs.size, rawInt 0, .none, .none] }) (s.heap.objs.size + 1) s.heap.objs.size 0 .none := by
    have q := Heap.get?_push_size (s.heap.push o) (o := { cls := .type "enumerate", data := .fields #[.none, .bool false, .ref s.heap.objs.size, rawInt 0, .none, .none] }) rfl
    rw [hz] at q
    exact q
  refine callType_new F.called_enumerate (by decide) (F.typeCall_enumerate_1 _) (F.newCall_enumerate_1 _) (fun obj => F.args_object_init_2 obj _) F.entry_enumerate_new (enumT_new B) ⟨z, ?_⟩
  show _ ∧ _
  rw [hz]
  exact ⟨⟨_, he, rfl⟩, h _ he (Heap.get?_push_of_some _ (Heap.get?_push_size _ B.free)) (by rw [Heap.size_push, hz]) (fun b u x => Heap.get?_push_of_some _ (Heap.get?_push_of_some _ x))⟩
end
/-- the tuple at a, each item in a new pair -/
def IteT (K : PySem.W.Frag) (a : Addr) : It :=
  ⟨fun i H => ∃ (xs : List V) (x : V), SqT K H a xs ∧ xs[i]? = some x, fun i H v H' => ∃ T x, v = .ref T ∧ H T = none ∧ H' = upd H T (.tup [.int (i : Nat), x]) ∧ (∀ xs, SqT K H a xs → xs[i]? = some x), fun i H => ∃ xs : List V, SqT K H a xs ∧ xs.length = i⟩
theorem turn_enumT {P : Program} {w : World} {K : PySem.W.Frag} {elts : List Expr} {kk : Nat} {tpos : Pos} {a e it : Addr} (ai : a ≠ it) (hne : e ≠ it) (hea : e ≠ a) :
    Turn P w K (.Tuple elts kk tpos) (IteT K a) [e, it] e (fun i h => (∃ old, IsEnum h e it ((i : Nat) : Int) old) ∧ h.IsTupleIter it a i) where
  mem := List.mem_cons_self
  obj := fun i h st b hb => by
    obtain ⟨⟨old, he⟩, ⟨o, ho, hc, hd⟩⟩ := st
    rcases List.mem_cons.mp hb with rfl | z
    · exact ⟨_, he, fun v q => nomatch q⟩
    · obtain rfl := List.mem_singleton.mp z
      exact ⟨o, ho, fun v q => by rw [hd] at q; cases q⟩
  keep := fun i h h' st k => by
    obtain ⟨⟨old, he⟩, hi⟩ := st
    exact ⟨⟨old, k e List.mem_cons_self _ he⟩, hi.at fun o q => k it (by simp) o q⟩
  item := by
    intro X hP hw hK hc i pins s σ H E I hf st hg
    subst hP hw hK
    obtain ⟨⟨old, he⟩, hit⟩ := st
    obtain ⟨xs, x, hq, hx⟩ := hg
    obtain ⟨its, rv, p, hz⟩ := I.tuple hq
    obtain ⟨u, hu, ru⟩ := rv.get hx
    have hel : e < s.heap.objs.size := Heap.lt_size he
    have hil : it < s.heap.objs.size := by
      obtain ⟨_, q, _⟩ := hit
      exact Heap.lt_size q
    have hin : i < its.toArray.size := by
      have := (List.getElem?_eq_some_iff.mp hu).1
      simpa using this
    have pt : s.heap.IsTuple a its.toArray := p
    refine wpAny_pyNext_enum_itemD (Draws.tuple (A := X.A.in1) (I.ok.hd hc) it a ai its.toArray) he ⟨hit, pt⟩ hin hne (by simp [hne, hea]) fun y h' tk hy ho hst hT hsz hk => ?_
    have ey : u = y := by
      have h1 : its.toArray[i]? = some u := by simpa using hu
      exact Option.some.inj (h1.symm.trans hy)
    subst ey
    refine ⟨_, rfl, wpAny_letOwnedTupleGo_enum (s := { s with heap := h', toks := tk + 1 }) ho fun h'' he' sb => ?_⟩
    have hT2 : h''.get? s.heap.objs.size = some { cls := .type "tuple", data := .seq #[.int i tk, u] } := (sb.2 _ (Nat.ne_of_gt hel)).trans hT
    have new : ObjOk X.prog X.w (upd H s.heap.objs.size (.tup [.int (i : Nat), x])) h'' s.heap.objs.size (.tup [.int (i : Nat), x]) :=
      ⟨by show 2 ≤ sizeLine; decide, [.int i tk, u], .cons ⟨_, rfl⟩ (.cons ru .nil), _, hT2, rfl, _, rfl⟩
    have I1 : Inv X pins σ (upd H s.heap.objs.size (.tup [.int (i : Nat), x])) { s with heap := h'', toks := tk + 1 } :=
      I.turnedNew (ch := [e, it]) (fun b ob hb q => (sb.2 b (fun z => hb (by simp [z]))).trans (hk b ob (fun z => hb (by simp [z])) (fun z => hb (by simp [z])) q)) hf (Nat.le_refl _) new
    have e1 : ((i + 1 : Nat) : Int) = (i : Int) + 1 := by omega
    refine ⟨.ref s.heap.objs.size, _, I1, rfl, ⟨_, x, rfl, I.hok.fresh (Nat.le_refl _), rfl, fun ys hy => by rw [I.tuple_inj hy hq]; exact hx⟩, ⟨⟨u, by rw [e1]; exact he'⟩, hst.1.at fun o q => (sb.2 it (Ne.symm hne)).trans q⟩, fun b hb => ?_⟩
    have hb' : b < s.heap.objs.size := by
      rcases List.mem_cons.mp hb with rfl | z
      · exact hel
      · obtain rfl := List.mem_singleton.mp z
        exact hil
    rw [upd_ne (Nat.ne_of_lt hb')]
    exact (hf b hb).1
  done := by
    intro X hP hw hK hc i pins s σ H E I hf st hg
    subst hP hw hK
    obtain ⟨⟨old, he⟩, hit⟩ := st
    obtain ⟨xs, hq, hx⟩ := hg
    obtain ⟨its, rv, p, hz⟩ := I.tuple hq
    obtain ⟨f0, f1, f2, f3, f4, f5⟩ := hf it (by simp)
    have hl := rv.length
    have pt : s.heap.IsTuple a its.toArray := p
    have hi : i = its.toArray.size := by
      rw [← hx, hl]
      simp
    subst hi
    exact wpAny_pyNext_enum_endD (Draws.tuple (A := X.A.in1) (I.ok.hd hc) it a ai its.toArray) he ⟨hit, pt⟩ fun h' eb => ⟨rfl, I.turned (t' := s.toks) (fun b o hb q => eb b o hb q) f0 f1 f3 f4 f5⟩
  self := fun A i s Q E st h => by
    obtain ⟨⟨_, he⟩, _⟩ := st
    exact wpAny_pyIter_enum he h
/-- enumerate(list) or enumerate(tuple) -/
def iEnumA (K : PySem.W.Frag) (ta : TA) : TI := fun σ H R => ta σ H fun vs H1 => ∃ a xs, vs = [.ref a] ∧ ((SqL K H1 a xs ∧ R (Ite K a) H1) ∨ (SqT K H1 a xs ∧ R (IteT K a) H1))
theorem pi_enumA {X : Cx} {e : Expr} {ta : TA} {p pos tpos : Pos} {elts : List Expr} {kk : Nat} (hg : Gl X "enumerate") (hm : X.mg "enumerate" = none) (ha : PA X [e] ta) (hs : starEach [e] X.env = [(false, eval e X.env)] := by rfl) :
    PI X (.Tuple elts kk tpos) (.Call (.Name "enumerate" p) [e] [] pos) (iEnumA X.K ta) := ⟨fun pins s σ H R I h =>
  Call_ (ld_blt I hg hm boot_enumerate (PyProof.Rows.callWith_type1 (thn (ha.run pos pins s σ H _ I h) fun us s1 ⟨vs, H1, I1, r1, a, xs, ex, q1⟩ => by
    subst ex
    obtain ⟨u, rfl, ru⟩ := vals1 r1
    cases (show u = Value.ref a from ru)
    have fresh : ∀ b ∈ [s1.heap.objs.size + 1, s1.heap.objs.size], FpOk X pins H1 b := fun b hb => by
      have hle : s1.heap.objs.size ≤ b := by
        rcases List.mem_cons.mp hb with rfl | z
        · exact Nat.le_add_right _ _
        · exact Nat.le_of_eq (List.mem_singleton.mp z).symm
      exact I1.fpOk hle (I1.hok.fresh hle)
    rcases q1 with ⟨hq, q⟩ | ⟨hq, q⟩
    · obtain ⟨its, rv, p', hz⟩ := I1.list hq
      refine call_enumerate_list p'.isList fun h' he hit hsz hk => wpAny_pyIter_enum he ?_
      exact ⟨s1.heap.objs.size + 1, _, _, _, H1, rfl, I1.kept (t' := s1.toks) hk, turn_enum a (s1.heap.objs.size + 1) s1.heap.objs.size, ⟨⟨.none, he⟩, hit, Nat.succ_ne_self _⟩, fresh, q⟩
    · obtain ⟨its, rv, p', hz⟩ := I1.tuple hq
      have hal : a < s1.heap.objs.size := p'.lt
      refine enumT_call (begins_tuple a its.toArray) p' fun h' he hit hsz hk => wpAny_pyIter_enum he ?_
      exact ⟨s1.heap.objs.size + 1, _, _, _, H1, rfl, I1.kept (t' := s1.toks) hk, turn_enumT (a := a) (e := s1.heap.objs.size + 1) (it := s1.heap.objs.size) (Nat.ne_of_lt hal) (Nat.succ_ne_self _) (Ne.symm (Nat.ne_of_lt (Nat.lt_succ_of_lt hal))), ⟨⟨.none, he⟩, ⟨_, hit, rfl, rfl⟩⟩, fresh, q⟩) hs rfl))⟩
theorem for_enumT {K : PySem.W.Frag} {a : Addr} {xs : List V} {g : TG} {tb : TS} {D : Ends} {σ : L2.St} {H : Hp} (Pv : Nat → L2.St → Hp → Prop) (h0 : Pv 0 σ H) (hl : ∀ i σ H, i ≤ xs.length → Pv i σ H → SqT K H a xs)
    (hs : ∀ (i : Nat) (x : V) (σ : L2.St) (H : Hp) (T : Addr), xs[i]? = some x → Pv i σ H → H T = none → g (.ref T) σ (upd H T (.tup [.int (i : Nat), x])) fun σ2 H2 => tb { D with nx := Pv (i + 1), ct := Pv (i + 1), bk := D.nx } σ2 H2) (hd : ∀ σ H, Pv xs.length σ H → D.nx σ H) :
    ∃ W : Nat → Nat → L2.St → Hp → Prop, (∃ m, W 0 m σ H) ∧ ∀ i m σ H, W i m σ H →
      ((IteT K a).stop i H ∧ D.nx σ H) ∨ ((IteT K a).go i H ∧ ∃ N : L2.St → Hp → Prop, (∀ σ' H', N σ' H' → ∃ m', m' < m ∧ W (i + 1) m' σ' H') ∧ ∀ x H', (IteT K a).yld i H x H' → g x σ H' fun σ2 H2 => tb { D with nx := N, ct := N, bk := D.nx } σ2 H2) := by
  refine ⟨fun i m σ H => m = xs.length - i ∧ i ≤ xs.length ∧ Pv i σ H, ⟨xs.length, by simp, Nat.zero_le _, h0⟩, ?_⟩
  rintro i m σ H ⟨rfl, hi, p⟩
  have q := hl i σ H hi p
  by_cases hlt : i < xs.length
  · refine .inr ⟨⟨xs, xs[i], q, by simp [hlt]⟩, Pv (i + 1), fun σ' H' p' => ⟨xs.length - (i + 1), by omega, rfl, hlt, p'⟩, fun x H' y => ?_⟩
    obtain ⟨T, z, rfl, hT, rfl, e⟩ := y
    exact hs i z σ _ T (e xs q) p hT
  · have e : i = xs.length := by omega
    subst e
    exact .inl ⟨⟨xs, q, rfl⟩, hd σ H p⟩
theorem for_enumA {K : PySem.W.Frag} {a : Addr} {xs : List V} {g : TG} {tb : TS} {D : Ends} {σ : L2.St} {H0 H : Hp} (hq : SqL K H0 a xs ∨ SqT K H0 a xs) (Pv : Nat → L2.St → Hp → Prop) (h0 : Pv 0 σ H) (he : ∀ i σ G, Pv i σ G → Ex H0 G)
    (hs : ∀ (i : Nat) (x : V) (σ : L2.St) (H : Hp) (T : Addr), xs[i]? = some x → Pv i σ H → H T = none → g (.ref T) σ (upd H T (.tup [.int (i : Nat), x])) fun σ2 H2 => tb { D with nx := Pv (i + 1), ct := Pv (i + 1), bk := D.nx } σ2 H2) (hd : ∀ σ H, Pv xs.length σ H → D.nx σ H) :
    (SqL K H a xs ∧ ∃ W : Nat → Nat → L2.St → Hp → Prop, (∃ m, W 0 m σ H) ∧ ∀ i m σ H, W i m σ H →
      ((Ite K a).stop i H ∧ D.nx σ H) ∨ ((Ite K a).go i H ∧ ∃ N : L2.St → Hp → Prop, (∀ σ' H', N σ' H' → ∃ m', m' < m ∧ W (i + 1) m' σ' H') ∧ ∀ x H', (Ite K a).yld i H x H' → g x σ H' fun σ2 H2 => tb { D with nx := N, ct := N, bk := D.nx } σ2 H2)) ∨
    (SqT K H a xs ∧ ∃ W : Nat → Nat → L2.St → Hp → Prop, (∃ m, W 0 m σ H) ∧ ∀ i m σ H, W i m σ H →
      ((IteT K a).stop i H ∧ D.nx σ H) ∨ ((IteT K a).go i H ∧ ∃ N : L2.St → Hp → Prop, (∀ σ' H', N σ' H' → ∃ m', m' < m ∧ W (i + 1) m' σ' H') ∧ ∀ x H', (IteT K a).yld i H x H' → g x σ H' fun σ2 H2 => tb { D with nx := N, ct := N, bk := D.nx } σ2 H2)) :=
  hq.imp (fun q => ⟨ex_l (he _ _ _ h0) q, for_enumL Pv h0 (fun i σ G hi p => ex_l (he i σ G p) q) hs hd⟩) (fun q => ⟨ex_t (he _ _ _ h0) q, for_enumT Pv h0 (fun i σ G hi p => ex_t (he i σ G p) q) hs hd⟩)
end AA

set_option Elab.async false
set_option linter.all false
set_option maxRecDepth 100000
set_option maxHeartbeats 4000000
/-! Exceptions of one field, made and raised. -/
namespace AA
open PySem PySem.Spec PyProof.Rows L2 Evl
section
variable {P : Program} {w : World} {K : PySem.W.Frag} {mg : Str → Option Value} {base : Heap}
/-- a def that may raise, asked where it doesn't -/
theorem fn_calm {k : Nat} {f : Addr} {fd : FuncData} {ps : List Str} {sp : Sp} (G : FnOk P w K mg base (L2.CX P w) k f fd ps sp) : FnOk P w K mg base CX0 k f fd ps (fun vs H Q _ => sp vs H Q E0) := by
  refine ⟨fun vs H Q E h => G.len vs H Q E0 h, fun A outer s H args us vs Q E hr e0 hb r h => ?_⟩
  refine codeAny_mono (G.run A outer s H args us vs Q E0 hr e0 hb r h) fun r s' hq => ?_
  cases r with
  | ok fl => cases fl <;> exact hq
  | error e =>
    obtain ⟨_, _, _, _, _, _, _, _, _, _, _, _, z⟩ := hq
    exact z.elim
/-- what the top has written of an exception's class x with the field m -/
structure ExT (K : PySem.W.Frag) (mg : Str → Option Value) (x m : Str) (CB fI : Addr) : Prop where
  ox : OexC K CB
  xf : XfC K CB
  no : PySem.W.findIn K (.ref CB) m = some none
  gC : mg x = some (.ref CB)
  iC : PySem.W.findIn K (.ref CB) "__init__" = some (some (.ref fI))
  tC : PySem.W.typeIn K (.ref fI) = some (.type "function")
def spExI (CB : Addr) (m : Str) : Sp := fun vs H Q _ => ∃ (a : Addr) (v : V), vs = [.ref a, v] ∧ H a = some (exo a CB none) ∧ ∀ dx, H dx = none → dx ≠ a → Q .non (upd (upd H dx (exd dx [(m, v)])) a (exo a CB (some dx)))
theorem scBadPl : FnScope ["self", "places"] ["self", "places"] (defScope sBadPlInit) := ⟨rfl, rfl, rfl, by decide +kernel, rfl, by decide +kernel, by decide +kernel⟩
theorem ok_badPl {CB f fI : Addr} {fd : FuncData} (F : L2.Fun K "__init__" "BadPlaces.__init__" sBadPlInit f fd) (T : ExT K mg "BadPlaces" "places" CB fI) : FnOk P w K mg base CX0 1 f fd ["self", "places"] (spExI CB "places") := by
  refine F.ok scBadPl (fun vs H Q E h => ?_) (fun cdv A outer s H vs Q E hr h => ?_)
  · obtain ⟨a, v, rfl, _⟩ := h
    rfl
  · obtain ⟨a, v, rfl, ha, k⟩ := h
    exact ⟨_, pss_one (ps_ost (pv 0) (pv 1) rfl), _, rfl, _, rfl, a, CB, rfl, T.ox, T.no, .inl ⟨ha, k⟩⟩
theorem scBadSt : FnScope ["self", "index"] ["self", "index"] (defScope sBadStInit) := ⟨rfl, rfl, rfl, by decide +kernel, rfl, by decide +kernel, by decide +kernel⟩
theorem ok_badSt {CB f fI : Addr} {fd : FuncData} (F : L2.Fun K "__init__" "BadSteps.__init__" sBadStInit f fd) (T : ExT K mg "BadSteps" "index" CB fI) : FnOk P w K mg base CX0 1 f fd ["self", "index"] (spExI CB "index") := by
  refine F.ok scBadSt (fun vs H Q E h => ?_) (fun cdv A outer s H vs Q E hr h => ?_)
  · obtain ⟨a, v, rfl, _⟩ := h
    rfl
  · obtain ⟨a, v, rfl, ha, k⟩ := h
    exact ⟨_, pss_one (ps_ost (pv 0) (pv 1) rfl), _, rfl, _, rfl, a, CB, rfl, T.ox, T.no, .inl ⟨ha, k⟩⟩
/-- an exception of this class with this field flies -/
def BadE (CB : Addr) (m : Str) (H : Hp) (v : V) (E : XK) : Prop := ∀ (H' : Hp) (dd : Addr), Ex H H' → H dd = none → H' dd = some (.xd [(m, v)]) → E (.ref CB) (some dd) H'
theorem BadE.ex {CB : Addr} {m : Str} {H H1 : Hp} {v : V} {E : XK} (h : BadE CB m H v E) (e : Ex H H1) : BadE CB m H1 v E := fun H' dd e' h0 h1 => h H' dd (e.trans e') (fresh_back e h0) h1
/-- raise C(e), read -/
theorem raise_go {CB : Addr} {m : Str} {H1 : Hp} {v : V} {E : XK} (kb : BadE CB m H1 v E) : ∀ a, H1 a = none → spExI CB m [.ref a, v] (upd H1 a (exo a CB none)) (fun u H2 => u = .non ∧ ∃ (d : Addr) (fs : List (Str × V)), H2 a = some (exo a CB (some d)) ∧ H2 d = some (exd d fs) ∧ H1 d = none ∧ E (.ref CB) (some d) (upd (del H2 a) d (.xd fs))) (fun _ _ _ => False) := by
  intro a ha
  refine ⟨a, v, rfl, upd_same, fun dx hdx ne => ⟨rfl, dx, _, upd_same, by rw [upd_ne ne]; exact upd_same, ?_, ?_⟩⟩
  · rw [upd_ne ne] at hdx
    exact hdx
  · have hd1 : H1 dx = none := by
      rw [upd_ne ne] at hdx
      exact hdx
    refine kb _ dx (fun b o hb => ?_) hd1 upd_same
    have hb1 : b ≠ dx := ne_of_none hb hd1
    have hb2 : b ≠ a := ne_of_none hb ha
    rw [upd_ne hb1, del_ne hb2, upd_ne hb2, upd_ne hb1, upd_ne hb2]
    exact hb
end
end AA

set_option Elab.async false
set_option linter.all false
set_option maxRecDepth 100000
set_option maxHeartbeats 4000000
/-! read_steps, of good steps. -/
namespace AA
open PySem PySem.Spec PyProof.Rows L2 Evl
theorem sqt_upd {K : PySem.W.Frag} {G : Hp} {p a : Addr} {φ : Heap → Prop} {o : HO} {xs : List V} (hp : G p = some (.ext φ)) (h : SqT K G a xs) : SqT K (upd G p o) a xs := by
  rcases h with h | h
  · refine .inl ?_
    rcases h with h | ⟨u, h⟩
    · exact .inl (by rw [upd_ne (fun z => by rw [z, hp] at h; cases h)]; exact h)
    · exact .inr ⟨u, by rw [upd_ne (fun z => by rw [z, hp] at h; cases h)]; exact h⟩
  · exact .inr h
theorem st_upd {K : PySem.W.Frag} {G : Hp} {p : Addr} {φ : Heap → Prop} {o : HO} {v : V} {s : St5} (hp : G p = some (.ext φ)) (h : Dp K G v (stD s)) : Dp K (upd G p o) v (stD s) := by
  obtain ⟨t, u, rfl, h1, h2⟩ := stD_inv h
  exact stD_mk (sqt_upd hp h1) (sqt_upd hp h2)
theorem ks_upd {K : PySem.W.Frag} {G : Hp} {p : Addr} {φ : Heap → Prop} {o : HO} {ks : List (St5 × Addr)} (hp : G p = some (.ext φ)) (h : KsOk K G ks) : KsOk K (upd G p o) ks := fun x m => st_upd hp (h x m)
theorem ks_dpa {K : PySem.W.Frag} {G : Hp} : ∀ {ks : List (St5 × Addr)}, KsOk K G ks → DpAll K G (ks.map fun x => V.ref x.2) ((ks.map (·.1)).map stD)
  | [], _ => .nil
  | x :: r, h => .cons (h x List.mem_cons_self) (ks_dpa fun y m => h y (List.mem_cons_of_mem _ m))
theorem map_get {α β : Type} {f : α → Option β} {xs : List α} {ys : List β} (h : xs.map f = ys.map some) {i : Nat} {x : α} (hx : xs[i]? = some x) : ∃ y, ys[i]? = some y ∧ f x = some y := by
  have h1 : (xs.map f)[i]? = some (f x) := by rw [List.getElem?_map, hx]; rfl
  rw [h, List.getElem?_map] at h1
  cases q : ys[i]? with
  | none =>
    rw [q] at h1
    cases h1
  | some y =>
    rw [q] at h1
    exact ⟨y, rfl, (Option.some.inj h1).symm⟩
theorem nodup_take {α : Type} {ys : List α} (h : ys.Nodup) {i : Nat} {y : α} (hy : ys[i]? = some y) : y ∉ ys.take i := by
  intro m
  obtain ⟨j, hj⟩ := List.mem_iff_getElem?.mp m
  rw [List.getElem?_take] at hj
  split at hj
  · rename_i hlt
    have : j = i := (List.getElem?_inj (List.getElem?_eq_some_iff.mp hj).1 h).mp (hj.trans hy.symm)
    omega
  · cases hj
section
variable {P : Program} {w : World} {K : PySem.W.Frag} {mg : Str → Option Value} {base : Heap}
def spIsIntegerV (K : PySem.W.Frag) : Sp := fun vs H Q _ => ∃ v : V, vs = [v] ∧ ((NotI K H v ∧ Q (.bl false) H) ∨ ∃ n, v = .int n ∧ Q (.bl true) H)
theorem ok_isIntegerV {f : Addr} {fd : FuncData} (F : L2.Fun K "is_integer" "is_integer" sIsInteger f fd) (T : Bn mg) : FnOk P w K mg base CX0 1 f fd ["thing"] (spIsIntegerV K) := by
  refine F.ok scIsInteger (fun vs H Q E h => ?_) (fun cdv A outer s H vs Q E hr h => ?_)
  · obtain ⟨v, rfl, _⟩ := h
    rfl
  · obtain ⟨v, rfl, h⟩ := h
    refine ⟨_, pss_one (ps_ret (pe_and (pe_callB call_is1 (by rfl) T.isinstance boot_isinstance (pa_cons (pv 0) (pa_cons (pe_bltn (v := .ty "int") (by rfl) T.int boot_int rfl) pa_nil)))
      (pe_one (pe_not (pe_callB call_is1 (by rfl) T.isinstance boot_isinstance (pa_cons (pv 0) (pa_cons (pe_bltn (v := .ty "bool") (by rfl) T.bool boot_bool rfl) pa_nil))))))), ?_⟩
    rcases h with ⟨⟨t, bi, bb, h1, h2, h3, h4⟩, k⟩ | ⟨n, rfl, k⟩
    · refine ⟨_, rfl, v, _, _, .type "int", _, rfl, .ty _, h1 _ nt_le, h2, _, rfl, ?_⟩
      cases bi with
      | false => exact iteF k
      | true =>
        refine iteT ?_
        refine ⟨_, rfl, v, _, _, .type "bool", _, rfl, .ty _, h1 _ nt_le, h3, _, rfl, ?_⟩
        cases bb with
        | true => exact k
        | false => cases h4
    · refine ⟨_, rfl, _, _, _, .type "int", _, rfl, .ty _, ty_dp (d := .int n) (.int n), kd_int (.int n), _, rfl, ?_⟩
      refine iteT ?_
      exact ⟨_, rfl, _, _, _, .type "bool", _, rfl, .ty _, ty_dp (d := .int n) (.int n), kd_bool (.int n), _, rfl, k⟩
/-- steps in a row, read -/
inductive RdAll (K : PySem.W.Frag) (n : Int) (H : Hp) : List V → List St5 → Prop
  | nil : RdAll K n H [] []
  | cons {v : V} {d : PyData} {s : St5} {vs : List V} {ss : List St5} (h : Dp K H v d) (hr : rdStep n d = some s) (t : RdAll K n H vs ss) : RdAll K n H (v :: vs) (s :: ss)
theorem RdAll.ex {n : Int} {H H' : Hp} (e : Ex H H') : ∀ {vs : List V} {ss : List St5}, RdAll K n H vs ss → RdAll K n H' vs ss
  | _, _, .nil => .nil
  | _, _, .cons h hr t => .cons (dp_ex e _ _ h) hr (RdAll.ex e t)
theorem RdAll.len {n : Int} {H : Hp} : ∀ {vs : List V} {ss : List St5}, RdAll K n H vs ss → vs.length = ss.length
  | _, _, .nil => rfl
  | _, _, .cons _ _ t => by rw [List.length_cons, List.length_cons, RdAll.len t]
theorem RdAll.get {n : Int} {H : Hp} : ∀ {vs : List V} {ss : List St5} {i : Nat} {v : V}, RdAll K n H vs ss → vs[i]? = some v → ∃ d s, Dp K H v d ∧ rdStep n d = some s ∧ ss[i]? = some s
  | _, _, _, _, .nil, e => by simp at e
  | _, _, 0, _, .cons h hr t, e => by
    cases (Option.some.inj e)
    exact ⟨_, _, h, hr, rfl⟩
  | _, _, i + 1, _, .cons h hr t, e => RdAll.get (i := i) t e
/-- what read_steps is handed: no list; a list whose first bad one is at an index; good steps -/
def StArg (K : PySem.W.Frag) (n : Int) (H : Hp) (v : V) (Bad : Nat → Prop) (Good : List St5 → Prop) : Prop :=
  (Lk K H v false ∧ Bad 0) ∨ ∃ (a : Addr) (xs : List V) (ss : List St5), v = .ref a ∧ SqA K H a xs ∧ ss.Nodup ∧ ss.length ≤ 1000000 ∧
    ((RdAll K n H xs ss ∧ Good ss) ∨ ∃ (pre : List V) (z : V) (r : List V), xs = pre ++ z :: r ∧ RdAll K n H pre ss ∧ (RdNo K n H z ∨ ∃ d s, Dp K H z d ∧ rdStep n d = some s ∧ s ∈ ss) ∧ Bad ss.length)
theorem StArg.ex {n : Int} {H H' : Hp} {v : V} {B : Nat → Prop} {G : List St5 → Prop} (h : StArg K n H v B G) (e : Ex H H') : StArg K n H' v B G := by
  rcases h with ⟨h1, h2⟩ | ⟨a, xs, ss, h1, h2, h3, h4, h⟩
  · exact .inl ⟨h1.ex e, h2⟩
  · refine .inr ⟨a, xs, ss, h1, h2.ex e, h3, h4, h.imp (fun z => ⟨z.1.ex e, z.2⟩) ?_⟩
    rintro ⟨pre, z, r, h5, h6, h7, h8⟩
    exact ⟨pre, z, r, h5, h6.ex e, h7.imp (fun y => y.ex e) (fun ⟨d, s, y1, y2⟩ => ⟨d, s, dp_ex e _ _ y1, y2⟩), h8⟩
theorem StArg.imp {n : Int} {H : Hp} {v : V} {B B' : Nat → Prop} {G G' : List St5 → Prop} (h : StArg K n H v B G) (hb : ∀ i, B i → B' i) (hg : ∀ ss, G ss → G' ss) : StArg K n H v B' G' := by
  rcases h with ⟨h1, h2⟩ | ⟨a, xs, ss, h1, h2, h3, h4, h⟩
  · exact .inl ⟨h1, hb _ h2⟩
  · refine .inr ⟨a, xs, ss, h1, h2, h3, h4, h.imp (fun z => ⟨z.1, hg _ z.2⟩) ?_⟩
    rintro ⟨pre, z, r, h5, h6, h7, h8⟩
    exact ⟨pre, z, r, h5, h6, h7, hb _ h8⟩
def spReadSteps (K : PySem.W.Frag) (CB : Addr) : Sp := fun vs H Q E => ∃ (n : Int) (v : V), vs = [.int n, v] ∧ StArg K n H v (fun i => BadE CB "index" H (.int (i : Nat)) E)
  (fun ss => ∀ H' p ys, Ex H H' → H p = none → H' p = some (.lst ys) → DpAll K H' ys (ss.map stD) → Q (.ref p) H')
theorem scReadSteps : FnScope ["places", "things", "found", "index", "thing", "step"] ["places", "things"] (defScope sReadSteps) := ⟨rfl, rfl, rfl, by decide +kernel, rfl, by decide +kernel, by decide +kernel⟩
theorem ok_readSteps {f CB fI : Addr} {fd fdI : FuncData} (F : L2.Fun K "read_steps" "read_steps" sReadSteps f fd) (T : Bn mg) (TB : ExT K mg "BadSteps" "index" CB fI) (GI : FnOk P w K mg base CX0 1 fI fdI ["self", "index"] (spExI CB "index")) (bI : Binds K fdI ["self", "index"] [])
    (cR : C8.Cal P w K mg base 3 "read_step" (spReadStep K) []) (cL : C8.Cal P w K mg base 1 "is_list" (spIsList K) []) :
    FnOk P w K mg base (L2.CX P w) 4 f fd ["places", "things"] (spReadSteps K CB) := by
  refine F.okX scReadSteps (fun vs H Q E h => ?_) (fun cdv A outer s H vs Q E hr h => ?_)
  · obtain ⟨n, v, rfl, _⟩ := h
    rfl
  · obtain ⟨n, v, rfl, h⟩ := h
    have hun := hr.un
    have hu9 : (A.deeper (envOfC "read_steps" (defScope sReadSteps) s.heap.objs.size f cdv)).units + 9 < cLine := by omega
    refine ⟨_, pss_cons (ps_if (pt_not (pt_val (C8.pe_c cL hr (by decide) (by rfl) (pa_cons (pv 1) pa_nil))))
        (pss_one (ps_raise rfl (takes_of rfl rfl rfl rfl) (pmk_oex TB.ox TB.iC TB.tC GI (hr.mono (by decide)) bI .nil pass0 (by rfl) TB.gC (pa_cons pe_int pa_nil)))) pss_nil)
      (pss_cons (ps_set (i := 2) scReadSteps.nd rfl (Or.inl rfl) pe_snew)
      (pss_cons (ps_for (passes_of rfl) rfl (pi_enumA (by rfl) T.enumerate (pa_cons (pv 1) pa_nil)) (pg_tup (n := 2) rfl (pgs_cons (pg_name (i := 3) scReadSteps.nd rfl (Or.inl rfl)) (pgs_cons (pg_name (i := 4) scReadSteps.nd rfl (Or.inl rfl)) pgs_nil)))
        (pss_cons (ps_set (i := 5) scReadSteps.nd rfl (Or.inl rfl) (C8.pe_c cR hr (by decide) (by rfl) (pa_cons (pv 0) (pa_cons (pv 4) pa_nil))))
        (pss_cons (ps_if (PW.pt (pw_or (pt_cmp (pc_isN (pv 5))) (pw_or1 (pt_cmp (pc_sin hu9 (pv 5) (pv 2))))))
          (pss_one (ps_raise rfl (takes_of rfl rfl rfl rfl) (pmk_oex TB.ox TB.iC TB.tC GI (hr.mono (by decide)) bI .nil pass0 (by rfl) TB.gC (pa_cons (pv 3) pa_nil)))) pss_nil)
        (pss_one (ps_sput hu9 (pv 2) (pv 5) (by rfl))))))
      (pss_one (ps_ret (pe_callTy (call_list_sd (by rfl)) (by rfl) T.list boot_list (pa_cons (pv 2) pa_nil)))))), ?_⟩
    rcases h with ⟨hl, kb⟩ | ⟨a, xs, ss, rfl, hs, hnd, hsz, h⟩
    · refine ⟨_, rfl, v, false, rfl, hl, fun H1 e1 => ⟨_, rfl, iteT ?_⟩⟩
      exact ⟨by show 1 ≤ 1000; decide, raise_go (kb.ex e1)⟩
    obtain ⟨pre, r, rfl, hpre, hr0⟩ : ∃ (pre r : List V), xs = pre ++ r ∧ RdAll K n H pre ss ∧ ((r = [] ∧ ∀ H' p ys, Ex H H' → H p = none → H' p = some (.lst ys) → DpAll K H' ys (ss.map stD) → Q (.ref p) H') ∨
        ∃ (z : V) (r' : List V), r = z :: r' ∧ (RdNo K n H z ∨ ∃ d s, Dp K H z d ∧ rdStep n d = some s ∧ s ∈ ss) ∧ BadE CB "index" H (.int (ss.length : Nat)) E) := by
      rcases h with ⟨h1, h2⟩ | ⟨pre, z, r, h1, h2, h3, h4⟩
      · exact ⟨xs, [], (List.append_nil _).symm, h1, .inl ⟨rfl, h2⟩⟩
      · exact ⟨pre, z :: r, h1, h2, .inr ⟨z, r, rfl, h3, h4⟩⟩
    have hlen := hpre.len
    refine ⟨_, rfl, .ref a, true, rfl, lk_sq hs, fun H1 e1 => ⟨_, rfl, ?_⟩⟩
    refine iteF ?_
    refine fun p hp => ?_
    refine ⟨_, rfl, a, pre ++ r, rfl, for_enumA (K := K) (a := a) (xs := pre ++ r) (H0 := H) hs
      (fun i σ G => ∃ (x3 x4 x5 : Option V) (ks : List (St5 × Addr)), σ = [some (.int n), some (.ref a), some (.ref p), x3, x4, x5] ∧ Ex H1 G ∧ G p = some (SD P w p ks) ∧ KsOk K G ks ∧ ks.map (·.1) = ss.take i ∧ i ≤ ss.length) ?_ ?_ ?_ ?_⟩
    · exact ⟨none, none, none, [], rfl, Ex.new hp, upd_same, KsOk.nil, by rw [List.take_zero]; rfl, Nat.zero_le _⟩
    · rintro i σ G ⟨x3, x4, x5, ks, rfl, q1, _⟩
      exact e1.trans q1
    · rintro i x σ G T hx ⟨x3, x4, x5, ks, rfl, q1, q2, q3, q4, q5⟩ hT
      have eT := Ex.new (o := .tup [.int (i : Nat), x]) hT
      refine ⟨T, _, rfl, SqT.of upd_same, rfl, _, _, rfl, _, _, rfl, rfl, ?_⟩
      have hkl : ks.length ≤ 1000000 := by
        have := congrArg List.length q4
        rw [List.length_map, List.length_take] at this
        omega
      by_cases hlt : i < pre.length
      · rw [List.getElem?_append_left hlt] at hx
        obtain ⟨di, si, hxd, hrd, hsi⟩ := hpre.get hx
        refine ⟨_, rfl, _, rfl, n, x, rfl, .inr ⟨di, dp_ex (e1.trans (q1.trans eT)) _ _ hxd, fun G2 r eG2 hr2 => ?_⟩⟩
        rw [hrd] at hr2
        obtain ⟨b, c, rfl, _⟩ := stD_inv hr2
        have hp2 : G2 p = some (SD P w p ks) := eG2 _ _ (eT _ _ q2)
        have hk2 : KsOk K G2 ks := (q3.ex eT).ex eG2
        have hni : si ∉ ks.map (·.1) := by
          rw [q4]
          exact nodup_take hnd hsi
        refine ⟨_, rfl, _, rfl, ?_⟩
        refine iteF ?_
        refine ⟨_, rfl, _, rfl, _, ⟨p, ks, b, si, rfl, rfl, hp2, hk2, hr2, rfl⟩, _, rfl, ?_⟩
        rw [decide_eq_false hni]
        refine iteF ?_
        refine ⟨_, rfl, _, rfl, p, ks, b, si, rfl, rfl, hp2, hk2, hr2, hni, sz_m hkl, ?_⟩
        refine ⟨_, _, _, ks ++ [(si, b)], rfl, Ex.mut ((q1.trans eT).trans eG2) hp, upd_same, (ks_upd hp2 hk2).snoc (st_upd hp2 hr2), ?_, by omega⟩
        rw [List.map_append, q4, List.take_succ, hsi]
        rfl
      · have hie : i = pre.length := by omega
        rcases hr0 with ⟨rfl, _⟩ | ⟨z, r', rfl, hbad, kb⟩
        · rw [List.append_nil] at hx
          exact absurd (List.getElem?_eq_some_iff.mp hx).1 hlt
        · rw [hie, List.getElem?_append_right (Nat.le_refl _), Nat.sub_self] at hx
          cases (Option.some.inj hx)
          have il : i = ss.length := by omega
          subst il
          rcases hbad with hno | ⟨d, s', hzd, hrs, hms⟩
          · refine ⟨_, rfl, _, rfl, n, _, rfl, .inl ⟨hno.ex (e1.trans (q1.trans eT)), fun G2 eG2 => ?_⟩⟩
            refine ⟨_, rfl, _, rfl, iteT (iteT ?_)⟩
            exact ⟨_, rfl, by show 1 ≤ 1000; decide, raise_go (kb.ex (e1.trans (q1.trans (eT.trans eG2))))⟩
          · refine ⟨_, rfl, _, rfl, n, _, rfl, .inr ⟨d, dp_ex (e1.trans (q1.trans eT)) _ _ hzd, fun G2 r eG2 hr2 => ?_⟩⟩
            rw [hrs] at hr2
            obtain ⟨b, c, rfl, _⟩ := stD_inv hr2
            have hp2 : G2 p = some (SD P w p ks) := eG2 _ _ (eT _ _ q2)
            have hk2 : KsOk K G2 ks := (q3.ex eT).ex eG2
            have hmi : s' ∈ ks.map (·.1) := by
              rw [q4, List.take_length]
              exact hms
            refine ⟨_, rfl, _, rfl, ?_⟩
            refine iteF ?_
            refine ⟨_, rfl, _, rfl, _, ⟨p, ks, b, s', rfl, rfl, hp2, hk2, hr2, rfl⟩, _, rfl, ?_⟩
            rw [decide_eq_true hmi]
            refine iteT ?_
            exact ⟨_, rfl, by show 1 ≤ 1000; decide, raise_go (kb.ex (e1.trans (q1.trans (eT.trans eG2))))⟩
    · rintro σ G ⟨x3, x4, x5, ks, rfl, q1, q2, q3, q4, q5⟩
      have hrn : r = [] := by
        rw [List.length_append] at q5
        exact List.eq_nil_of_length_eq_zero (by omega)
      subst hrn
      rcases hr0 with ⟨_, k⟩ | ⟨z, r', h0, _⟩
      · rw [List.append_nil, hlen, List.take_length] at q4
        refine ⟨_, rfl, p, ks, rfl, q2, q3, fun l hl2 => ?_⟩
        have e2 := e1.trans q1
        refine k _ l _ (e2.trans (Ex.new hl2)) (fresh_back e2 hl2) upd_same ?_
        have q5 := ks_dpa (q3.ex (Ex.new (o := .lst (ks.map fun x => V.ref x.2)) hl2))
        rw [q4] at q5
        exact q5
      · cases h0
end
end AA

set_option Elab.async false
set_option linter.all false
set_option maxRecDepth 100000
set_option maxHeartbeats 4000000
/-! The class of webs. -/
namespace AA
open PySem PySem.Spec PyProof.Rows L2 Evl
theorem nps_ : ¬ (("_places" : Str) = "_steps") := by decide +kernel
theorem npk_ : ¬ (("_places" : Str) = "known") := by decide +kernel
theorem nsk_ : ¬ (("_steps" : Str) = "known") := by decide +kernel
def wf (n : Int) (l kd : Addr) : List (Str × V) := putF "known" (.ref kd) (putF "_steps" (.ref l) (putF "_places" (.int n) []))
theorem wf_places (n : Int) (l kd : Addr) : (wf n l kd).lookup ("_places" : Str) = some (.int n) := by
  unfold wf
  rw [lookup_putF, if_neg npk_, lookup_putF, if_neg nps_, lookup_putF, if_pos rfl]
theorem wf_steps (n : Int) (l kd : Addr) : (wf n l kd).lookup ("_steps" : Str) = some (.ref l) := by
  unfold wf
  rw [lookup_putF, if_neg nsk_, lookup_putF, if_pos rfl]
theorem wf_known (n : Int) (l kd : Addr) : (wf n l kd).lookup ("known" : Str) = some (.ref kd) := by
  unfold wf
  rw [lookup_putF, if_pos rfl]
theorem wf_no (n : Int) (l kd : Addr) {m : Str} (h1 : ¬ m = "_steps") (h2 : ¬ m = "_places") (h3 : ¬ m = "known") : (wf n l kd).lookup m = none := by
  unfold wf
  rw [lookup_putF, if_neg h3, lookup_putF, if_neg h1, lookup_putF, if_neg h2]
  all_goals rfl
/-- a web stands at x: n places, the steps ss in some list -/
def WebAt (K : PySem.W.Frag) (C : Addr) (H : Hp) (x : Addr) (n : Int) (ss : List St5) : Prop := ∃ (dx l kd : Addr) (ys : List V), H x = some (.ins C dx (wf n l kd)) ∧ H l = some (.lst ys) ∧ DpAll K H ys (ss.map stD)
theorem WebAt.ex {K : PySem.W.Frag} {C : Addr} {H H' : Hp} {x : Addr} {n : Int} {ss : List St5} (h : WebAt K C H x n ss) (e : Ex H H') : WebAt K C H' x n ss := by
  obtain ⟨dx, l, kd, ys, h1, h2, h3⟩ := h
  exact ⟨dx, l, kd, ys, e _ _ h1, e _ _ h2, dpa_ex e _ _ h3⟩
/-- what the top has written of the class -/
structure WebTxt (K : PySem.W.Frag) (mg : Str → Option Value) (C : Addr) : Prop where
  cl : Cls K C
  nP : NoAttr K C "_places"
  nS : NoAttr K C "_steps"
  nK : NoAttr K C "known"
  mgC : mg "Web" = some (.ref C)
theorem sqt_upd2 {K : PySem.W.Frag} {G : Hp} {p a : Addr} {o : HO} {xs : List V} (hp : ∀ xs u, G p ≠ some (.tup xs) ∧ G p ≠ some (.frz u (.tup xs))) (h : SqT K G a xs) : SqT K (upd G p o) a xs := by
  rcases h with h | h
  · refine .inl ?_
    rcases h with h | ⟨u, h⟩
    · exact .inl (by rw [upd_ne (fun z => (hp xs { cls := .none, data := .fields #[] }).1 (by rw [← z]; exact h))]; exact h)
    · exact .inr ⟨u, by rw [upd_ne (fun z => (hp xs u).2 (by rw [← z]; exact h))]; exact h⟩
  · exact .inr h
theorem sts_upd {K : PySem.W.Frag} {G : Hp} {p : Addr} {o : HO} (hp : ∀ xs u, G p ≠ some (.tup xs) ∧ G p ≠ some (.frz u (.tup xs))) : ∀ {vs : List V} {ss : List St5}, DpAll K G vs (ss.map stD) → DpAll K (upd G p o) vs (ss.map stD)
  | [], [], _ => .nil
  | v :: vs, s :: ss, h => by
    cases h with
    | cons h1 h2 =>
      obtain ⟨t, u, rfl, h3, h4⟩ := stD_inv h1
      exact .cons (stD_mk (sqt_upd2 hp h3) (sqt_upd2 hp h4)) (sts_upd hp h2)
  | [], _ :: _, h => by cases h
  | _ :: _, [], h => by cases h
theorem hid_up {H : Hp} {x : Addr} {o : HO} : Ex (hid x x H) (upd H x o) := fun z u h => by
  obtain ⟨h1, h2, _⟩ := hid_some h
  rw [upd_ne h2]
  exact h1
theorem hid_up2 {H H' : Hp} {x : Addr} {o : HO} (e : Ex (hid x x H) H') : Ex (hid x x H) (upd H' x o) := fun z u h => by
  rw [upd_ne (hid_some h).2.1]
  exact e _ _ h
section
variable {P : Program} {w : World} {K : PySem.W.Frag} {mg : Str → Option Value} {base : Heap}
/-- what Web is made of -/
def WbArg (K : PySem.W.Frag) (H : Hp) (v u : V) (BadP : Prop) (BadS : Nat → Prop) (Good : Int → List St5 → Prop) : Prop :=
  ((NotI K H v ∨ ∃ n, v = .int n ∧ n < 1) ∧ BadP) ∨ ∃ n, v = .int n ∧ 1 ≤ n ∧ StArg K n H u BadS (Good n)
theorem WbArg.ex {H H' : Hp} {v u : V} {B : Prop} {S : Nat → Prop} {G : Int → List St5 → Prop} (h : WbArg K H v u B S G) (e : Ex H H') : WbArg K H' v u B S G :=
  h.imp (fun z => ⟨z.1.imp (fun y => y.ex e) id, z.2⟩) (fun ⟨n, z1, z2, z3⟩ => ⟨n, z1, z2, z3.ex e⟩)
theorem WbArg.imp {H : Hp} {v u : V} {B B' : Prop} {S S' : Nat → Prop} {G G' : Int → List St5 → Prop} (h : WbArg K H v u B S G) (hb : B → B') (hs : ∀ i, S i → S' i) (hg : ∀ n ss, G n ss → G' n ss) : WbArg K H v u B' S' G' :=
  Or.imp (fun z => ⟨z.1, hb z.2⟩) (fun ⟨n, z1, z2, z3⟩ => ⟨n, z1, z2, z3.imp hs (hg n)⟩) h
def spWebInit (K : PySem.W.Frag) (C CP CS : Addr) : Sp := fun vs H Q E => ∃ (x dx : Addr) (v u : V), vs = [.ref x, v, u] ∧ H x = some (.ins C dx []) ∧
  WbArg K (hid x x H) v u (BadE CP "places" (hid x x H) v E) (fun i => BadE CS "index" (hid x x H) (.int (i : Nat)) E)
    (fun n ss => ∀ (H' : Hp) (ts : List St5) (dy l kd : Addr) (ys : List V), Ex (hid x x H) H' → H' x = some (.ins C dy (wf n l kd)) → H l = none → H' l = some (.lst ys) → DpAll K H' ys (ts.map stD) → ts.Perm ss → SrS ts → Q .non H')
theorem scWebInit : FnScope ["self", "places", "steps"] ["self", "places", "steps"] (defScope sWebInit) := ⟨rfl, rfl, rfl, by decide +kernel, rfl, by decide +kernel, by decide +kernel⟩
theorem ok_webInit {f C CP CS fP fS fR : Addr} {fd fdP fdR : FuncData} (F : L2.Fun K "__init__" "Web.__init__" sWebInit f fd) (B : Bn mg) (T : WebTxt K mg C) (TP : ExT K mg "BadPlaces" "places" CP fP) (GP : FnOk P w K mg base CX0 1 fP fdP ["self", "places"] (spExI CP "places")) (bP : Binds K fdP ["self", "places"] [])
    (cI : C8.Cal P w K mg base 1 "is_integer" (spIsIntegerV K) []) (GR : FnOk P w K mg base (L2.CX P w) 4 fR fdR ["places", "things"] (spReadSteps K CS)) (mR : mg "read_steps" = some (.ref fR)) (kR : PySem.W.keepIn K (.ref fR) = true) (bR : Binds K fdR ["places", "things"] []) :
    FnOk P w K mg base (L2.CX P w) 5 f fd ["self", "places", "steps"] (spWebInit K C CP CS) := by
  refine F.okX scWebInit (fun vs H Q E h => ?_) (fun cdv A outer s H vs Q E hr h => ?_)
  · obtain ⟨x, dx, v, u, rfl, _⟩ := h
    rfl
  · obtain ⟨x, dx, v, u, rfl, hx, h⟩ := h
    refine ⟨_, pss_cons (ps_if (PW.pt (pw_or (pt_not (pt_val (C8.pe_c cI hr (by decide) (by rfl) (pa_cons (pv 1) pa_nil)))) (pw_or1 (pt_cmpR op_lt (pv 1) pe_int (nomark _)))))
        (pss_one (ps_raise rfl (takes_of rfl rfl rfl rfl) (pmk_oex TP.ox TP.iC TP.tC GP (hr.mono (by decide)) bP .nil pass0 (by rfl) TP.gC (pa_cons (pv 1) pa_nil)))) pss_nil)
      (pss_cons (ps_fld (pv 0) (pv 1) rfl)
      (pss_cons (ps_fld (pv 0) (pe_callB (cr_sortSt hr) (by rfl) B.sorted boot_sorted (pa_cons (pe_callS (E := WE fun cls d _ H => E cls d H) GR (hr.mono (by decide)) (by rfl) mR kR bR (fun σ => passAt (takes_of rfl rfl rfl rfl) σ) (pa_cons (pv 1) (pa_cons (pv 2) pa_nil))) pa_nil)) rfl)
      (pss_one (ps_fld (pv 0) pe_dnewK rfl)))), ?_⟩
    rcases h with ⟨hb, kb⟩ | ⟨n, rfl, hn, hst⟩
    · have kb' := kb.ex (hid_ex (H := H))
      rcases hb with hni | ⟨n, rfl, hn⟩
      · refine ⟨_, rfl, v, rfl, .inl ⟨hni.ex hid_ex, ⟨_, rfl, iteT (iteT ?_)⟩⟩⟩
        exact ⟨_, rfl, by show 1 ≤ 1000; decide, raise_go kb'⟩
      · refine ⟨_, rfl, .int n, rfl, .inr ⟨n, rfl, ⟨_, rfl, iteF ?_⟩⟩⟩
        refine ⟨_, rfl, _, _, rfl, rfl, _, rfl, ?_⟩
        refine dec_ite (fun z => ?_) (fun z => ?_)
        · exact ⟨_, rfl, by show 1 ≤ 1000; decide, raise_go kb'⟩
        · omega
    refine ⟨_, rfl, .int n, rfl, .inr ⟨n, rfl, ⟨_, rfl, iteF ?_⟩⟩⟩
    refine ⟨_, rfl, _, _, rfl, rfl, _, rfl, ?_⟩
    refine dec_ite (fun z => ?_) (fun _ => ?_)
    · omega
    refine ⟨_, rfl, _, rfl, x, C, dx, _, rfl, hx, T.cl, T.nP, by show 0 < 1000; decide, ?_⟩
    refine ⟨_, rfl, _, rfl, n, u, rfl, (hst.ex hid_up).imp (fun i z => z.ex hid_up) (fun ss k H1 p ys e1 hp0 hp hys => ?_)⟩
    refine ⟨p, ys, ss, rfl, SqL.of hp, hys, fun zs ts l hz hts hD hso hl2 => ?_⟩
    have hx1 : H1 x = some (.ins C dx (putF "_places" (.int n) [])) := e1 _ _ upd_same
    have hxl : x ≠ l := ne_of_none hx1 hl2
    refine ⟨_, rfl, x, C, dx, _, rfl, by rw [upd_ne hxl]; exact hx1, T.cl, T.nS, by show 1 < 1000; decide, ?_⟩
    have hD1 := dpa_ex (Ex.new (o := .lst zs) hl2) _ _ hD
    have e1' : Ex (hid x x H) (upd H1 l (.lst zs)) := (hid_up.trans e1).trans (Ex.new hl2)
    have hx2 : upd H1 l (.lst zs) x = some (.ins C dx (putF "_places" (.int n) [])) := by
      rw [upd_ne hxl]
      exact hx1
    have hl3 : upd H1 l (.lst zs) l = some (.lst zs) := upd_same
    have l0 : H l = none := by
      have := fresh_back e1 hl2
      rw [upd_ne hxl.symm] at this
      exact this
    generalize upd H1 l (.lst zs) = G1 at *
    have hnt : ∀ (f : List (Str × V)) (G : Hp), G x = some (.ins C dx f) → ∀ (xs : List V) (u : Obj), G x ≠ some (.tup xs) ∧ G x ≠ some (.frz u (.tup xs)) := fun f G hG xs u => by
      rw [hG]
      exact ⟨(fun z => nomatch z), (fun z => nomatch z)⟩
    intro kd hkd
    have hkx : x ≠ kd := fun z => by
      rw [← z, upd_same] at hkd
      cases hkd
    have hkl : l ≠ kd := fun z => by
      rw [← z, upd_ne hxl.symm, hl3] at hkd
      cases hkd
    refine ⟨_, rfl, x, C, dx, _, rfl, by rw [upd_ne hkx]; exact upd_same, T.cl, T.nK, by show 2 < 1000; decide, ?_⟩
    refine k _ ts dx l kd zs (hid_up2 ((hid_up2 e1').trans (Ex.new hkd))) upd_same l0 ?_ ?_ hts hso
    · rw [upd_ne hxl.symm, upd_ne hkl, upd_ne hxl.symm]
      exact hl3
    · have hx3 : ∀ o : HO, upd (upd G1 x (.ins C dx (putF "_steps" (.ref l) (putF "_places" (.int n) [])))) kd o x = some (.ins C dx (putF "_steps" (.ref l) (putF "_places" (.int n) []))) := fun o => by
        rw [upd_ne hkx]
        exact upd_same
      exact sts_upd (hnt _ _ (hx3 _)) (dpa_ex (Ex.new hkd) _ _ (sts_upd (hnt _ _ hx2) hD1))
def spPlaces (K : PySem.W.Frag) (C : Addr) : Sp := fun vs H Q _ => ∃ (x : Addr) (n : Int) (ss : List St5), vs = [.ref x] ∧ WebAt K C H x n ss ∧ Q (.int n) H
theorem scPlaces : FnScope ["self"] ["self"] (defScope sWebPlaces) := ⟨rfl, rfl, rfl, by decide +kernel, rfl, by decide +kernel, by decide +kernel⟩
theorem ok_places {f C : Addr} {fd : FuncData} (F : L2.Fun K "places" "Web.places" sWebPlaces f fd) (T : WebTxt K mg C) : FnOk P w K mg base CX0 1 f fd ["self"] (spPlaces K C) := by
  refine F.ok scPlaces (fun vs H Q E h => ?_) (fun cdv A outer s H vs Q E hr h => ?_)
  · obtain ⟨x, n, ss, rfl, _⟩ := h
    rfl
  · obtain ⟨x, n, ss, rfl, ⟨dx, l, kd, ys, h1, h2, h3⟩, k⟩ := h
    exact ⟨_, pss_one (ps_ret (pe_fld (pv 0) rfl)), _, rfl, x, C, dx, _, _, rfl, h1, T.cl, T.nP, wf_places _ _ _, k⟩
def spSteps (K : PySem.W.Frag) (C : Addr) : Sp := fun vs H Q _ => ∃ (x : Addr) (n : Int) (ss : List St5), vs = [.ref x] ∧ WebAt K C H x n ss ∧ ∀ p ys, H p = none → DpAll K H ys (ss.map stD) → Q (.ref p) (upd H p (.lst ys))
theorem scSteps : FnScope ["self"] ["self"] (defScope sWebSteps) := ⟨rfl, rfl, rfl, by decide +kernel, rfl, by decide +kernel, by decide +kernel⟩
theorem ok_steps {f C : Addr} {fd : FuncData} (F : L2.Fun K "steps" "Web.steps" sWebSteps f fd) (B : Bn mg) (T : WebTxt K mg C) : FnOk P w K mg base CX0 1 f fd ["self"] (spSteps K C) := by
  refine F.ok scSteps (fun vs H Q E h => ?_) (fun cdv A outer s H vs Q E hr h => ?_)
  · obtain ⟨x, n, ss, rfl, _⟩ := h
    rfl
  · obtain ⟨x, n, ss, rfl, ⟨dx, l, kd, ys, h1, h2, h3⟩, k⟩ := h
    refine ⟨_, pss_one (ps_ret (pe_callTy call_list_of (by rfl) B.list boot_list (pa_cons (pe_fld (pv 0) rfl) pa_nil))), ?_⟩
    exact ⟨_, rfl, x, C, dx, _, _, rfl, h1, T.cl, T.nS, wf_steps _ _ _, l, ys, rfl, .inl (SqL.of h2), fun p hp => k p ys hp h3⟩
/-- webs beside one another -/
theorem sts_eqv : ∀ ss ts : List St5, PyData.eqvAll (ss.map stD) (ts.map stD) = decide (ss = ts)
  | [], [] => rfl
  | [], _ :: _ => rfl
  | _ :: _, [] => rfl
  | s :: r, t :: q => by
    show (PyData.eqv (stD s) (stD t) && PyData.eqvAll (r.map stD) (q.map stD)) = decide (s :: r = t :: q)
    rw [stD_eqv, sts_eqv r q, Bool.eq_iff_iff]
    simp
def spEqV (K : PySem.W.Frag) (C : Addr) : Sp := fun vs H Q _ => ∃ (x : Addr) (v : V) (n : Int) (ss : List St5), vs = [.ref x, v] ∧ WebAt K C H x n ss ∧
  ((∃ t : Value, TyF K H v t ∧ PySem.W.kitOne K t (.ref C) = some false ∧ Q (.bl false) H) ∨ ∃ (y : Addr) (m : Int) (ts : List St5), v = .ref y ∧ WebAt K C H y m ts ∧ ∀ H', Ext H H' → Q (.bl (decide (n = m) && decide (ss = ts))) H')
theorem scWebEq : FnScope ["self", "other"] ["self", "other"] (defScope sWebEq) := ⟨rfl, rfl, rfl, by decide +kernel, rfl, by decide +kernel, by decide +kernel⟩
theorem ok_webEqV {f C : Addr} {fd : FuncData} (F : L2.Fun K "__eq__" "Web.__eq__" sWebEq f fd) (B : Bn mg) (T : WebTxt K mg C) (IC : InsK K C) (hC : PySem.W.kitOne K (.ref C) (.ref C) = some true) : FnOk P w K mg base CX0 1 f fd ["self", "other"] (spEqV K C) := by
  refine F.ok scWebEq (fun vs H Q E h => ?_) (fun cdv A outer s H vs Q E hr h => ?_)
  · obtain ⟨x, v, n, ss, rfl, _⟩ := h
    rfl
  · obtain ⟨x, v, n, ss, rfl, ⟨dx, l, kd, ys, h1, h2, h3⟩, h⟩ := h
    refine ⟨_, pss_one (ps_ret (pe_and (pe_callB call_is1 (by rfl) B.isinstance boot_isinstance (pa_cons (pv 1) (pa_cons (pe_glob (v := .ref C) (by rfl) T.mgC rfl) pa_nil)))
      (pe_and (pe_cmpR op_eq (pe_fld (pv 0) rfl) (pe_fld (pv 1) rfl) (nomark _)) (pe_one (pe_cmpR (op_eqD hr.units) (pe_fld (pv 0) rfl) (pe_fld (pv 1) rfl) (nomark _)))))), ?_⟩
    rcases h with ⟨t, ht, hk, k⟩ | ⟨y, m, ts, rfl, ⟨dy, l2, kd2, ys2, g1, g2, g3⟩, k⟩
    · exact ⟨_, rfl, v, _, t, .ref C, false, rfl, .own C, ht, hk, false, rfl, iteF k⟩
    · refine ⟨_, rfl, .ref y, _, .ref C, .ref C, true, rfl, .own C, .inl (.base (.ins g1 IC.cl IC.ha IC.hn IC.ht IC.hm)), hC, true, rfl, ?_⟩
      refine iteT ?_
      refine ⟨_, rfl, x, C, dx, _, _, rfl, h1, T.cl, T.nP, wf_places _ _ _, _, rfl, y, C, dy, _, _, rfl, g1, T.cl, T.nP, wf_places _ _ _, rfl, _, rfl, ?_⟩
      have k0 := k H Ext.rfl'
      by_cases hnm : n = m
      · rw [decide_eq_true hnm] at k0
        rw [decide_eq_true (by rw [hnm])]
        refine iteT ?_
        refine ⟨_, rfl, x, C, dx, _, _, rfl, h1, T.cl, T.nS, wf_steps _ _ _, _, rfl, y, C, dy, _, _, rfl, g1, T.cl, T.nS, wf_steps _ _ _, ?_⟩
        have hD : Dp K H (.ref l) (.list (ss.map stD)) := .lst (SqL.of h2) h3
        have hD2 : Dp K H (.ref l2) (.list (ts.map stD)) := .lst (SqL.of g2) g3
        refine ⟨_, _, hD, hD2, stDs_shaped ss, stDs_shaped ts, ?_⟩
        rw [show PyData.eqv (.list (ss.map stD)) (.list (ts.map stD)) = decide (ss = ts) from sts_eqv ss ts]
        exact k0
      · rw [decide_eq_false hnm] at k0
        rw [decide_eq_false (fun z => hnm (V.int.inj z))]
        exact iteF k0
end
end AA

set_option Elab.async false
set_option linter.all false
set_option maxRecDepth 100000
set_option maxHeartbeats 4000000
/-! An own class's == and != with a thing of any kind. -/
namespace AA
open PySem PySem.Spec PyProof.Rows L2 Evl
/-- the type of a thing -/
inductive Ty6 (H : Hp) : V → Value → Prop
  | non : Ty6 H .non (.type "NoneType")
  | int (i : Int) : Ty6 H (.int i) (.type "int")
  | str (x : Str) : Ty6 H (.str x) (.type "str")
  | lst {a : Addr} {xs : List V} (e : H a = some (.lst xs)) : Ty6 H (.ref a) (.type "list")
  | tup {a : Addr} {xs : List V} (e : H a = some (.tup xs)) : Ty6 H (.ref a) (.type "tuple")
  | dK {a : Addr} (e : H a = some (.dK [])) : Ty6 H (.ref a) (.type "dict")
  | ins {a C dx : Addr} {fs : List (Str × V)} (e : H a = some (.ins C dx fs)) : Ty6 H (.ref a) (.ref C)
theorem Ty6.ex {H H' : Hp} {v : V} {t : Value} (e : Ex H H') (h : Ty6 H v t) : Ty6 H' v t := by
  cases h with
  | non => exact .non
  | int i => exact .int i
  | str x => exact .str x
  | lst h => exact .lst (e _ _ h)
  | tup h => exact .tup (e _ _ h)
  | dK h => exact .dK (e _ _ h)
  | ins h => exact .ins (e _ _ h)
section
variable {X : Cx} {pins : List (Addr × Obj)} {σ : L2.St} {H : Hp} {s : Shared}
theorem ty6_looks {M : Model} {x : V} {u T : Value} (I : Inv X pins σ H s) (r : RelV x u) (t : Ty6 H x T) : PySem.W.Looks M s.heap (typeOf u) T := by
  cases t with
  | non =>
    cases (show u = Value.none from r)
    exact PySem.W.Looks.of_pure rfl
  | int i =>
    obtain ⟨t, rfl⟩ := (show ∃ t, u = Value.int i t from r)
    exact PySem.W.Looks.of_pure rfl
  | str x =>
    obtain ⟨t, rfl⟩ := (show ∃ t, u = Value.str x t from r)
    exact PySem.W.Looks.of_pure rfl
  | lst e =>
    cases (show u = Value.ref _ from r)
    obtain ⟨_, its, n, _, h1⟩ := (show ObjOk X.prog X.w H s.heap _ (.lst _) from I.hok _ _ e)
    exact fun A Q E s' k q => wpAny_typeOf_ref (k _ _ h1) q
  | tup e =>
    cases (show u = Value.ref _ from r)
    obtain ⟨_, its, _, ob, h1, h2, _⟩ := (show ObjOk X.prog X.w H s.heap _ (.tup _) from I.hok _ _ e)
    exact fun A Q E s' k q => wpAny_typeOf_ref (k _ _ h1) (by rw [h2]; exact q)
  | dK e =>
    cases (show u = Value.ref _ from r)
    obtain ⟨_, _, vs, _, o, es, ep, h1, h2, _⟩ := (show ObjOk X.prog X.w H s.heap _ (.dK []) from I.hok _ _ e)
    exact fun A Q E s' k q => wpAny_typeOf_ref (k _ _ h1) (by rw [h2.1]; exact q)
  | ins e =>
    cases (show u = Value.ref _ from r)
    obtain ⟨mA, J, _⟩ := ins_get I.hok e
    obtain ⟨od, J, _⟩ := J.look
    exact J.type
end
section
variable {prog : Program} {w : World} {A : Around} {E : Value → Shared → Prop} {s : Shared} {K : PySem.W.Frag} {x C f : Addr} {ox : Obj} {od : Option Obj}
theorem ifBoundB {M : Model} {name : Str} {id : String} {args : List Value} {Q : Option Value → Shared → Prop} (X : K.In s.heap) (I : PySem.W.InstAt s.heap x ox C od) (hs : PySem.W.findIn K (.ref C) name = some (some (.builtin id)))
    (hb : ∀ v, bindSpecial (.builtin id) v = pure (.builtin id, [v])) (h : wpAny M A (call (.builtin id) (.ref x :: args)) (fun v => Q (some v)) E s) : wpAny M A (callSpecialIfBound? (.ref x) name args) Q E s := by
  simp only [callSpecialIfBound?, bindSpecialIfBound?]
  refine wpAny_holding (wpAny_bind (wpAny_bind (wpAny_bind (I.type.here ((PySem.W.looks_findIn X hs).here ?_)))))
  refine wpAny_bind (wpAny_askSetting (wpAny_ite ?_))
  have fin : wpAny M A (call (.builtin id) ([.ref x] ++ args) >>= fun v => pure (some v)) Q E s := wpAny_bind (wpAny_mono h (fun v s' h' => wpAny_pure h') fun _ _ h' => h')
  split
  · exact wpAny_bind ((PySem.W.Looks.of_pure (hb _)).here (wpAny_pure (by exact fin)))
  · exact wpAny_tryCatch (wpAny_bind ((PySem.W.Looks.of_pure (hb _)).here (wpAny_pure (by exact fin))))
theorem ne_entry {b : Value} {Q : Fin → Shared → Prop} (X : K.In s.heap) (I : PySem.W.InstAt s.heap x ox C od) (hs : PySem.W.findIn K (.ref C) "__eq__" = some (some (.ref f))) (hf : PySem.W.isFn K (.ref f) = true) (hu : A.units < cLine)
    (hcall : wpAny (model prog w) A (call (.ref f) [.ref x, b]) (fun v s' => ∃ r, v = .bool r ∧ Q (.done (.ret (.bool (!r)))) s') E s) :
    wpAny (model prog w) A (Builtin.«object.__ne__» ⟨[.ref x, b], []⟩) Q E s := by
  unfold Builtin.«object.__ne__»
  repeat (first
    | with_reducible refine wpAny_cRoomFor hu ?_
    | (refine wpAny_bind (m := callSpecialIfBound? (.ref x) (Str.ofString "__eq__") [b])
        (PySem.W.ifBound_K X I hs hf (wpAny_mono hcall (fun v s' hr => by
          obtain ⟨r, rfl, hq⟩ := hr
          repeat (first | exact hq | exact wpAny_pure hq | exact wpAny_truthy_bool hq | (refine wpAny_bind (m := truthy (.bool _)) (wpAny_truthy_bool ?_)) | wp_step)) fun _ _ e => e)))
    | wp_step)
theorem ne_bind (v : Value) : bindSpecial (.builtin "object.__ne__") v = pure (.builtin "object.__ne__", [v]) := F.cmp_object.ne.bind v
/-- x != b where x's class has an own == -/
theorem cmpNe_K {h₀ : Heap} {L : Addr} {m : Str → Option Value} {b tb : Value} {Q : Value → Shared → Prop} (hu : A.units + 1 < cLine) (F : Fr h₀ L s.heap m) (X₀ : K.In h₀) (I : PySem.W.InstAt s.heap x ox C od) (hb : PySem.W.Looks (model prog w) s.heap (typeOf b) tb) (hn : PySem.W.notFirst K C tb = true)
    (hne : PySem.W.findIn K (.ref C) "__ne__" = some (some (.builtin "object.__ne__"))) (hs : PySem.W.findIn K (.ref C) "__eq__" = some (some (.ref f))) (hf : PySem.W.isFn K (.ref f) = true) (hm : PySem.W.mroIn K C (.type "object") = some true)
    (h : wpAny (model prog w) A.in1 (call (.ref f) [.ref x, b]) (fun v s' => ∃ r, v = .bool r ∧ Q (.bool (!r)) s') E s) : wpAny (model prog w) A (richCompare .NotEq (.ref x) b) Q E s := by
  have X := X₀.keeps F.keep
  have sub : PySem.W.Looks (model prog w) s.heap (isInstance (.ref x) (.type "object")) true := I.type.andThen (PySem.W.looks_mroIn X hm)
  have one : wpAny (model prog w) A (tryCompare (.ref x) (cmpInfo .NotEq).2.1 b) (fun r s' => ∃ v, r = some v ∧ Q v s') E s := by
    unfold tryCompare
    refine wpAny_bind (ifBoundB X I hne ne_bind (wpAny_call (codeAny_call_builtin PySem.F.cmp_object.ne.plain PySem.F.cmpEntry_ne
      (PySem.W.check_slot PySem.F.cmpKind_ne PySem.F.cmpSplit_ne sub (PySem.F.cmpArgs_ne _ _) (ne_entry (A := A.in1) X I hs hf hu (wpAny_mono h (fun v s' hv => ?_) fun _ _ e => e))))))
    obtain ⟨r, rfl, hq⟩ := hv
    first | exact ⟨r, rfl, wpAny_pure ⟨_, rfl, hq⟩⟩ | exact ⟨r, rfl, wpAny_pure (wpAny_pure ⟨_, rfl, hq⟩)⟩ | exact ⟨r, rfl, ⟨_, rfl, hq⟩⟩
  unfold richCompare
  simp only [oneThing_ref]
  refine wpAny_holding (wpAny_bind (wpAny_cRoomFor (Nat.lt_of_succ_lt hu) ?_))
  refine wpAny_bind (I.type.here (wpAny_bind (hb.here ?_)))
  split
  · rename_i q
    have e : PySem.W.subIn K tb (.ref C) = some false := by
      rcases Bool.or_eq_true_iff.mp hn with e | e
      · rw [beq_iff_eq.mp e] at q; simp at q
      · exact beq_iff_eq.mp e
    refine wpAny_bind ((PySem.W.looks_subIn X e).here ?_)
    simp only [Bool.false_eq_true, if_false]
    refine wpAny_bind (wpAny_mono one (fun r s' z => ?_) fun _ _ e => e)
    obtain ⟨v, rfl, hq⟩ := z
    exact wpAny_pure hq
  · refine wpAny_bind (wpAny_pure ?_)
    simp only [Bool.false_eq_true, if_false]
    refine wpAny_bind (wpAny_mono one (fun r s' z => ?_) fun _ _ e => e)
    obtain ⟨v, rfl, hq⟩ := z
    exact wpAny_pure hq
end
section
variable {X : Cx} {n : Nat} {C f : Addr} {fd : FuncData} {ps : List Str} {sp : Sp}
/-- x == y, x != y where x is an instance of C, whose own == keeps sp -/
def rCmpV (K : PySem.W.Frag) (C : Addr) (sp : Sp) (ng : Bool) : R2 := fun x y H Q => ∃ (a dx : Addr) (fs : List (Str × V)) (T : Value), x = .ref a ∧ H a = some (.ins C dx fs) ∧ Ty6 H y T ∧ PySem.W.notFirst K C T = true ∧ sp [x, y] H (fun v H' => ∃ r, v = .bl r ∧ Q (.bl (r ^^ ng)) H') E0
theorem run_eqV (F : FnOk X.prog X.w X.K X.mg X.base CX0 n f fd ps sp) (hb : Binds X.K fd ps []) {A : Around} {pins : List (Addr × Obj)} {s : Shared} {σ : L2.St} {H : Hp} {a : Addr} {y : V} {u : Value} {Q : Bool → Hp → Prop} (sb : Sub X n A) (I : Inv X pins σ H s) (ry : RelV y u)
    (hsp : sp [.ref a, y] H (fun v H' => ∃ r, v = .bl r ∧ Q r H') E0) : wpAny (model X.prog X.w) A (call (.ref f) [.ref a, u]) (fun v s' => ∃ r, v = .bool r ∧ ∃ H', Inv X pins σ H' s' ∧ Q r H') X.xe s := by
  have e0 : Env0 X.prog X.w X.K X.mg X.base A X.stack s H := by
    have e := I.env0
    exact ⟨by rw [sb.fr]; exact e.frames, e.mod, e.bs, e.bsz, e.funs, e.frf, e.hok, e.bare⟩
  have hl := F.len _ _ _ _ hsp
  have r2 : Vals [V.ref a, y] [Value.ref a, u] := .cons rfl (.cons ry .nil)
  refine wpAny_call (codeAny_mono (F.run A X.stack s H ⟨[.ref a, u], []⟩ [.ref a, u] [.ref a, y] _ E0 sb.room e0 (by
    have := hb s [.ref a, u] I.kIn (by simpa using hl)
    simpa using this) r2 hsp) fun r s' hq => ?_)
  cases r with
  | error e => exact (show False from hq).elim
  | ok fl =>
    cases fl with
    | ret w =>
      obtain ⟨z, H', I', rz, r, ez, ex⟩ := I.after hq
      subst ez
      cases rz
      exact ⟨r, rfl, H', I', ex⟩
    | next => exact False.elim hq
    | brk => exact False.elim hq
    | cont => exact False.elim hq
theorem op_eqV (F : FnOk X.prog X.w X.K X.mg X.base CX0 n f fd ps sp) (hb : Binds X.K fd ps []) (hs : PySem.W.findIn X.K (.ref C) "__eq__" = some (some (.ref f))) (hf : PySem.W.isFn X.K (.ref f) = true) (hr : Room n X.A) : OpR X (compareOp .Eq) (rCmpV X.K C sp false) := by
  intro pins s σ H x y v u Q I rx ry hq
  obtain ⟨a, dx, fs, T, rfl, ha, hT, hn, hsp⟩ := hq
  cases (show v = Value.ref a from rx)
  obtain ⟨mA, J, _⟩ := ins_get I.hok ha
  obtain ⟨od, J, _⟩ := J.look
  obtain ⟨m, hF⟩ := I.fr
  have sb : Sub X n X.A := ⟨hr, rfl⟩
  show wpAny (model X.prog X.w) X.A (richCompare .Eq (.ref a) u) (EP X pins σ Q) X.xe s
  refine PySem.W.cmp_K (op := .Eq) (tb := T) sb.room.units0 hF I.ok.mod.kin J (ty6_looks I ry hT) hn hs hf ?_
  refine wpAny_mono (run_eqV F hb sb I ry (Q := fun r H' => Q (.bl (r ^^ false)) H') hsp) (fun v s' hv => ?_) fun _ _ e => e
  obtain ⟨r, rfl, H', I', q⟩ := hv
  rw [Bool.xor_false] at q
  exact ⟨.bl r, H', I', rfl, q⟩
theorem op_neV (F : FnOk X.prog X.w X.K X.mg X.base CX0 n f fd ps sp) (hb : Binds X.K fd ps []) (hs : PySem.W.findIn X.K (.ref C) "__eq__" = some (some (.ref f))) (hf : PySem.W.isFn X.K (.ref f) = true)
    (hne : PySem.W.findIn X.K (.ref C) "__ne__" = some (some (.builtin "object.__ne__"))) (hm : PySem.W.mroIn X.K C (.type "object") = some true) (hr : Room (n + 1) X.A) : OpR X (compareOp .NotEq) (rCmpV X.K C sp true) := by
  intro pins s σ H x y v u Q I rx ry hq
  obtain ⟨a, dx, fs, T, rfl, ha, hT, hn, hsp⟩ := hq
  cases (show v = Value.ref a from rx)
  obtain ⟨mA, J, _⟩ := ins_get I.hok ha
  obtain ⟨od, J, _⟩ := J.look
  obtain ⟨m, hF⟩ := I.fr
  have sb : Sub X (n + 1) X.A := ⟨hr, rfl⟩
  have hun := hr.un
  show wpAny (model X.prog X.w) X.A (richCompare .NotEq (.ref a) u) (EP X pins σ Q) X.xe s
  refine cmpNe_K (tb := T) (by omega) hF I.ok.mod.kin J (ty6_looks I ry hT) hn hne hs hf hm ?_
  refine wpAny_mono (run_eqV F hb sb.in1 I ry (Q := fun r H' => Q (.bl (r ^^ true)) H') hsp) (fun v s' hv => ?_) fun _ _ e => e
  obtain ⟨r, rfl, H', I', q⟩ := hv
  rw [Bool.xor_true] at q
  exact ⟨r, rfl, .bl (!r), H', I', rfl, q⟩
end
end AA

set_option Elab.async false
set_option linter.all false
set_option maxRecDepth 100000
set_option maxHeartbeats 4000000
/-! xs[::-1]; name = {k: v for ..}; a walk over zip. -/
namespace AA
open PySem PySem.Spec PyProof.Rows L2 Evl
theorem vals_rev : ∀ {xs : List V} {us : List Value}, Vals xs us → Vals xs.reverse us.reverse
  | _, _, .nil => .nil
  | x :: xs, u :: us, .cons r t => by
    rw [List.reverse_cons, List.reverse_cons]
    exact (vals_rev t).append (.cons r .nil)
/-- xs[::-1] of a list -/
theorem pe_rev {X : Cx} {e st : Expr} {te ts : TE} {p2 pos : Pos} (he : PE X e te) (hst : PE X st ts) : PE X (.Subscript e (.Slice none none (some st) p2) pos)
    (fun σ H Q => te σ H fun x H1 => tPart ts σ H1 fun k H2 => k = some (-1) ∧ ∃ a xs, x = .ref a ∧ SqL X.K H2 a xs ∧ ∀ p, H2 p = none → Q (.ref p) (upd H2 p (.lst xs.reverse))) := by
  refine ⟨fun pins s σ H Q I h => ?_⟩
  refine Subscript_ (thn (he.run pins s σ H _ I h) fun v s1 ⟨x, H1, I1, r1, q1⟩ => ?_)
  refine wpAny_Slice (thn ((po_none (X := X)).run pins s1 σ H1 (fun l G => l = none ∧ tPart ts σ G fun k H2 => k = some (-1) ∧ ∃ a xs, x = .ref a ∧ SqL X.K H2 a xs ∧ ∀ p, H2 p = none → Q (.ref p) (upd H2 p (.lst xs.reverse))) I1 ⟨rfl, q1⟩) fun vl s2 ⟨l, H2, I2, pl, el, q2⟩ => thn ((po_none (X := X)).run pins s2 σ H2 (fun l G => l = none ∧ tPart ts σ G fun k H2 => k = some (-1) ∧ ∃ a xs, x = .ref a ∧ SqL X.K H2 a xs ∧ ∀ p, H2 p = none → Q (.ref p) (upd H2 p (.lst xs.reverse))) I2 ⟨rfl, q2⟩) fun vu s3 ⟨u, H3, I3, pu, eu, q3⟩ => thn ((po_some hst).run pins s3 σ H3 _ I3 q3) fun vk s4 ⟨k, H4, I4, pk, ek, q4⟩ => ?_)
  subst el eu ek
  obtain ⟨a, xs, rfl, hx, q⟩ := q4
  cases r1
  have I5 : Inv X pins σ H4 { s4 with heap := s4.heap.push { cls := .type "slice", data := .fields #[vl, vu, vk] } } := I4.kept (t' := s4.toks) fun b ob q => Heap.get?_push_of_some _ q
  obtain ⟨its, r, ht, hz⟩ := I5.list hx
  have hlen := r.length
  refine tail_any (ops := [.ref a, .ref s4.heap.objs.size]) ht.isList.typeIs slot_list_getitem.lookup ?_ (by with_unfolding_all rfl)
  refine wpAny_getItem_list_slice ht.isList (Heap.IsSliceOf.new ..) pl pu pk (by simp) ?_ (by rw [List.size_toArray] <;> omega)
  rw [PySem.W.krv_pick]
  refine ⟨.ref _, _, I5.laid (o := .lst xs.reverse) (fun b ob q => Heap.get?_push_of_some _ q) (Nat.le_refl _) ?_, rfl, q _ (I5.hok.fresh (Nat.le_refl _))⟩
  exact ⟨by rw [List.length_reverse]; exact hz, _, 0, vals_rev r, Heap.get?_push_size _ rfl⟩
theorem sw_trueD {k v : Expr} {gs : List Comprehension} {scope : Scope} {pos py : Pos} {y : Str} {l : Nat} {env : Env} (hk : env.scope.kind = .function) (hy : env.scope.names.lookup y = some .local) (hl : (py.line == pos.line) = true)
    (ha : (scope.names.any fun (n, k) => n == y && (k == .local || k == .cell)) = false) : swapsWith (.DictComp k v gs scope pos) (some (.Name y py)) l env = pure true := by
  have ky : env.kindOf y = some .local := hy
  have hb : env.blockKind = .function := by
    unfold Env.blockKind
    rw [hk]
    rfl
  unfold swapsWith
  simp only [hb, ky, ha, Expr.pos, hl]
  rfl
theorem ps_setDc {X : Cx} {i : Nat} {y : Str} {py : Pos} {kx vx tg iter : Expr} {ifs : List Expr} {scope : Scope} {own : List (Str × Nat)} {pos spos : Pos} {wi : TI} {g : TG} {tt : TT} {tk tv : TE} (hc : X.calm = true) (hN : X.N.Nodup) (hy : X.N[i]? = some y) (hyl : X.env.scope.names.lookup y = some .local)
    (hsw : swapsWith (.DictComp kx vx [⟨tg, iter, ifs, 0⟩] scope pos) (some (.Name y py)) spos.line X.env = pure true) (hi : PI X tg iter wi) (ok : BlkOk X.N X.env.scope scope own)
    (hg : ∀ (s : Shared) (H : Hp) (C : Addr) (cl : List (Str × Addr)) (fp : List Addr), PG (X.blk s H scope (compEnvC scope cl C X.env) fp) tg g) (ht : ∀ (s : Shared) (H : Hp) (C : Addr) (cl : List (Str × Addr)) (fp : List Addr), PTs (X.blk s H scope (compEnvC scope cl C X.env) fp) ifs tt)
    (hk : ∀ (s : Shared) (H : Hp) (C : Addr) (cl : List (Str × Addr)) (fp : List Addr), PE (X.blk s H scope (compEnvC scope cl C X.env) fp) kx tk)
    (he : ∀ (s : Shared) (H : Hp) (C : Addr) (cl : List (Str × Addr)) (fp : List Addr), PE (X.blk s H scope (compEnvC scope cl C X.env) fp) vx tv) (hs : ∀ x, foldedSetIterable iter X.env x = pure x := by intro _; rfl) :
    PS X (.Assign [.Name y py] (.DictComp kx vx [⟨tg, iter, ifs, 0⟩] scope pos) spos) (tAsg (tDc wi g tt tk tv (own.map (·.2))) (gName i)) := ⟨fun pins t σ G D I h => by
  rw [exec_Assign_Name_used _ _ _ _ hsw]
  refine wpAny_bind (wpAny_standAt (wpAny_bind ?_))
  show wpAny _ X.A (do let _ ← comprehension (.DictComp kx vx [⟨tg, iter, ifs, 0⟩] scope pos) scope X.env (firstIterPos [⟨tg, iter, ifs, 0⟩] pos) newDict false (eval iter X.env) (some (assign (.Name y py) X.env))) _ _ t
  have h : tDc wi g tt tk tv (own.map (·.2)) σ G (fun x G1 => gName i x σ G1 D.nx) := h
  refine wpAny_bind (thn (dc_core (Qf := fun _ s' => SP X pins D .next s') hc hN I hi ok hg ht hk he hs h fun L C s' m G' I' q hn f => ?_) fun _ s' hq => wpAny_pure (wpAny_pure hq))
  show wpAny _ _ (assign (.Name y py) X.env (.ref L)) _ _ _
  refine wpAny_assign_Name (store_ok2 (v := V.ref L) I' hN hy (.inl hyl) rfl (fun s2 I2 ⟨a, sb, ha⟩ => ?_) (.inr hyl))
  obtain ⟨f0, f1, f2, f3, f4, f5⟩ := f
  have haC : C ≠ a := ha.elim (fun z => by rw [z]; exact f1) (fun z e => f4 y a z e.symm)
  exact ⟨m, hn.sameBut sb haC, fun h3 sb3 => ⟨_, G', I2.turned (t' := s2.toks) (fun b o hb e => (sb3.2 b hb).trans e) f0 f1 f3 f4 f5, q⟩⟩⟩
theorem dc_list {K : PySem.W.Frag} {a : Addr} {xs : List V} {g : TG} {tt : TT} {tk tv : TE} {vs : List Nat} {σ : L2.St} {H1 : Hp} {D : Addr} {Qd : Hp → Prop} (Pv : Nat → Hp → Prop) (h0 : Pv 0 (upd H1 D (.dK []))) (hl : ∀ i H, i ≤ xs.length → Pv i H → SqL K H a xs)
    (hs : ∀ i x H, xs[i]? = some x → Pv i H → g x (wipe σ vs) H fun σ2 H2 => wipe σ2 vs = wipe σ vs ∧ tt σ2 H2 fun b H3 =>
      if b = true then tk σ2 H3 fun y H4 => tv σ2 H4 fun z H5 => ∃ kvs k, y = kV k ∧ H5 D = some (.dK kvs) ∧ kvs.length < sizeLine ∧ Pv (i + 1) (upd H5 D (.dK (putK kvs k z))) else Pv (i + 1) H3) (hd : ∀ H, Pv xs.length H → Qd H) :
    ∃ W : Nat → Nat → Hp → Prop, (∃ m, W 0 m (upd H1 D (.dK []))) ∧ ∀ i m H, W i m H →
      ((Itl K a).stop i H ∧ Qd H) ∨ ((Itl K a).go i H ∧ ∃ Nx : Hp → Prop, (∀ H', Nx H' → ∃ m', m' < m ∧ W (i + 1) m' H') ∧ ∀ x H', (Itl K a).yld i H x H' → g x (wipe σ vs) H' fun σ2 H2 => wipe σ2 vs = wipe σ vs ∧ tt σ2 H2 fun b H3 =>
        if b = true then tk σ2 H3 fun y H4 => tv σ2 H4 fun z H5 => ∃ kvs k, y = kV k ∧ H5 D = some (.dK kvs) ∧ kvs.length < sizeLine ∧ Nx (upd H5 D (.dK (putK kvs k z))) else Nx H3) := by
  refine ⟨fun i m H => m = xs.length - i ∧ i ≤ xs.length ∧ Pv i H, ⟨xs.length, by simp, Nat.zero_le _, h0⟩, ?_⟩
  rintro i m H ⟨rfl, hi, p⟩
  have q := hl i H hi p
  by_cases hlt : i < xs.length
  · refine .inr ⟨⟨xs, xs[i], q, by simp [hlt]⟩, Pv (i + 1), fun H' p' => ⟨xs.length - (i + 1), by omega, rfl, hlt, p'⟩, fun x H' y => ?_⟩
    obtain ⟨e, y⟩ := y
    subst e
    exact hs i x _ (y xs q) p
  · have e : i = xs.length := by omega
    subst e
    exact .inl ⟨⟨xs, q, Nat.le_refl _⟩, hd H p⟩
/-- a loop over zip of two lists -/
theorem for_zipL {K : PySem.W.Frag} {a b : Addr} {xs ys : List V} {g : TG} {tb : TS} {D : Ends} {σ : L2.St} {H : Hp} (hl : ys.length ≤ xs.length) (Pv : Nat → L2.St → Hp → Prop) (h0 : Pv 0 σ H) (hq : ∀ i σ H, Pv i σ H → SqL K H a xs ∧ SqL K H b ys)
    (hs : ∀ (i : Nat) (x y : V) (σ : L2.St) (H : Hp) (T : Addr), xs[i]? = some x → ys[i]? = some y → Pv i σ H → H T = none → g (.ref T) σ (upd H T (.tup [x, y])) fun σ2 H2 => tb { D with nx := Pv (i + 1), ct := Pv (i + 1), bk := D.nx } σ2 H2) (hd : ∀ σ H, Pv ys.length σ H → D.nx σ H) :
    ∃ W : Nat → Nat → L2.St → Hp → Prop, (∃ m, W 0 m σ H) ∧ ∀ i m σ H, W i m σ H →
      ((Itz K a b).stop i H ∧ D.nx σ H) ∨ ((Itz K a b).go i H ∧ ∃ N : L2.St → Hp → Prop, (∀ σ' H', N σ' H' → ∃ m', m' < m ∧ W (i + 1) m' σ' H') ∧ ∀ x H', (Itz K a b).yld i H x H' → g x σ H' fun σ2 H2 => tb { D with nx := N, ct := N, bk := D.nx } σ2 H2) := by
  refine ⟨fun i m σ H => m = ys.length - i ∧ i ≤ ys.length ∧ Pv i σ H, ⟨ys.length, by simp, Nat.zero_le _, h0⟩, ?_⟩
  rintro i m σ H ⟨rfl, hi, p⟩
  obtain ⟨q1, q2⟩ := hq i σ H p
  by_cases hlt : i < ys.length
  · have g2 : ys[i]? = some ys[i] := List.getElem?_eq_getElem hlt
    have g1 : xs[i]? = some (xs[i]'(by omega)) := List.getElem?_eq_getElem (by omega)
    refine .inr ⟨⟨xs, ys, _, _, q1, q2, g1, g2⟩, Pv (i + 1), fun σ' H' p' => ⟨ys.length - (i + 1), by omega, rfl, hlt, p'⟩, fun x H' y => ?_⟩
    obtain ⟨T, z1, z2, rfl, hT, rfl, f1, f2⟩ := y
    exact hs i z1 z2 σ H T (f1 _ q1) (f2 _ q2) p hT
  · have e : i = ys.length := by omega
    subst e
    exact .inl ⟨⟨xs, ys, q1, q2, .inr (Nat.le_refl _)⟩, hd σ H p⟩
theorem cut_mid (xs : List V) (i j : Nat) (h : i + j ≤ xs.length) : cutV xs (some (i : Int)) (some ((i : Int) + j)) = (xs.drop i).take j := by
  have e : ((i : Int) + j) = ((i + j : Nat) : Int) := by omega
  unfold cutV
  rw [e, HT.sIx_nat, HT.sIx_nat, Nat.min_eq_left h, Nat.min_eq_left (show i ≤ xs.length by omega)]
  congr 1
  omega
end AA

set_option Elab.async false
set_option linter.all false
set_option maxRecDepth 100000
set_option maxHeartbeats 4000000
/-! What the law's own looks lean on. -/
namespace AA
open PySem PySem.Spec PyProof.Rows L2 Evl
mutual
def dOk : PyData → Bool
  | .list xs => decide (xs.length ≤ 1000000) && dOkA xs
  | .tuple xs => decide (xs.length ≤ 1000000) && dOkA xs
  | .str z => PyData.strOk z
  | .dict _ => false
  | _ => true
def dOkA : List PyData → Bool
  | [] => true
  | x :: xs => dOk x && dOkA xs
end
mutual
theorem sm_two {K : PySem.W.Frag} {C : Addr} {R : Addr → Addr → Hp → Prop} {H : Hp} : ∀ (d : PyData) (v u : V) (n : Nat), Dp K H v d → Dp K H u d → dOk d = true → d.depth < n → Sm K C R H n v u
  | _, _, _, 0, _, _, _, h => absurd h (Nat.not_lt_zero _)
  | .none, v, u, n + 1, hd, he, _, _ => by
    cases hd
    cases he
    exact .inl ⟨rfl, rfl⟩
  | .bool b, v, u, n + 1, hd, he, _, _ => by
    cases hd
    cases he
    exact .inl ⟨rfl, rfl⟩
  | .int i, v, u, n + 1, hd, he, _, _ => by
    cases hd
    cases he
    exact .inl ⟨rfl, rfl⟩
  | .str z, v, u, n + 1, hd, he, ho, _ => by
    cases hd
    cases he
    exact .inl ⟨rfl, ho⟩
  | .list xs, v, u, n + 1, hd, he, ho, h => by
    cases hd with
    | lst h1 h2 =>
      cases he with
      | lst g1 g2 =>
        have ho' : (decide (xs.length ≤ 1000000) && dOkA xs) = true := ho
        rw [Bool.and_eq_true] at ho'
        have hl := dpa_len h2
        have hz := of_decide_eq_true ho'.1
        exact .inr (.inl ⟨_, _, _, _, rfl, rfl, h1, g1, sm_twoA xs _ _ n h2 g2 ho'.2 (Nat.lt_of_succ_lt_succ h), by omega⟩)
  | .tuple xs, v, u, n + 1, hd, he, ho, h => by
    cases hd with
    | tup h1 h2 =>
      cases he with
      | tup g1 g2 =>
        have ho' : (decide (xs.length ≤ 1000000) && dOkA xs) = true := ho
        rw [Bool.and_eq_true] at ho'
        have hl := dpa_len h2
        have hz := of_decide_eq_true ho'.1
        exact .inr (.inr (.inl ⟨_, _, _, _, rfl, rfl, h1, g1, sm_twoA xs _ _ n h2 g2 ho'.2 (Nat.lt_of_succ_lt_succ h), by omega⟩))
  | .dict _, v, u, n + 1, _, _, ho, _ => by cases ho
theorem sm_twoA {K : PySem.W.Frag} {C : Addr} {R : Addr → Addr → Hp → Prop} {H : Hp} : ∀ (ds : List PyData) (vs us : List V) (n : Nat), DpAll K H vs ds → DpAll K H us ds → dOkA ds = true → PyData.depthAll ds < n → Paired (Sm K C R H n) vs us
  | [], _, _, _, h, g, _, _ => by
    cases h
    cases g
    exact .nil
  | d :: ds, _, _, n, h, g, ho, hn => by
    cases h with
    | cons h1 h2 =>
      cases g with
      | cons g1 g2 =>
        have ho' : (dOk d && dOkA ds) = true := ho
        rw [Bool.and_eq_true] at ho'
        have hn' : max (PyData.depth d) (PyData.depthAll ds) < n := hn
        exact .cons (sm_two d _ _ n h1 g1 ho'.1 (by omega)) (sm_twoA ds _ _ n h2 g2 ho'.2 (by omega))
end
theorem tps_in {H : Hp} {a b : Addr} {m : Nat} (S : SAt H a b m) : Ex (tps H) (hid a b H) := fun x o h => by
  obtain ⟨h1, xs, rfl⟩ := tps_some h
  obtain ⟨ns, c1, c2, c3, ha, hb, _⟩ := S
  have xa : x ≠ a := fun z => by
    rw [z, ha] at h1
    cases h1
  have xb : x ≠ b := fun z => by
    rw [z, hb] at h1
    cases h1
  rw [hid_ne xa xb]
  exact h1
theorem rd_st {n : Int} {s : St5} (h : StOk n s) : rdStep n (stD s) = some s := by
  rw [rd_at (d := stD s) (c := .tuple [.int s.p, .int s.q]) rfl rfl, if_pos ⟨h.o0, h.o1, h.t0, h.t1, h.k⟩]
theorem lsa_two {i j : Int} {ys : List PyData} (h : LsA [.int i, .int j] ys) : ys = [.int i, .int j] := by
  cases h with
  | cons h1 h =>
    cases h with
    | cons h2 h =>
      cases h
      cases h1
      cases h2
      rfl
theorem ls_items {xs : List PyData} {d : PyData} (h : Ls (.tuple xs) d ∨ Ls (.list xs) d) : LsA xs (itemsD d) ∧ isListD d = true := by
  rcases h with h | h
  · cases h with
    | tl h => exact ⟨h, rfl⟩
    | tt h => exact ⟨h, rfl⟩
  · cases h with
    | ll h => exact ⟨h, rfl⟩
    | lt h => exact ⟨h, rfl⟩
theorem ls_step {n : Int} {s : St5} {d : PyData} (h : Ls (stD s) d) (o : StOk n s) : rdStep n d = some s := by
  obtain ⟨h1, _⟩ := ls_items (.inl (show Ls (.tuple [.int s.one, .int s.other, .tuple [.int s.p, .int s.q], .int s.ticks, .int s.change]) d from h))
  generalize hit : itemsD d = l at h1
  cases h1 with
  | cons a1 h1 =>
    cases h1 with
    | cons a2 h1 =>
      cases h1 with
      | cons a3 h1 =>
        cases h1 with
        | cons a4 h1 =>
          cases h1 with
          | cons a5 h1 =>
            cases h1
            cases a1
            cases a2
            cases a4
            cases a5
            obtain ⟨h2, _⟩ := ls_items (.inl a3)
            rw [rd_at hit (lsa_two h2), if_pos ⟨o.o0, o.o1, o.t0, o.t1, o.k⟩]
theorem ls_steps {n : Int} : ∀ {ws : List St5} {ds : List PyData}, LsA (ws.map stD) ds → (∀ s ∈ ws, StOk n s) → ds.map (rdStep n) = ws.map some
  | [], _, h, _ => by
    cases h
    rfl
  | s :: ws, _, h, o => by
    cases h with
    | cons h1 h2 =>
      rw [List.map_cons, List.map_cons, ls_step h1 (o s List.mem_cons_self), ls_steps h2 fun t ht => o t (List.mem_cons_of_mem _ ht)]
theorem rd_steps {n : Int} : ∀ {ws : List St5}, (∀ s ∈ ws, StOk n s) → (ws.map stD).map (rdStep n) = ws.map some
  | [], _ => rfl
  | s :: ws, o => by
    rw [List.map_cons, List.map_cons, List.map_cons, rd_st (o s List.mem_cons_self), rd_steps fun t ht => o t (List.mem_cons_of_mem _ ht)]
theorem all_sts : ∀ ws : List St5, allIA (ws.map stD) = true
  | [] => rfl
  | s :: ws => by
    show (allI (stD s) && allIA (ws.map stD)) = true
    rw [all_sts ws]
    rfl
theorem cut_from (xs : List V) (j : Nat) : cutV xs (some (j : Int)) none = xs.drop j := by
  unfold cutV
  rw [HT.sIx_none, HT.sIx_nat]
  by_cases h : j ≤ xs.length
  · rw [Nat.min_eq_left h, List.take_of_length_le (by rw [List.length_drop]; omega)]
  · rw [Nat.min_eq_right (by omega), Nat.sub_self, List.drop_of_length_le (by omega), List.take_nil]
    exact (List.drop_of_length_le (by omega)).symm
theorem dpa_take {K : PySem.W.Frag} {H : Hp} : ∀ {xs : List V} {ds : List PyData} (j : Nat), DpAll K H xs ds → DpAll K H (xs.take j) (ds.take j)
  | [], _, j, h => by
    cases h
    rw [List.take_nil, List.take_nil]
    exact .nil
  | x :: xs, _, 0, h => .nil
  | x :: xs, _, j + 1, h => by
    cases h with
    | cons h1 h2 => exact .cons h1 (dpa_take j h2)
theorem sqt_hid {G : Hp} {K : PySem.W.Frag} {a b t : Addr} {m : Nat} {xs : List V} (S : SAt G a b m) (h : SqT K G t xs) : SqT K (hid a b G) t xs := by
  obtain ⟨ns, c1, c2, c3, ha, hb, _⟩ := S
  rcases h with h | h
  · refine .inl ?_
    rcases h with h | ⟨u, h⟩
    · have xa : t ≠ a := fun z => by rw [z, ha] at h; cases h
      have xb : t ≠ b := fun z => by rw [z, hb] at h; cases h
      exact .inl (by rw [hid_ne xa xb]; exact h)
    · have xa : t ≠ a := fun z => by rw [z, ha] at h; cases h
      have xb : t ≠ b := fun z => by rw [z, hb] at h; cases h
      exact .inr ⟨u, by rw [hid_ne xa xb]; exact h⟩
  · exact .inr h
theorem sts_hid {G : Hp} {K : PySem.W.Frag} {a b : Addr} {m : Nat} (S : SAt G a b m) : ∀ {vs : List V} {ss : List St5}, DpAll K G vs (ss.map stD) → DpAll K (hid a b G) vs (ss.map stD)
  | [], [], _ => .nil
  | v :: vs, s :: ss, h => by
    cases h with
    | cons h1 h2 =>
      obtain ⟨t, u, rfl, h3, h4⟩ := stD_inv h1
      exact .cons (stD_mk (sqt_hid S h3) (sqt_hid S h4)) (sts_hid S h2)
  | [], _ :: _, h => by cases h
  | _ :: _, [], h => by cases h
theorem made_ex {H : Hp} {x dx : Addr} {o : HO} (nx : H x = none) (ndx : H dx = none) : Ex H (hid x x (upd (upd H dx (.own x)) x o)) := fun z u h => by
  have h1 : z ≠ x := ne_of_none h nx
  have h2 : z ≠ dx := ne_of_none h ndx
  rw [hid_ne h1 h1, upd_ne h1, upd_ne h2]
  exact h
theorem cnt_sts : ∀ ws : List St5, cntA (ws.map stD) = 8 * ws.length
  | [] => rfl
  | s :: ws => by
    show cnt (stD s) + cntA (ws.map stD) = 8 * (ws.length + 1)
    have e : cnt (stD s) = 8 := rfl
    rw [e, cnt_sts ws]
    omega
theorem dok_sts : ∀ ws : List St5, dOkA (ws.map stD) = true
  | [] => rfl
  | s :: ws => by
    show (dOk (stD s) && dOkA (ws.map stD)) = true
    rw [dok_sts ws]
    rfl
theorem stLt_tri {s t : St5} (h1 : stLt s t = false) (h2 : stLt t s = false) : s = t := by
  have a := stLt_no.mp h1
  have b := stLt_no.mp h2
  have e1 : s.one = t.one := by omega
  have e2 : s.other = t.other := by omega
  have e3 : s.p = t.p := by omega
  have e4 : s.q = t.q := by omega
  have e5 : s.ticks = t.ticks := by omega
  have e6 : s.change = t.change := by omega
  cases s
  cases t
  simp_all
/-- the same steps, both in order, are the same list -/
theorem srs_uniq : ∀ {ss ts : List St5}, SrS ss → SrS ts → ss.Perm ts → ss = ts
  | [], ts, _, _, p => (List.Perm.nil_eq p)
  | s :: ss, [], _, _, p => absurd p.length_eq (by simp)
  | s :: ss, t :: ts, h, g, p => by
    have h' := List.pairwise_cons.mp h
    have g' := List.pairwise_cons.mp g
    have e : s = t := by
      have m1 : s ∈ t :: ts := p.mem_iff.mp List.mem_cons_self
      have m2 : t ∈ s :: ss := p.mem_iff.mpr List.mem_cons_self
      rcases List.mem_cons.mp m1 with e | m1
      · exact e
      · rcases List.mem_cons.mp m2 with e | m2
        · exact e.symm
        · exact stLt_tri (g'.1 _ m1) (h'.1 _ m2)
    subst e
    rw [srs_uniq h'.2 g'.2 (List.Perm.cons_inv p)]
section
variable {K : PySem.W.Frag}
theorem rdall_of {n : Int} {H : Hp} : ∀ {vs : List V} {ds : List PyData} {ss : List St5}, DpAll K H vs ds → ds.map (rdStep n) = ss.map some → RdAll K n H vs ss
  | [], _, [], h, _ => .nil
  | [], _, _ :: _, h, e => by
    cases h
    cases e
  | v :: vs, _, [], h, e => by
    cases h
    cases e
  | v :: vs, _, s :: ss, h, e => by
    cases h with
    | cons h1 h2 =>
      rw [List.map_cons, List.map_cons] at e
      injection e with e1 e2
      exact .cons h1 e1 (rdall_of h2 e2)
theorem rdall_st {n : Int} {H : Hp} {vs : List V} {ss : List St5} (h : DpAll K H vs (ss.map stD)) (o : ∀ s ∈ ss, StOk n s) : RdAll K n H vs ss := rdall_of h (rd_steps o)
/-- a web, its list of steps at lw -/
def WebL (K : PySem.W.Frag) (C : Addr) (H : Hp) (x lw : Addr) (n : Int) (ss : List St5) : Prop := ∃ (dx kd : Addr) (ys : List V), H x = some (.ins C dx (wf n lw kd)) ∧ H lw = some (.lst ys) ∧ DpAll K H ys (ss.map stD)
theorem WebL.at {C : Addr} {H : Hp} {x lw : Addr} {n : Int} {ss : List St5} (h : WebL K C H x lw n ss) : WebAt K C H x n ss := let ⟨dx, kd, ys, h1, h2, h3⟩ := h; ⟨dx, lw, kd, ys, h1, h2, h3⟩
theorem WebL.ex {C : Addr} {H H' : Hp} {x lw : Addr} {n : Int} {ss : List St5} (h : WebL K C H x lw n ss) (e : Ex H H') : WebL K C H' x lw n ss := let ⟨dx, kd, ys, h1, h2, h3⟩ := h; ⟨dx, kd, ys, e _ _ h1, e _ _ h2, dpa_ex e _ _ h3⟩
theorem WebL.up {C p : Addr} {H : Hp} {x lw : Addr} {n : Int} {ss : List St5} {vs : List V} {o : HO} (h : WebL K C H x lw n ss) (hp : H p = some (.lst vs)) (hl : p ≠ lw) : WebL K C (upd H p o) x lw n ss := by
  obtain ⟨dx, kd, ys, h1, h2, h3⟩ := h
  have px : x ≠ p := fun z => by
    rw [z, hp] at h1
    cases h1
  have nt : ∀ (xs : List V) (u : Obj), H p ≠ some (.tup xs) ∧ H p ≠ some (.frz u (.tup xs)) := fun xs u => by
    rw [hp]
    exact ⟨(fun z => nomatch z), (fun z => nomatch z)⟩
  exact ⟨dx, kd, ys, by rw [upd_ne px]; exact h1, by rw [upd_ne hl.symm]; exact h2, sts_upd nt h3⟩
theorem nt_lst {G : Hp} {l : Addr} {vs : List V} (h : G l = some (.lst vs)) (xs : List V) (u : Obj) : G l ≠ some (.tup xs) ∧ G l ≠ some (.frz u (.tup xs)) := by
  rw [h]
  exact ⟨(fun z => nomatch z), (fun z => nomatch z)⟩
theorem sts_get {H : Hp} {ys : List V} {ss : List St5} {i : Nat} {y : V} (h : DpAll K H ys (ss.map stD)) (hy : ys[i]? = some y) : ∃ (t : St5) (b : Addr), ss[i]? = some t ∧ y = .ref b ∧ Dp K H (.ref b) (stD t) := by
  obtain ⟨d, h1, h2⟩ := dpa_get h hy
  rw [List.getElem?_map] at h1
  cases q : ss[i]? with
  | none =>
    rw [q] at h1
    cases h1
  | some t =>
    rw [q] at h1
    cases h1
    obtain ⟨b, c, e, _⟩ := stD_inv h2
    subst e
    exact ⟨t, b, rfl, rfl, h2⟩
theorem sts_len {H : Hp} {ys : List V} {ss : List St5} (h : DpAll K H ys (ss.map stD)) : ys.length = ss.length := by
  have := dpa_len h
  rw [List.length_map] at this
  exact this
/-- what a web that is made keeps -/
theorem made_web {C x dx lw kd dy : Addr} {H H3 : Hp} {n : Int} {ss : List St5} {ys : List V} (nx : H x = none) (ndx : H dx = none) (hw : Ex (hid x x (upd (upd H dx (.own x)) x (.ins C dx []))) H3) (fx : H3 x = some (.ins C dy (wf n lw kd))) (flw0 : upd (upd H dx (.own x)) x (.ins C dx []) lw = none) (flw : H3 lw = some (.lst ys)) (hys : DpAll K H3 ys (ss.map stD)) :
    Ex H H3 ∧ WebL K C H3 x lw n ss ∧ H lw = none := by
  have me := made_ex (o := .ins C dx []) nx ndx
  refine ⟨me.trans hw, ⟨dy, kd, ys, fx, flw, hys⟩, ?_⟩
  by_cases q1 : lw = x
  · rw [q1]
    exact nx
  · by_cases q2 : lw = dx
    · rw [q2]
      exact ndx
    · rw [upd_ne q1, upd_ne q2] at flw0
      exact flw0
end
/-- list(x) of a list or a tuple -/
abbrev rListOf (K : PySem.W.Frag) : List V → Hp → VK → Prop := fun vs G Q => ∃ p ys, vs = [V.ref p] ∧ (SqL K G p ys ∨ SqT K G p ys) ∧ ∀ l, G l = none → Q (.ref l) (upd G l (.lst ys))
end AA

set_option Elab.async false
set_option linter.all false
set_option maxRecDepth 100000
set_option maxHeartbeats 4000000
/-! What one can come to, and dicts of lists. -/
namespace AA
open PySem PySem.Spec PyProof.Rows L2 Evl
theorem nd_len {α : Type} [DecidableEq α] : ∀ (l r : List α), l.Nodup → (∀ x ∈ l, x ∈ r) → l.length ≤ r.length
  | [], r, _, _ => Nat.zero_le _
  | x :: l, r, hn, hs => by
    have hn' := List.nodup_cons.mp hn
    have ih := nd_len l (r.erase x) hn'.2 fun y hy => (List.mem_erase_of_ne fun (e : y = x) => hn'.1 (e ▸ hy)).mpr (hs y (List.mem_cons_of_mem _ hy))
    have hx := hs x List.mem_cons_self
    rw [List.length_erase_of_mem hx] at ih
    have := List.length_pos_of_mem hx
    rw [List.length_cons]
    omega
/-- what one can come to along es, begun at S -/
inductive Rch (es : List (Int × Int)) (S : List Int) : Int → Prop
  | base {v : Int} : v ∈ S → Rch es S v
  | step {a b : Int} : Rch es S a → (a, b) ∈ es → Rch es S b
/-- all that can be come to lies in U -/
theorem Rch.in {es : List (Int × Int)} {S U : List Int} (h1 : ∀ v ∈ S, v ∈ U) (h2 : ∀ a b, (a, b) ∈ es → b ∈ U) {v : Int} (h : Rch es S v) : v ∈ U := by
  cases h with
  | base h => exact h1 _ h
  | step _ h => exact h2 _ _ h
/-- what is closed holds all that can be come to -/
theorem Rch.closed {es : List (Int × Int)} {S seen : List Int} (h1 : ∀ v ∈ S, v ∈ seen) (h2 : ∀ a ∈ seen, ∀ b, (a, b) ∈ es → b ∈ seen) {v : Int} (h : Rch es S v) : v ∈ seen := by
  induction h with
  | base h => exact h1 _ h
  | step _ e ih => exact h2 _ ih _ e
/-! ### a dict of lists: rows of a key, a list's address, what the list holds -/
abbrev Row (α : Type) := Int × Addr × List α
def rowK {α : Type} (rows : List (Row α)) : List (Key × V) := rows.map fun r => (Sum.inl r.1, V.ref r.2.1)
theorem rowK_none {α : Type} {a : Int} : ∀ {rows : List (Row α)}, valV (rowK rows) (Sum.inl a) = none ↔ ∀ r ∈ rows, r.1 ≠ a
  | [] => ⟨fun _ r h => absurd h (by simp), fun _ => rfl⟩
  | r :: rows => by
    by_cases e : r.1 = a
    · refine ⟨fun h => ?_, fun h => absurd e (h r List.mem_cons_self)⟩
      have : valV (rowK (r :: rows)) (Sum.inl a) = some (V.ref r.2.1) := valV_pos (p := (Sum.inl r.1, V.ref r.2.1)) (by rw [e])
      rw [this] at h
      cases h
    · have h1 : valV (rowK (r :: rows)) (Sum.inl a) = valV (rowK rows) (Sum.inl a) := valV_neg (p := (Sum.inl r.1, V.ref r.2.1)) fun z => e (Sum.inl.inj z)
      rw [h1, rowK_none (rows := rows)]
      exact ⟨fun h s hs => (List.mem_cons.mp hs).elim (fun z => z ▸ e) (h s), fun h s hs => h s (List.mem_cons_of_mem _ hs)⟩
theorem rowK_some {α : Type} {a : Int} {v : V} : ∀ {rows : List (Row α)}, valV (rowK rows) (Sum.inl a) = some v → ∃ (i : Nat) (r : Row α), rows[i]? = some r ∧ r.1 = a ∧ v = .ref r.2.1
  | [], h => by cases h
  | r :: rows, h => by
    by_cases e : r.1 = a
    · have : valV (rowK (r :: rows)) (Sum.inl a) = some (V.ref r.2.1) := valV_pos (p := (Sum.inl r.1, V.ref r.2.1)) (by rw [e])
      rw [this] at h
      cases h
      exact ⟨0, r, rfl, e, rfl⟩
    · have h1 : valV (rowK (r :: rows)) (Sum.inl a) = valV (rowK rows) (Sum.inl a) := valV_neg (p := (Sum.inl r.1, V.ref r.2.1)) fun z => e (Sum.inl.inj z)
      rw [h1] at h
      obtain ⟨i, s, h2, h3, h4⟩ := rowK_some h
      exact ⟨i + 1, s, by rw [List.getElem?_cons_succ]; exact h2, h3, h4⟩
/-- the dict at A, its lists new beside H, what they hold -/
structure Adj {α : Type} (f : α → V) (H G : Hp) (A : Addr) (rows : List (Row α)) : Prop where
  dk : G A = some (.dK (rowK rows))
  kn : (rows.map (·.1)).Nodup
  an : (rows.map (·.2.1)).Nodup
  fr : ∀ r ∈ rows, H r.2.1 = none ∧ r.2.1 ≠ A
  at' : ∀ r ∈ rows, G r.2.1 = some (.lst (r.2.2.map f))
theorem Adj.go {α : Type} {f : α → V} {H G G' : Hp} {A : Addr} {rows : List (Row α)} (h : Adj f H G A rows) (e : Ex G G') : Adj f H G' A rows := ⟨e _ _ h.dk, h.kn, h.an, h.fr, fun r hr => e _ _ (h.at' r hr)⟩
/-- a place that is none of the dict's is written -/
theorem Adj.upd {α : Type} {f : α → V} {H G : Hp} {A p : Addr} {o : HO} {rows : List (Row α)} (h : Adj f H G A rows) (pA : p ≠ A) (pr : ∀ r ∈ rows, p ≠ r.2.1) : Adj f H (L2.upd G p o) A rows :=
  ⟨by rw [upd_ne pA.symm]; exact h.dk, h.kn, h.an, h.fr, fun r hr => by rw [upd_ne (pr r hr).symm]; exact h.at' r hr⟩
/-- what stood in H stands -/
theorem set_map {α β : Type} (g : α → β) : ∀ (l : List α) (i : Nat) (x y : α), l[i]? = some x → g y = g x → (l.set i y).map g = l.map g
  | [], _, _, _, h, _ => by simp at h
  | z :: l, 0, x, y, h, e => by
    have : z = x := by simpa using h
    rw [List.set_cons_zero, List.map_cons, List.map_cons, e, this]
  | z :: l, i + 1, x, y, h, e => by
    rw [List.set_cons_succ, List.map_cons, List.map_cons, set_map g l i x y (by simpa using h) e]
theorem mem_set {α : Type} : ∀ {l : List α} {i : Nat} {x y z : α}, l[i]? = some x → (z ∈ l.set i y ↔ z = y ∨ ∃ j, j ≠ i ∧ l[j]? = some z)
  | [], _, _, _, _, h => by simp at h
  | w :: l, 0, x, y, z, h => by
    rw [List.set_cons_zero, List.mem_cons]
    refine ⟨fun q => q.imp id fun q => ?_, fun q => q.imp id fun ⟨j, h1, h2⟩ => ?_⟩
    · obtain ⟨j, hj⟩ := List.getElem?_of_mem q
      exact ⟨j + 1, by omega, by simpa using hj⟩
    · cases j with
      | zero => exact absurd rfl h1
      | succ j => exact mem_of_get (by simpa using h2)
  | w :: l, i + 1, x, y, z, h => by
    rw [List.set_cons_succ, List.mem_cons, mem_set (l := l) (i := i) (x := x) (by simpa using h)]
    constructor
    · rintro (q | q | ⟨j, h1, h2⟩)
      · exact .inr ⟨0, by omega, by simp [q]⟩
      · exact .inl q
      · exact .inr ⟨j + 1, by omega, by simpa using h2⟩
    · rintro (q | ⟨j, h1, h2⟩)
      · exact .inr (.inl q)
      · cases j with
        | zero => exact .inl (by simpa using h2.symm)
        | succ j => exact .inr (.inr ⟨j, by omega, by simpa using h2⟩)
theorem nodup_at {α : Type} {l : List α} (h : l.Nodup) {i j : Nat} {x : α} (h1 : l[i]? = some x) (h2 : l[j]? = some x) : i = j := by
  obtain ⟨hi, ei⟩ := List.getElem?_eq_some_iff.mp h1
  obtain ⟨hj, ej⟩ := List.getElem?_eq_some_iff.mp h2
  have := List.nodup_iff_pairwise_ne.mp h
  rcases Nat.lt_trichotomy i j with q | q | q
  · exact absurd (ei.trans ej.symm) (List.pairwise_iff_getElem.mp this i j hi hj q)
  · exact q
  · exact absurd (ej.trans ei.symm) (List.pairwise_iff_getElem.mp this j i hj hi q)
/-- one more in a list that is there -/
theorem Adj.more {α : Type} {f : α → V} {H G : Hp} {A : Addr} {rows : List (Row α)} {i : Nat} {r : Row α} (h : Adj f H G A rows) (hr : rows[i]? = some r) (b : α) : Adj f H (L2.upd G r.2.1 (.lst ((r.2.2 ++ [b]).map f))) A (rows.set i (r.1, r.2.1, r.2.2 ++ [b])) := by
  have hm := mem_of_get hr
  refine ⟨?_, ?_, ?_, fun s hs => ?_, fun s hs => ?_⟩
  · rw [upd_ne (h.fr r hm).2.symm]
    have : rowK (rows.set i (r.1, r.2.1, r.2.2 ++ [b])) = rowK rows := set_map _ rows i r _ hr rfl
    rw [this]
    exact h.dk
  · rw [set_map (·.1) rows i r (r.1, r.2.1, r.2.2 ++ [b]) hr rfl]
    exact h.kn
  · rw [set_map (·.2.1) rows i r (r.1, r.2.1, r.2.2 ++ [b]) hr rfl]
    exact h.an
  · rcases (mem_set hr).mp hs with rfl | ⟨j, _, hj⟩
    · exact h.fr r hm
    · exact h.fr s (mem_of_get hj)
  · rcases (mem_set hr).mp hs with rfl | ⟨j, hij, hj⟩
    · exact upd_same
    · have ne : s.2.1 ≠ r.2.1 := fun e => hij (nodup_at h.an (i := j) (j := i) (x := r.2.1) (by rw [List.getElem?_map, hj, ← e]; rfl) (by rw [List.getElem?_map, hr]; rfl))
      rw [upd_ne ne]
      exact h.at' s (mem_of_get hj)
/-- a new list with one thing -/
theorem Adj.new {α : Type} {f : α → V} {H G : Hp} {A p : Addr} {rows : List (Row α)} {a : Int} {b : α} (h : Adj f H G A rows) (hn : ∀ r ∈ rows, r.1 ≠ a) (hp : H p = none) (pA : p ≠ A) (pr : ∀ r ∈ rows, p ≠ r.2.1)
    (hA : G A = some (.dK (rowK rows))) : Adj f H (L2.upd (L2.upd G A (.dK (putK (rowK rows) (Sum.inl a) (V.ref p)))) p (.lst [f b])) A (rows ++ [(a, p, [b])]) := by
  refine ⟨?_, ?_, ?_, fun s hs => ?_, fun s hs => ?_⟩
  · rw [upd_ne pA.symm, upd_same, putK_new _ (rowK_none.mpr hn)]
    unfold rowK
    rw [List.map_append]
    rfl
  · rw [List.map_append]
    refine List.nodup_append.mpr ⟨h.kn, by simp, fun x hx y hy e => ?_⟩
    obtain ⟨r, h1, h2⟩ := List.mem_map.mp hx
    have : y = a := by simpa using hy
    exact hn r h1 (by rw [h2, e, this])
  · rw [List.map_append]
    refine List.nodup_append.mpr ⟨h.an, by simp, fun x hx y hy e => ?_⟩
    obtain ⟨r, h1, h2⟩ := List.mem_map.mp hx
    have : y = p := by simpa using hy
    exact pr r h1 (by rw [h2, e, this])
  · rcases List.mem_append.mp hs with hs | hs
    · exact h.fr s hs
    · obtain rfl := List.mem_singleton.mp hs
      exact ⟨hp, pA⟩
  · rcases List.mem_append.mp hs with hs | hs
    · rw [upd_ne (pr s hs).symm, upd_ne (h.fr s hs).2]
      exact h.at' s hs
    · obtain rfl := List.mem_singleton.mp hs
      exact upd_same
/-- what the rows tell -/
def Tells {α : Type} (rows : List (Row α)) (es : List (Int × α)) : Prop := ∀ a b, (a, b) ∈ es ↔ ∃ r ∈ rows, r.1 = a ∧ b ∈ r.2.2
theorem Tells.nil {α : Type} : Tells ([] : List (Row α)) [] := fun a b => ⟨fun h => absurd h (by simp), fun ⟨r, h, _⟩ => absurd h (by simp)⟩
theorem Tells.more {α : Type} {rows : List (Row α)} {es : List (Int × α)} {i : Nat} {r : Row α} (h : Tells rows es) (hr : rows[i]? = some r) (b : α) : Tells (rows.set i (r.1, r.2.1, r.2.2 ++ [b])) (es ++ [(r.1, b)]) := fun x y => by
  rw [List.mem_append, h x y, List.mem_singleton]
  constructor
  · rintro (⟨s, h1, h2, h3⟩ | e)
    · obtain ⟨j, hj⟩ := List.getElem?_of_mem h1
      by_cases q : j = i
      · subst q
        rw [hr] at hj
        cases hj
        exact ⟨_, (mem_set hr).mpr (.inl rfl), h2, List.mem_append_left _ h3⟩
      · exact ⟨s, (mem_set hr).mpr (.inr ⟨j, q, hj⟩), h2, h3⟩
    · cases e
      exact ⟨_, (mem_set hr).mpr (.inl rfl), rfl, List.mem_append_right _ List.mem_cons_self⟩
  · rintro ⟨s, h1, h2, h3⟩
    rcases (mem_set hr).mp h1 with rfl | ⟨j, _, hj⟩
    · rcases List.mem_append.mp h3 with h3 | h3
      · exact .inl ⟨r, mem_of_get hr, h2, h3⟩
      · have e1 : r.1 = x := h2
        rw [List.mem_singleton.mp h3, ← e1]
        exact .inr rfl
    · exact .inl ⟨s, mem_of_get hj, h2, h3⟩
theorem Tells.new {α : Type} {rows : List (Row α)} {es : List (Int × α)} (h : Tells rows es) (a : Int) (p : Addr) (b : α) : Tells (rows ++ [(a, p, [b])]) (es ++ [(a, b)]) := fun x y => by
  rw [List.mem_append, h x y, List.mem_singleton]
  constructor
  · rintro (⟨s, h1, h2⟩ | e)
    · exact ⟨s, List.mem_append_left _ h1, h2⟩
    · cases e
      exact ⟨_, List.mem_append_right _ List.mem_cons_self, rfl, List.mem_cons_self⟩
  · rintro ⟨s, h1, h2, h3⟩
    rcases List.mem_append.mp h1 with h1 | h1
    · exact .inl ⟨s, h1, h2, h3⟩
    · obtain rfl := List.mem_singleton.mp h1
      have e1 : a = x := h2
      rw [List.mem_singleton.mp h3, ← e1]
      exact .inr rfl
/-- how many things the rows hold -/
theorem Tells.key {α : Type} {rows : List (Row α)} {es : List (Int × α)} (h : Tells rows es) (kn : (rows.map (·.1)).Nodup) {i : Nat} {r : Row α} (hr : rows[i]? = some r) (b : α) : b ∈ r.2.2 ↔ (r.1, b) ∈ es := by
  rw [h r.1 b]
  refine ⟨fun q => ⟨r, mem_of_get hr, rfl, q⟩, ?_⟩
  rintro ⟨s, h1, h2, h3⟩
  obtain ⟨j, hj⟩ := List.getElem?_of_mem h1
  obtain rfl : j = i := nodup_at kn (x := r.1) (by rw [List.getElem?_map, hj, ← h2]; rfl) (by rw [List.getElem?_map, hr]; rfl)
  rw [hr] at hj
  cases hj
  exact h3
end AA

set_option Elab.async false
set_option linter.all false
set_option maxRecDepth 100000
set_option maxHeartbeats 4000000
/-! spread, come_to. -/
namespace AA
open PySem PySem.Spec PyProof.Rows L2 Evl
def seenK (l : List Int) : List (Key × V) := l.map fun v => (Sum.inl v, V.bl true)
theorem seenK_val {v : Int} : ∀ l : List Int, valV (seenK l) (Sum.inl v) = if v ∈ l then some (V.bl true) else none
  | [] => rfl
  | x :: l => by
    by_cases e : x = v
    · have : valV (seenK (x :: l)) (Sum.inl v) = some (V.bl true) := valV_pos (p := (Sum.inl x, V.bl true)) (by rw [e])
      rw [this, if_pos (by simp [e])]
    · have : valV (seenK (x :: l)) (Sum.inl v) = valV (seenK l) (Sum.inl v) := valV_neg (p := (Sum.inl x, V.bl true)) fun z => e (Sum.inl.inj z)
      rw [this, seenK_val l]
      by_cases q : v ∈ l
      · rw [if_pos q, if_pos (List.mem_cons_of_mem _ q)]
      · rw [if_neg q, if_neg (fun z => (List.mem_cons.mp z).elim (fun z => e z.symm) q)]
theorem seenK_new {v : Int} {l : List Int} (h : v ∉ l) : putK (seenK l) (Sum.inl v) (V.bl true) = seenK (l ++ [v]) := by
  rw [putK_new _ (by rw [seenK_val, if_neg h])]
  unfold seenK
  rw [List.map_append]
  rfl
theorem seenK_old {v : Int} {l : List Int} (h : v ∈ l) : putK (seenK l) (Sum.inl v) (V.bl true) = seenK l := by
  unfold putK
  have h1 : ((seenK l).any fun kv => decide (kv.1 = Sum.inl v)) = true := by
    rw [valV_any, seenK_val, if_pos h]
    rfl
  rw [if_pos h1]
  unfold seenK
  rw [List.map_map]
  refine List.map_congr_left fun x hx => ?_
  show (if (Sum.inl x : Key) = Sum.inl v then ((Sum.inl x : Key), V.bl true) else (Sum.inl x, V.bl true)) = (Sum.inl x, V.bl true)
  split <;> rfl
def eD (e : Int × Int) : PyData := .tuple [.int e.1, .int e.2]
theorem eD_inv {K : PySem.W.Frag} {G : Hp} {v : V} {e : Int × Int} (h : Dp K G v (eD e)) : ∃ t, v = .ref t ∧ SqT K G t [.int e.1, .int e.2] := by
  unfold eD at h
  cases h with
  | tup h1 h2 =>
    cases h2 with
    | cons a h2 =>
      cases h2 with
      | cons b h2 =>
        cases h2
        cases a
        cases b
        exact ⟨_, rfl, h1⟩
section
variable {P : Program} {w : World} {K : PySem.W.Frag} {mg : Str → Option Value} {base : Heap}
abbrev rLoF (K : PySem.W.Frag) : List V → Hp → VK → Prop := fun vs G Q => ∃ p ys, vs = [V.ref p] ∧ (SqL K G p ys ∨ SqT K G p ys) ∧ ∀ l, G l = none → Q (.ref l) (upd G l (.lst ys))
def spSpread (K : PySem.W.Frag) : Sp := fun vs H Q _ => ∃ (nb st : Addr) (xs : List V) (es : List (Int × Int)) (S U : List Int), vs = [.ref nb, .ref st] ∧ SqL K H nb xs ∧ DpAll K H xs (es.map eD) ∧ SqL K H st (S.map V.int) ∧ (∀ v ∈ S, v ∈ U) ∧ (∀ a b, (a, b) ∈ es → b ∈ U) ∧ U.length < 64 ∧ es.length ≤ 100000 ∧ S.length ≤ 100000 ∧
  ∀ (H' : Hp) (p : Addr) (zs : List Int), Ex H H' → H p = none → H' p = some (.lst (zs.map V.int)) → zs.Nodup → zs.Pairwise (· ≤ ·) → (∀ v, v ∈ zs ↔ Rch es S v) → Q (.ref p) H'
abbrev nmSpr : List Str := ["neighbours", "starts", "ahead", "one", "other", "seen", "todo", "place"]
theorem scSpr : FnScope nmSpr ["neighbours", "starts"] (defScope sSpread) := ⟨rfl, rfl, rfl, by decide +kernel, rfl, by decide +kernel, by decide +kernel⟩
theorem ok_spread {f : Addr} {fd : FuncData} (F : L2.Fun K "spread" "spread" sSpread f fd) (B : Bn mg) : FnOk P w K mg base CX0 1 f fd ["neighbours", "starts"] (spSpread K) := by
  refine F.ok scSpr (fun vs H Q E h => ?_) (fun cdv A outer s H vs Q E hr h => ?_)
  · obtain ⟨nb, st, xs, es, S, U, rfl, _⟩ := h
    rfl
  · obtain ⟨nb, st, xs, es, S, U, rfl, hnb, hxs, hst, hSU, hEU, hU, hez, hSz, k⟩ := h
    have hu := hr.un
    have hu1 : (A.deeper (envOfC "spread" (defScope sSpread) s.heap.objs.size f cdv)).units + 1 < cLine := by omega
    refine ⟨_, pss_cons (ps_set (i := 2) scSpr.nd rfl (Or.inl rfl) pe_dnewK)
      (Evl.pss_cut (ps_for PassesOwn.never rfl (pi_list (pv 0)) (pg_tup (n := 2) rfl (pgs_cons (pg_name (i := 3) scSpr.nd rfl (Or.inl rfl)) (pgs_cons (pg_name (i := 4) scSpr.nd rfl (Or.inl rfl)) pgs_nil)))
          (pss_one (ps_expr (pe_bm PySem.F.plainAttrs_list PySem.F.slot_list_append PySem.F.type_list_append mt_append (pe_dsetd (pv 2) (pv 3) (pe_lst pa_nil) ⟨by rfl, by rfl, by rfl, by rfl⟩) (pa_cons (pv 4) pa_nil)))))
      (Evl.pss_cut (ps_setDc (i := 5) (own := [("place", 7)]) (g := gName 7) (tt := tYes) (by rfl) scSpr.nd rfl rfl (sw_trueD rfl rfl rfl (by decide +kernel)) (pi_list (pv 1)) (blkOk_by (N := nmSpr) (sc := defScope sSpread) (by decide +kernel))
          (fun _ _ _ _ _ => pg_name (i := 7) scSpr.nd rfl (Or.inl rfl)) (fun _ _ _ _ _ => pts_nil) (fun _ _ _ _ _ => pv 7) (fun _ _ _ _ _ => pe_bl))
      (pss_cons (ps_set (i := 6) scSpr.nd rfl (Or.inl rfl) (pe_callTy (r := rLoF K) call_list_of (by rfl) B.list boot_list (pa_cons (pv 1) pa_nil)))
      (Evl.pss_cut (ps_while PassesOwn.never (pt_truth (pv 6) (fun _ => rfl))
          (pss_cons (ps_set (i := 7) scSpr.nd rfl (Or.inl rfl) (pe_bm0 PySem.F.plainAttrs_list PySem.F.slot_list_pop PySem.F.type_list_pop mt_pop (pv 6)))
          (pss_one (ps_for PassesOwn.never rfl (pi_list (pe_dget2 hu1 (pv 2) (pv 7) (pe_lst pa_nil) ⟨by rfl, by rfl, by rfl, by rfl⟩)) (pg_name (i := 4) scSpr.nd rfl (Or.inl rfl))
            (pss_one (ps_if (pt_cmp (pc_dnotin hu1 (pv 4) (pv 5))) (pss_cons (ps_dput hu1 (pv 5) (pv 4) pe_bl (by rfl)) (pss_one (ps_expr (pe_bm PySem.F.plainAttrs_list PySem.F.slot_list_append PySem.F.type_list_append mt_append (pv 6) (pa_cons (pv 4) pa_nil))))) pss_nil))))))
      (pss_one (ps_ret (pe_callB (call_sortedDI (by rfl)) (by rfl) B.sorted boot_sorted (pa_cons (pv 5) pa_nil)))))))), ?_⟩
    intro A hA
    have y0 := Ex.new (o := .dK []) hA
    have j0 : upd H A (.dK []) A = some (.dK []) := upd_same
    generalize upd H A (.dK []) = G0 at y0 j0 ⊢
    -- whom one comes to next
    refine ⟨fun σ G => ∃ (x3 x4 : Option V) (rows : List (Row Int)), σ = [some (.ref nb), some (.ref st), some (.ref A), x3, x4, none, none, none] ∧ Ex H G ∧ Adj V.int H G A rows ∧ Tells rows es ∧ (∀ r ∈ rows, r.2.2.length ≤ 100000), ?_, ?_⟩
    · refine ⟨_, rfl, nb, rfl, ⟨_, ex_l y0 hnb⟩, ?_⟩
      have hlen : xs.length = es.length := by
        have := dpa_len hxs
        rw [List.length_map] at this
        exact this
      refine for_list (K := K) (a := nb) (xs := xs) (fun i σ G => ∃ (x3 x4 : Option V) (rows : List (Row Int)), σ = [some (.ref nb), some (.ref st), some (.ref A), x3, x4, none, none, none] ∧ Ex H G ∧ Adj V.int H G A rows ∧ Tells rows (es.take i) ∧ rows.length ≤ i ∧ (∀ r ∈ rows, r.2.2.length ≤ i)) ?_ (fun i σ G _ ⟨_, _, _, _, e, _⟩ => ex_l e hnb) ?_ ?_
      · exact ⟨none, none, [], rfl, y0, ⟨j0, by simp, by simp, (fun r h => absurd h (by simp)), fun r h => absurd h (by simp)⟩, Tells.nil, Nat.le_refl _, fun r h => absurd h (by simp)⟩
      · rintro i v σ G hv ⟨x3, x4, rows, rfl, e, ad, tl, rl, bl⟩
        have il := (List.getElem?_eq_some_iff.mp hv).1
        obtain ⟨d, hd1, hd2⟩ := dpa_get hxs hv
        rw [List.getElem?_map] at hd1
        cases hei : es[i]? with
        | none =>
          rw [hei] at hd1
          cases hd1
        | some ei =>
          rw [hei] at hd1
          obtain rfl : eD ei = d := Option.some.inj hd1
          obtain ⟨t, rfl, ht⟩ := eD_inv hd2
          obtain ⟨ea, eb⟩ := ei
          have tk : es.take (i + 1) = es.take i ++ [(ea, eb)] := by rw [List.take_add_one, hei]; rfl
          refine ⟨t, _, rfl, ex_t e ht, rfl, _, _, rfl, _, _, rfl, rfl, ?_⟩
          refine ⟨_, rfl, A, rfl, .inl ⟨_, .inl ad.dk⟩, _, rfl, Nat.zero_le _, fun p hp => ?_⟩
          have y1 := Ex.new (o := .lst []) hp
          have j1 : upd G p (.lst []) p = some (.lst []) := upd_same
          generalize upd G p (.lst []) = G1 at y1 j1 ⊢
          have ad1 := ad.go y1
          have pA : p ≠ A := (ne_of_none ad.dk hp).symm
          have pr : ∀ r ∈ rows, p ≠ r.2.1 := fun r hr => (ne_of_none (ad.at' r hr) hp).symm
          have p0 := fresh_back e hp
          have kl : (rowK rows).length < sizeLine := by
            unfold rowK
            rw [List.length_map]
            exact sz_m (by omega)
          refine ⟨rowK rows, Sum.inl ea, ad1.dk, rfl, kl, fun v hv => ?_, fun hn => ?_⟩
          · obtain ⟨j, r, h1, h2, rfl⟩ := rowK_some hv
            have hr := mem_of_get h1
            have hat := ad1.at' r hr
            have hbl := bl r hr
            refine ⟨.inl ⟨rfl, _, SqL.of hat⟩, _, rfl, r.2.1, _, _, rfl, rfl, hat, by rw [List.length_map]; exact sz_m (by omega), ?_⟩
            have hE : r.2.2.map V.int ++ [V.int eb] = (r.2.2 ++ [eb]).map V.int := by
              rw [List.map_append]
              rfl
            rw [hE]
            have h2' : r.1 = ea := h2
            refine ⟨_, _, rows.set j (r.1, r.2.1, r.2.2 ++ [eb]), rfl, (e.trans y1).mut (ad.fr r hr).1, ad1.more h1 eb, ?_, by rw [List.length_set]; omega, fun s hs => ?_⟩
            · rw [tk, ← h2']
              exact tl.more h1 eb
            · rcases (mem_set h1).mp hs with rfl | ⟨j', _, hj⟩
              · show (r.2.2 ++ [eb]).length ≤ i + 1
                rw [List.length_append]
                exact Nat.succ_le_succ hbl
              · have := bl s (mem_of_get hj)
                omega
          · have hn' := rowK_none.mp hn
            have hd : upd G1 A (.dK (putK (rowK rows) (Sum.inl ea) (V.ref p))) p = some (.lst []) := by
              rw [upd_ne pA]
              exact j1
            refine ⟨.inl ⟨rfl, _, SqL.of hd⟩, _, rfl, p, _, _, rfl, rfl, hd, by show 0 < sizeLine; decide, ?_⟩
            refine ⟨_, _, rows ++ [(ea, p, [eb])], rfl, ((e.trans y1).mut hA).mut p0, ad1.new hn' p0 pA pr ad1.dk, ?_, by rw [List.length_append]; exact Nat.succ_le_succ rl, fun s hs => ?_⟩
            · rw [tk]
              exact tl.new ea p eb
            · rcases List.mem_append.mp hs with hs | hs
              · have := bl s hs
                omega
              · obtain rfl := List.mem_singleton.mp hs
                show 1 ≤ i + 1
                omega
      · rintro σ G ⟨x3, x4, rows, rfl, e, ad, tl, rl, bl⟩
        rw [hlen, List.take_length] at tl
        exact ⟨x3, x4, rows, rfl, e, ad, tl, fun r hr => by have := bl r hr; omega⟩
    rintro σ G1 ⟨x3, x4, rows, rfl, e1, ad1, tl, bl⟩
    -- where one begins
    refine ⟨fun σ G => ∃ (x7 : Option V) (D : Addr) (seen : List Int), σ = [some (.ref nb), some (.ref st), some (.ref A), x3, x4, some (.ref D), none, x7] ∧ Ex G1 G ∧ G1 D = none ∧ G D = some (.dK (seenK seen)) ∧ seen.Nodup ∧ ∀ v, v ∈ seen ↔ v ∈ S, ?_, ?_⟩
    · refine ⟨_, rfl, st, rfl, ⟨_, ex_l e1 hst⟩, fun D hD => ?_⟩
      refine dc_list (xs := S.map V.int) (fun i G => Ex G1 G ∧ ∃ seen, G D = some (.dK (seenK seen)) ∧ seen.Nodup ∧ (∀ v, v ∈ seen ↔ v ∈ S.take i) ∧ seen.length ≤ i) ⟨Ex.new hD, [], upd_same, List.nodup_nil, (fun v => by simp), Nat.le_refl _⟩ (fun i G _ q => ex_l q.1 (ex_l e1 hst)) ?_ ?_
      · rintro i x G hx ⟨q1, seen, q2, q3, q4, q5⟩
        have il := (List.getElem?_eq_some_iff.mp hx).1
        rw [List.length_map] at il
        obtain ⟨c, hc, rfl⟩ := get_ints hx
        have tk : S.take (i + 1) = S.take i ++ [c] := by rw [List.take_add_one, hc]; rfl
        refine ⟨rfl, _, rfl, seenK seen, Sum.inl c, rfl, q2, by unfold seenK; rw [List.length_map]; exact sz_m (by omega), q1.mut hD, ?_⟩
        by_cases hin : c ∈ seen
        · rw [seenK_old hin]
          refine ⟨seen, upd_same, q3, fun v => ?_, by omega⟩
          rw [tk, List.mem_append, q4 v, List.mem_singleton]
          exact ⟨.inl, fun z => z.elim id fun e => by rw [e]; exact (q4 c).mp hin⟩
        · rw [seenK_new hin]
          refine ⟨seen ++ [c], upd_same, ?_, fun v => ?_, by rw [List.length_append]; exact Nat.succ_le_succ q5⟩
          · refine List.nodup_append.mpr ⟨q3, by simp, fun x hx y hy e => ?_⟩
            rw [List.mem_singleton.mp hy] at e
            exact hin (e ▸ hx)
          · rw [tk, List.mem_append, List.mem_append, q4 v]
      · rintro G ⟨q1, seen, q2, q3, q4, q5⟩
        rw [List.length_map, List.take_length] at q4
        exact ⟨_, D, seen, rfl, q1, hD, q2, q3, q4⟩
    rintro σ G2 ⟨x7, D, seen0, rfl, e2, D0, hD2, snd0, sm0⟩
    refine ⟨_, rfl, st, _, rfl, .inl (ex_l (e1.trans e2) hst), fun T hT => ?_⟩
    have y3 := Ex.new (o := .lst (S.map V.int)) hT
    have hT3 : upd G2 T (.lst (S.map V.int)) T = some (.lst (S.map V.int)) := upd_same
    generalize upd G2 T (.lst (S.map V.int)) = G3 at y3 hT3 ⊢
    have e3 := e1.trans (e2.trans y3)
    have ad3 := ad1.go (e2.trans y3)
    have DA : D ≠ A := (ne_of_none ad1.dk D0).symm
    have TA : T ≠ A := (ne_of_none (e2 _ _ ad1.dk) hT).symm
    have TD : T ≠ D := (ne_of_none hD2 hT).symm
    have Dr : ∀ r ∈ rows, D ≠ r.2.1 := fun r hr => (ne_of_none (ad1.at' r hr) D0).symm
    have Tr : ∀ r ∈ rows, T ≠ r.2.1 := fun r hr => (ne_of_none (e2 _ _ (ad1.at' r hr)) hT).symm
    have D0H := fresh_back e1 D0
    have T0H := fresh_back (e1.trans e2) hT
    have hRU : ∀ v, Rch es S v → v ∈ U := fun v h => h.in hSU hEU
    -- all that one comes to
    refine ⟨fun σ G => ∃ (x4 x7 : Option V) (seen : List Int), σ = [some (.ref nb), some (.ref st), some (.ref A), x3, x4, some (.ref D), some (.ref T), x7] ∧ Ex H G ∧ G D = some (.dK (seenK seen)) ∧ seen.Nodup ∧ ∀ v, v ∈ seen ↔ Rch es S v, ?_, ?_⟩
    · refine ⟨fun mm σ G => ∃ (x4 x7 : Option V) (seen todo : List Int), σ = [some (.ref nb), some (.ref st), some (.ref A), x3, x4, some (.ref D), some (.ref T), x7] ∧ 2 * (U.length - seen.length) + todo.length = mm ∧ mm ≤ 2 * U.length + S.length ∧ Ex H G ∧ Adj V.int H G A rows ∧ G D = some (.dK (seenK seen)) ∧ G T = some (.lst (todo.map V.int)) ∧ seen.Nodup ∧ (∀ v ∈ S, v ∈ seen) ∧ (∀ v ∈ todo, v ∈ seen) ∧ (∀ v ∈ seen, Rch es S v) ∧ (∀ a ∈ seen, a ∉ todo → ∀ b, (a, b) ∈ es → b ∈ seen),
        ⟨_, x4, x7, seen0, S, rfl, rfl, by omega, e3, ad3, y3 _ _ hD2, hT3, snd0, (fun v h => (sm0 v).mpr h), (fun v h => (sm0 v).mpr h), (fun v h => .base ((sm0 v).mp h)), fun a ha hn => absurd ((sm0 a).mp ha) hn⟩, ?_⟩
      rintro mm σ G ⟨y4, y7, seen, todo, rfl, rfl, hmm, e, ad, hD, hTT, snd, hS, hts, hr, hcl⟩
      refine ⟨_, rfl, _, .inl ⟨_, SqL.of hTT, rfl⟩, ?_⟩
      cases htz : todo with
      | nil =>
        refine ⟨y4, y7, seen, rfl, e, hD, snd, fun v => ⟨hr v, fun h => h.closed hS fun a ha b hab => hcl a ha (by rw [htz]; simp) b hab⟩⟩
      | cons t0 tr =>
        obtain ⟨ps, c, ep⟩ : ∃ ps c, todo = ps ++ [c] := ⟨todo.dropLast, todo.getLast (by rw [htz]; simp), (List.dropLast_concat_getLast _).symm⟩
        refine iteT ?_
        rw [← htz, ep]
        rw [ep] at hTT hts hcl hmm
        have hTT' : G T = some (.lst (ps.map V.int ++ [V.int c])) := by
          rw [hTT, List.map_append]
          rfl
        have hc : c ∈ seen := hts c (by simp)
        have rc := hr c hc
        refine ⟨fun σ G => ∃ (x4 x7 : Option V) (seen' todo : List Int), σ = [some (.ref nb), some (.ref st), some (.ref A), x3, x4, some (.ref D), some (.ref T), x7] ∧ 2 * (U.length - seen'.length) + todo.length < 2 * (U.length - seen.length) + (ps ++ [c]).length ∧ Ex H G ∧ Adj V.int H G A rows ∧ G D = some (.dK (seenK seen')) ∧ G T = some (.lst (todo.map V.int)) ∧ seen'.Nodup ∧ (∀ v ∈ S, v ∈ seen') ∧ (∀ v ∈ todo, v ∈ seen') ∧ (∀ v ∈ seen', Rch es S v) ∧ (∀ a ∈ seen', a ∉ todo → ∀ b, (a, b) ∈ es → b ∈ seen'), ?_, ?_⟩
        · rintro σ' G' ⟨x4, x7, seen', todo', e', lt, r⟩
          exact ⟨_, lt, x4, x7, seen', todo', e', rfl, by omega, r⟩
        refine ⟨_, rfl, .inl ⟨rfl, _, SqL.of hTT'⟩, T, _, .int c, rfl, rfl, hTT', by simp, ?_⟩
        rw [List.dropLast_concat]
        have eP := e.mut (o := .lst (ps.map V.int)) T0H
        have adP := ad.upd (o := .lst (ps.map V.int)) TA Tr
        have hDP : upd G T (.lst (ps.map V.int)) D = some (.dK (seenK seen)) := by rw [upd_ne TD.symm]; exact hD
        have hTP : upd G T (.lst (ps.map V.int)) T = some (.lst (ps.map V.int)) := upd_same
        generalize upd G T (.lst (ps.map V.int)) = G5 at eP adP hDP hTP ⊢
        refine ⟨_, rfl, A, rfl, .inl ⟨_, .inl adP.dk⟩, _, rfl, Nat.zero_le _, fun p hp => ?_⟩
        have y6 := Ex.new (o := .lst []) hp
        have j6 : upd G5 p (.lst []) p = some (.lst []) := upd_same
        have pD : p ≠ D := (ne_of_none hDP hp).symm
        have pT : p ≠ T := (ne_of_none hTP hp).symm
        generalize upd G5 p (.lst []) = G6 at y6 j6 ⊢
        have ad6 := adP.go y6
        refine ⟨valV (rowK rows) (Sum.inl c), DGet.k (k := Sum.inl c) ad6.dk, ?_⟩
        obtain ⟨lb, bs, ev, hlb, lD, lT, hbs⟩ : ∃ (lb : Addr) (bs : List Int), (valV (rowK rows) (Sum.inl c)).getD (.ref p) = .ref lb ∧ G6 lb = some (.lst (bs.map V.int)) ∧ lb ≠ D ∧ lb ≠ T ∧ ∀ b, b ∈ bs ↔ (c, b) ∈ es := by
          cases hv : valV (rowK rows) (Sum.inl c) with
          | none =>
            refine ⟨p, [], rfl, j6, pD, pT, fun b => ⟨fun h => absurd h (by simp), fun h => ?_⟩⟩
            obtain ⟨r, h1, h2, _⟩ := (tl c b).mp h
            exact absurd h2 (rowK_none.mp hv r h1)
          | some v =>
            obtain ⟨i, r, h1, h2, rfl⟩ := rowK_some hv
            have hm := mem_of_get h1
            refine ⟨r.2.1, r.2.2, rfl, ad6.at' r hm, (Dr r hm).symm, (Tr r hm).symm, fun b => ?_⟩
            rw [tl.key ad1.kn h1 b, h2]
        rw [ev]
        refine ⟨lb, rfl, ⟨_, SqL.of hlb⟩, ?_⟩
        refine for_list (K := K) (a := lb) (xs := bs.map V.int) (fun j σ G => ∃ (y4 : Option V) (seen' todo : List Int), σ = [some (.ref nb), some (.ref st), some (.ref A), x3, y4, some (.ref D), some (.ref T), some (.int c)] ∧ 2 * (U.length - seen'.length) + todo.length ≤ 2 * (U.length - seen.length) + ps.length ∧ Ex H G ∧ Adj V.int H G A rows ∧ G lb = some (.lst (bs.map V.int)) ∧ G D = some (.dK (seenK seen')) ∧ G T = some (.lst (todo.map V.int)) ∧ seen'.Nodup ∧ (∀ v ∈ S, v ∈ seen') ∧ (∀ v ∈ todo, v ∈ seen') ∧ (∀ v ∈ seen', Rch es S v) ∧
            (∀ a ∈ seen', a ∉ todo → a = c ∨ ∀ b, (a, b) ∈ es → b ∈ seen') ∧ ∀ b ∈ bs.take j, b ∈ seen') ?_ (fun j σ G _ ⟨_, _, _, _, _, _, _, q, _⟩ => SqL.of q) ?_ ?_
        · refine ⟨_, seen, ps, rfl, Nat.le_refl _, eP.trans y6, ad6, hlb, y6 _ _ hDP, y6 _ _ hTP, snd, hS, (fun v h => hts v (List.mem_append_left _ h)), hr, (fun a ha hn => ?_), fun b h => absurd h (by simp)⟩
          by_cases q : a = c
          · exact .inl q
          · exact .inr (hcl a ha fun z => (List.mem_append.mp z).elim hn fun z => q (List.mem_singleton.mp z))
        · rintro j x σ G' hx ⟨y4', seen', todo', rfl, hm', e', ad', hlb', hD', hT', snd', hS', hts', hr', hcl', htk⟩
          obtain ⟨b, hb, rfl⟩ := get_ints hx
          have tk : bs.take (j + 1) = bs.take j ++ [b] := by rw [List.take_add_one, hb]; rfl
          have heb : (c, b) ∈ es := (hbs b).mp (mem_of_get hb)
          refine ⟨_, rfl, _, rfl, D, _, rfl, DGet.k (k := Sum.inl b) hD', ?_⟩
          rw [seenK_val]
          by_cases hin : b ∈ seen'
          · rw [if_pos hin]
            refine ⟨_, rfl, iteF ⟨_, seen', todo', rfl, hm', e', ad', hlb', hD', hT', snd', hS', hts', hr', hcl', fun z hz => ?_⟩⟩
            rw [tk] at hz
            exact (List.mem_append.mp hz).elim (htk z) fun q => by rw [List.mem_singleton.mp q]; exact hin
          · rw [if_neg hin]
            refine ⟨_, rfl, iteT ?_⟩
            have nd2 : (seen' ++ [b]).Nodup := List.nodup_append.mpr ⟨snd', by simp, fun x hx y hy q => by
              rw [List.mem_singleton.mp hy] at q
              exact hin (q ▸ hx)⟩
            have rb : Rch es S b := .step rc heb
            have hz := nd_len (seen' ++ [b]) U nd2 fun v hv => (List.mem_append.mp hv).elim (fun q => hRU v (hr' v q)) fun q => by rw [List.mem_singleton.mp q]; exact hRU b rb
            rw [List.length_append, List.length_singleton] at hz
            have kz : (seenK seen').length < sizeLine := by
              unfold seenK
              rw [List.length_map]
              exact sz_m (by omega)
            refine ⟨_, rfl, _, rfl, D, _, rfl, DPut.k (k := Sum.inl b) hD' kz, ?_⟩
            have hk : putK (seenK seen') (Sum.inl b) (V.bl true) = seenK (seen' ++ [b]) := seenK_new hin
            rw [hk]
            have e7 := e'.mut (o := .dK (seenK (seen' ++ [b]))) D0H
            have ad7 := ad'.upd (o := .dK (seenK (seen' ++ [b]))) DA Dr
            have hT7 : upd G' D (.dK (seenK (seen' ++ [b]))) T = some (.lst (todo'.map V.int)) := by rw [upd_ne TD]; exact hT'
            have hD7 : upd G' D (.dK (seenK (seen' ++ [b]))) D = some (.dK (seenK (seen' ++ [b]))) := upd_same
            have hl7 : upd G' D (.dK (seenK (seen' ++ [b]))) lb = some (.lst (bs.map V.int)) := by rw [upd_ne lD]; exact hlb'
            generalize upd G' D (.dK (seenK (seen' ++ [b]))) = G7 at e7 ad7 hT7 hD7 hl7 ⊢
            refine ⟨_, rfl, .inl ⟨rfl, _, SqL.of hT7⟩, _, rfl, T, _, _, rfl, rfl, hT7, by rw [List.length_map]; have : sizeLine = 16777216 := rfl; rw [List.length_append, List.length_singleton] at hmm; omega, ?_⟩
            have hE : todo'.map V.int ++ [V.int b] = (todo' ++ [b]).map V.int := by
              rw [List.map_append]
              rfl
            rw [hE]
            refine ⟨_, seen' ++ [b], todo' ++ [b], rfl, by rw [List.length_append, List.length_append, List.length_singleton]; omega, e7.mut T0H, ad7.upd TA Tr, by rw [upd_ne lT]; exact hl7, by rw [upd_ne TD.symm]; exact hD7, upd_same, nd2, (fun v h => List.mem_append_left _ (hS' v h)), fun v h => ?_, fun v h => ?_, fun a ha hn => ?_, fun z hz => ?_⟩
            · exact (List.mem_append.mp h).elim (fun q => List.mem_append_left _ (hts' v q)) fun q => List.mem_append_right _ q
            · exact (List.mem_append.mp h).elim (hr' v) fun q => by rw [List.mem_singleton.mp q]; exact rb
            · rcases List.mem_append.mp ha with ha | ha
              · refine (hcl' a ha fun z => hn (List.mem_append_left _ z)).imp id fun q b' hb' => List.mem_append_left _ (q b' hb')
              · exact absurd (List.mem_append_right _ ha) hn
            · rw [tk] at hz
              exact (List.mem_append.mp hz).elim (fun q => List.mem_append_left _ (htk z q)) fun q => List.mem_append_right _ q
        · rintro σ G' ⟨y4', seen', todo', rfl, hm', e', ad', hlb', hD', hT', snd', hS', hts', hr', hcl', htk⟩
          rw [List.length_map, List.take_length] at htk
          refine ⟨_, _, seen', todo', rfl, by rw [List.length_append, List.length_singleton]; omega, e', ad', hD', hT', snd', hS', hts', hr', fun a ha hn b hab => ?_⟩
          rcases hcl' a ha hn with q | q
          · rw [q] at hab
            exact htk b ((hbs b).mpr hab)
          · exact q b hab
    rintro σ G4 ⟨z4, z7, seen, rfl, e4, hD4, snd, hsm⟩
    refine ⟨_, rfl, D, seenK seen, seen, rfl, .inl hD4, ?_, ?_, fun ys p pm so hp => ?_⟩
    · unfold seenK
      rw [List.map_map]
      rfl
    · exact Nat.lt_of_le_of_lt (nd_len seen U snd fun v hv => hRU v ((hsm v).mp hv)) hU
    · exact k _ p ys (e4.trans (Ex.new hp)) (fresh_back e4 hp) upd_same (pm.symm.nodup snd) so fun v => by rw [pm.mem_iff, hsm v]
end
end AA

set_option Elab.async false
set_option linter.all false
set_option maxRecDepth 100000
set_option maxHeartbeats 4000000
/-! come_to, check_place, reached. -/
namespace AA
open PySem PySem.Spec PyProof.Rows L2 Evl
def edg (ss : List St5) : List (Int × Int) := ss.map fun s => (s.one, s.other)
theorem edg_mem {ss : List St5} {a b : Int} : (a, b) ∈ edg ss ↔ ∃ s ∈ ss, s.one = a ∧ s.other = b := by
  unfold edg
  rw [List.mem_map]
  exact ⟨fun ⟨s, h1, h2⟩ => ⟨s, h1, (Prod.mk.inj h2).1, (Prod.mk.inj h2).2⟩, fun ⟨s, h1, h2, h3⟩ => ⟨s, h1, by rw [h2, h3]⟩⟩
section
variable {P : Program} {w : World} {K : PySem.W.Frag} {mg : Str → Option Value} {base : Heap}
def spComeTo (K : PySem.W.Frag) : Sp := fun vs H Q _ => ∃ (l st : Addr) (us : List V) (ss : List St5) (S U : List Int), vs = [.ref l, .ref st] ∧ SqL K H l us ∧ DpAll K H us (ss.map stD) ∧ SqL K H st (S.map V.int) ∧ (∀ v ∈ S, v ∈ U) ∧ (∀ s ∈ ss, s.other ∈ U) ∧ U.length < 64 ∧ ss.length ≤ 100000 ∧ S.length ≤ 100000 ∧
  ∀ (H' : Hp) (p : Addr) (zs : List Int), Ex H H' → H p = none → H' p = some (.lst (zs.map V.int)) → zs.Nodup → zs.Pairwise (· ≤ ·) → (∀ v, v ∈ zs ↔ Rch (edg ss) S v) → Q (.ref p) H'
abbrev nmCmt : List Str := ["steps", "starts", "step"]
theorem scCmt : FnScope nmCmt ["steps", "starts"] (defScope sComeTo) := ⟨rfl, rfl, rfl, by decide +kernel, rfl, by decide +kernel, by decide +kernel⟩
theorem ok_comeTo {f : Addr} {fd : FuncData} (F : L2.Fun K "come_to" "come_to" sComeTo f fd) (cS : C8.Cal P w K mg base 1 "spread" (spSpread K) []) : FnOk P w K mg base CX0 2 f fd ["steps", "starts"] (spComeTo K) := by
  refine F.ok scCmt (fun vs H Q E h => ?_) (fun cdv A outer s H vs Q E hr h => ?_)
  · obtain ⟨l, st, us, ss, S, U, rfl, _⟩ := h
    rfl
  · obtain ⟨l, st, us, ss, S, U, rfl, hl, hD, hst, hSU, hEU, hU, hez, hSz, k⟩ := h
    refine ⟨_, pss_one (ps_ret (C8.pe_c cS hr (by decide) (by rfl) (pa_cons (pe_lc (own := [("step", 2)]) (g := gName 2) (tt := tYes) (by rfl) scCmt.nd (pi_list (pv 0)) (blkOk_by (N := nmCmt) (sc := defScope sComeTo) (by decide +kernel)) (fun _ _ _ _ _ => pg_name (i := 2) scCmt.nd rfl (Or.inl rfl)) (fun _ _ _ _ _ => pts_nil)
        (fun _ _ _ _ _ => pe_tup (pa_cons (pe_ix (r := rIxT K) ix_tup (pv 2) pe_int (fun _ _ => rfl)) (pa_cons (pe_ix (r := rIxT K) ix_tup (pv 2) pe_int (fun _ _ => rfl)) pa_nil)))) (pa_cons (pv 1) pa_nil)))), ?_⟩
    refine ⟨_, rfl, l, rfl, ⟨_, hl⟩, fun D hD0 => ?_⟩
    have hul := sts_len hD
    refine lc_list (xs := us) (fun i G => Ex H G ∧ ∃ ys : List V, G D = some (.lst ys) ∧ DpAll K (tps G) ys ((edg (ss.take i)).map eD)) ⟨Ex.new hD0, [], upd_same, .nil⟩ (fun i G _ q => ex_l q.1 hl) ?_ ?_
    · rintro i x G hx ⟨q1, ys, q2, q3⟩
      have il := (List.getElem?_eq_some_iff.mp hx).1
      obtain ⟨s, t, hs, rfl, ht⟩ := sts_get hD hx
      obtain ⟨_, u, e, p1, p2⟩ := stD_inv (dp_ex q1 _ _ ht)
      cases e
      have hyl : ys.length = i := by
        have := dpa_len q3
        rw [this, List.length_map]
        unfold edg
        rw [List.length_map, List.length_take]
        omega
      refine ⟨rfl, _, rfl, t, _, 0, .int s.one, rfl, rfl, p1, rfl, _, rfl, t, _, 1, .int s.other, rfl, rfl, p1, rfl, by show 2 ≤ sizeLine; decide, fun T hT => ?_⟩
      have z1 := Ex.new (o := .tup [V.int s.one, V.int s.other]) hT
      have hD1 := z1 _ _ q2
      have tp := (tps_mono z1).trans (tps_upd (o := .lst (ys ++ [V.ref T])) (NoTup.lst hD1))
      refine ⟨ys, hD1, by rw [hyl]; exact sz_m (by omega), (q1.trans z1).mut hD0, _, upd_same, ?_⟩
      have tk : edg (ss.take (i + 1)) = edg (ss.take i) ++ [(s.one, s.other)] := by
        unfold edg
        rw [List.take_add_one, hs, List.map_append]
        rfl
      rw [tk, List.map_append]
      refine dpa_app (dpa_ex tp _ _ q3) (.cons (dp_ex (tps_upd (NoTup.lst hD1)) _ _ ?_) .nil)
      exact .tup (SqT.of (tps_of upd_same)) (.cons (.int _) (.cons (.int _) .nil))
    · rintro G ⟨q1, ys, q2, q3⟩
      rw [hul, List.take_length] at q3
      refine ⟨_, rfl, D, st, ys, edg ss, S, U, rfl, SqL.of q2, dpa_ex tps_le _ _ q3, ex_l q1 hst, hSU, fun a b h => ?_, hU, by unfold edg; rw [List.length_map]; exact hez, hSz, fun H' p zs e p0 hp nd so hm => k H' p zs (q1.trans e) (fresh_back q1 p0) hp nd so hm⟩
      obtain ⟨s, h1, h2, h3⟩ := edg_mem.mp h
      rw [← h3]
      exact hEU s h1
end
end AA

set_option Elab.async false
set_option linter.all false
set_option maxRecDepth 100000
set_option maxHeartbeats 4000000
/-! Who comes to one another: what an order of leaving tells. -/
namespace AA
open PySem PySem.Spec PyProof.Rows L2 Evl
/-- from a one comes to b -/
abbrev To (es : List (Int × Int)) (a b : Int) : Prop := Rch es [a] b
theorem To.refl {es : List (Int × Int)} (a : Int) : To es a a := .base List.mem_cons_self
theorem To.one {es : List (Int × Int)} {a b : Int} (h : (a, b) ∈ es) : To es a b := .step (To.refl a) h
theorem To.trans {es : List (Int × Int)} {a b c : Int} (h : To es a b) (k : To es b c) : To es a c := by
  induction k with
  | base h2 =>
    rw [List.mem_singleton.mp h2]
    exact h
  | step _ e ih => exact .step ih e
theorem rch_to {es : List (Int × Int)} {S : List Int} {v : Int} : Rch es S v ↔ ∃ a ∈ S, To es a v := by
  constructor
  · intro h
    induction h with
    | base h => exact ⟨_, h, To.refl _⟩
    | step _ e ih =>
      obtain ⟨a, h1, h2⟩ := ih
      exact ⟨a, h1, .step h2 e⟩
  · rintro ⟨a, h1, h2⟩
    induction h2 with
    | base h =>
      rw [List.mem_singleton.mp h]
      exact .base h1
    | step _ e ih => exact .step ih e
/-- all places that steps name are found, each once; and if a step leads from z to y, then y comes to all that is left between the two, if y is left behind z -/
structure Ord (es : List (Int × Int)) (found : List Int) : Prop where
  nd : found.Nodup
  q : ∀ (i : Nat) (z y : Int), found[i]? = some z → (z, y) ∈ es → ∃ m : Nat, found[m]? = some y ∧ ∀ (j : Nat) (x : Int), i ≤ j → j < m → found[j]? = some x → To es y x
/-- the steps backwards that lead to none of T -/
inductive Back (es : List (Int × Int)) (T : Int → Prop) (r : Int) : Int → Prop
  | base : Back es T r r
  | step {y x : Int} : Back es T r y → (x, y) ∈ es → ¬ T x → Back es T r x
theorem get_uniq {l : List Int} (h : l.Nodup) {i j : Nat} {x : Int} (h1 : l[i]? = some x) (h2 : l[j]? = some x) : i = j := nodup_at h h1 h2
/-- whoever comes to r, and is left no later, is come to from r -/
theorem ord_back {es : List (Int × Int)} {found : List Int} (O : Ord es found) {T : Int → Prop} {r : Int} {ir : Nat} (hr : found[ir]? = some r) (hT : ∀ (i : Nat) (x : Int), found[i]? = some x → ¬ T x → i ≤ ir) (all : ∀ a b, (a, b) ∈ es → a ∈ found) {x : Int} (h : Back es T r x) : To es x r ∧ To es r x := by
  induction h with
  | base => exact ⟨To.refl r, To.refl r⟩
  | @step y x _ e nT ih =>
    obtain ⟨h1, h2⟩ := ih
    refine ⟨(To.one e).trans h1, ?_⟩
    obtain ⟨iz, hz⟩ := List.getElem?_of_mem (all x y e)
    have le := hT iz x hz nT
    obtain ⟨m, hm, hq⟩ := O.q iz x y hz e
    by_cases c1 : iz < m
    · exact h2.trans (hq iz x (Nat.le_refl _) c1 hz)
    by_cases c2 : m = iz
    · rw [c2, hz] at hm
      rw [Option.some.inj hm]
      exact h2
    by_cases c3 : iz = ir
    · rw [c3, hr] at hz
      rw [← Option.some.inj hz]
      exact To.refl r
    have lt1 : m < iz := by omega
    have lt2 : iz < ir := by omega
    have key : ∀ v, To es y v → (∃ iv : Nat, found[iv]? = some v ∧ iv < iz) ∨ To es y x := fun v hv => by
      induction hv with
      | base hb =>
        rw [List.mem_singleton.mp hb]
        exact .inl ⟨m, hm, lt1⟩
      | @step a b hab e2 ih2 =>
        rcases ih2 with ⟨iv, h3, h4⟩ | h3
        · obtain ⟨m', h5, h6⟩ := O.q iv a b h3 e2
          have yb : To es y b := .step hab e2
          rcases Nat.lt_trichotomy m' iz with c | c | c
          · exact .inl ⟨m', h5, c⟩
          · rw [c, hz] at h5
            rw [Option.some.inj h5]
            exact .inr yb
          · exact .inr (yb.trans (h6 iz x (Nat.le_of_lt h4) c hz))
        · exact .inr h3
    rcases key r h1 with ⟨iv, h3, h4⟩ | h3
    · have := get_uniq O.nd h3 hr
      omega
    · exact h2.trans h3
/-- and whoever comes to r and back stands there -/
theorem back_of {es : List (Int × Int)} {T : Int → Prop} {r x : Int} (hT : ∀ v, To es v r → To es r v → ¬ T v) (h1 : To es x r) (h2 : To es r x) : Back es T r x := by
  -- along the way from x to r, from its end
  have walk : ∀ a, To es a r → To es r a → Back es T r a := by
    intro a ha
    have : ∀ v, To es a v → To es v r → To es r a → Back es T r v → Back es T r a := by
      intro v hv
      induction hv with
      | base hb =>
        rw [List.mem_singleton.mp hb]
        exact fun _ _ h => h
      | @step b c hab e ih =>
        intro hcr hra hback
        have hbr : To es b r := (To.one e).trans hcr
        exact ih hbr hra (.step hback e (hT b hbr (hra.trans hab)))
    exact fun hra => this r ha (To.refl r) hra .base
  exact walk x h1 h2
end AA

set_option Elab.async false
set_option linter.all false
set_option maxRecDepth 100000
set_option maxHeartbeats 4000000
/-! check_place, reached; the errors of walks and places. -/
namespace AA
open PySem PySem.Spec PyProof.Rows L2 Evl
section
variable {P : Program} {w : World} {K : PySem.W.Frag} {mg : Str → Option Value} {base : Heap}
theorem scBadPc : FnScope ["self", "place"] ["self", "place"] (defScope sBadPcInit) := ⟨rfl, rfl, rfl, by decide +kernel, rfl, by decide +kernel, by decide +kernel⟩
theorem ok_badPc {CB f fI : Addr} {fd : FuncData} (F : L2.Fun K "__init__" "BadPlace.__init__" sBadPcInit f fd) (T : ExT K mg "BadPlace" "place" CB fI) : FnOk P w K mg base CX0 1 f fd ["self", "place"] (spExI CB "place") := by
  refine F.ok scBadPc (fun vs H Q E h => ?_) (fun cdv A outer s H vs Q E hr h => ?_)
  · obtain ⟨a, v, rfl, _⟩ := h
    rfl
  · obtain ⟨a, v, rfl, ha, k⟩ := h
    exact ⟨_, pss_one (ps_ost (pv 0) (pv 1) rfl), _, rfl, _, rfl, a, CB, rfl, T.ox, T.no, .inl ⟨ha, k⟩⟩
theorem scBadWk : FnScope ["self", "walk"] ["self", "walk"] (defScope sBadWkInit) := ⟨rfl, rfl, rfl, by decide +kernel, rfl, by decide +kernel, by decide +kernel⟩
theorem ok_badWk {CB f fI : Addr} {fd : FuncData} (F : L2.Fun K "__init__" "BadWalk.__init__" sBadWkInit f fd) (T : ExT K mg "BadWalk" "walk" CB fI) : FnOk P w K mg base CX0 1 f fd ["self", "walk"] (spExI CB "walk") := by
  refine F.ok scBadWk (fun vs H Q E h => ?_) (fun cdv A outer s H vs Q E hr h => ?_)
  · obtain ⟨a, v, rfl, _⟩ := h
    rfl
  · obtain ⟨a, v, rfl, ha, k⟩ := h
    exact ⟨_, pss_one (ps_ost (pv 0) (pv 1) rfl), _, rfl, _, rfl, a, CB, rfl, T.ox, T.no, .inl ⟨ha, k⟩⟩
/-- a thing that is no place of so many -/
def NoPlc (K : PySem.W.Frag) (H : Hp) (n : Int) (v : V) : Prop := NotI K H v ∨ ∃ j : Int, v = .int j ∧ (j < 0 ∨ n ≤ j)
theorem NoPlc.ex {H H' : Hp} {n : Int} {v : V} (h : NoPlc K H n v) (e : Ex H H') : NoPlc K H' n v := h.imp (fun y => y.ex e) id
def spPlc (K : PySem.W.Frag) (CW CB : Addr) : Sp := fun vs H Q E => ∃ (x : Addr) (n : Int) (ss : List St5) (v : V), vs = [.ref x, v] ∧ WebAt K CW H x n ss ∧ ((NoPlc K H n v ∧ BadE CB "place" H v E) ∨ ∃ i : Int, v = .int i ∧ 0 ≤ i ∧ i < n ∧ Q .non H)
theorem scPlc : FnScope ["web", "place"] ["web", "place"] (defScope sCheckPlace) := ⟨rfl, rfl, rfl, by decide +kernel, rfl, by decide +kernel, by decide +kernel⟩
theorem ok_plc {f CW CB fB gP : Addr} {fd fdB ddP : FuncData} (F : L2.Fun K "check_place" "check_place" sCheckPlace f fd) (B : Bn mg) (T : WebTxt K mg CW) (TB : ExT K mg "BadPlace" "place" CB fB) (GB : FnOk P w K mg base CX0 1 fB fdB ["self", "place"] (spExI CB "place")) (bB : Binds K fdB ["self", "place"] [])
    (GP : FnOk P w K mg base CX0 1 gP ddP ["self"] (spPlaces K CW)) (bP : Binds K ddP ["self"] []) (mP : Meth K CW "places" gP) (cI : C8.Cal P w K mg base 1 "is_integer" (spIsIntegerV K) []) : FnOk P w K mg base (L2.CX P w) 3 f fd ["web", "place"] (spPlc K CW CB) := by
  refine F.okX scPlc (fun vs H Q E h => ?_) (fun cdv A outer s H vs Q E hr h => ?_)
  · obtain ⟨x, n, ss, v, rfl, _⟩ := h
    rfl
  · obtain ⟨x, n, ss, v, rfl, hw, h⟩ := h
    have hr1 : Room 1 _ := hr.mono (by decide)
    refine ⟨_, pss_one (ps_if (PW.pt (pw_or (pt_not (pt_val (C8.pe_c cI hr (by decide) (by rfl) (pa_cons (pv 1) pa_nil)))) (pw_or (pt_cmpR op_lt (pv 1) pe_int (nomark _)) (pw_or1 (pt_cmpR op_ge (pv 1) (pe_meth0 (pv 0) T.cl mP GP hr1 bP .nil pass0) (nomark _))))))
        (pss_one (ps_raise rfl (takes_of rfl rfl rfl rfl) (pmk_oex TB.ox TB.iC TB.tC GB (hr.mono (by decide)) bB .nil pass0 (by rfl) TB.gC (pa_cons (pv 1) pa_nil)))) pss_nil), ?_⟩
    obtain ⟨dx, l, kd, ys, hx, h2, h3⟩ := id hw
    have no : (wf n l kd).lookup ("places" : Str) = none := wf_no _ _ _ (by decide +kernel) (by decide +kernel) (by decide +kernel)
    rcases h with ⟨hb, kb⟩ | ⟨i, rfl, i0, i1, k⟩
    · rcases hb with hni | ⟨j, rfl, hj⟩
      · refine ⟨_, rfl, v, rfl, .inl ⟨hni, ⟨_, rfl, iteT (iteT ?_)⟩⟩⟩
        exact ⟨_, rfl, by show 1 ≤ 1000; decide, raise_go kb⟩
      · refine ⟨_, rfl, .int j, rfl, .inr ⟨j, rfl, ⟨_, rfl, iteF ?_⟩⟩⟩
        refine ⟨_, rfl, _, _, rfl, rfl, _, rfl, ?_⟩
        refine dec_ite (fun z => iteT ⟨_, rfl, by show 1 ≤ 1000; decide, raise_go kb⟩) (fun z => ?_)
        refine ⟨_, rfl, _, rfl, x, dx, _, rfl, hx, no, x, n, ss, rfl, hw, _, _, rfl, rfl, _, rfl, ?_⟩
        refine dec_ite (fun z => ⟨_, rfl, by show 1 ≤ 1000; decide, raise_go kb⟩) (fun z => ?_)
        omega
    · refine ⟨_, rfl, .int i, rfl, .inr ⟨_, rfl, ⟨_, rfl, iteF ?_⟩⟩⟩
      refine ⟨_, rfl, _, _, rfl, rfl, _, rfl, ?_⟩
      refine dec_ite (fun z => by omega) (fun z => ?_)
      refine ⟨_, rfl, _, rfl, x, dx, _, rfl, hx, no, x, n, ss, rfl, hw, _, _, rfl, rfl, _, rfl, ?_⟩
      refine dec_ite (fun z => by omega) (fun z => ?_)
      exact k
def spReached (K : PySem.W.Frag) (CW CB : Addr) : Sp := fun vs H Q E => ∃ (x : Addr) (n : Int) (ss : List St5) (v : V), vs = [.ref x, v] ∧ WebAt K CW H x n ss ∧ n < 60 ∧ (∀ s ∈ ss, StOk n s) ∧ ss.length ≤ 100000 ∧ ((NoPlc K H n v ∧ BadE CB "place" H v E) ∨ ∃ i : Int, v = .int i ∧ 0 ≤ i ∧ i < n ∧
  ∀ (H' : Hp) (p : Addr) (zs : List Int), Ex H H' → H p = none → H' p = some (.lst (zs.map V.int)) → zs.Nodup → zs.Pairwise (· ≤ ·) → (∀ v, v ∈ zs ↔ Rch (edg ss) [i] v) → Q (.ref p) H')
theorem scRd : FnScope ["web", "place"] ["web", "place"] (defScope sReached) := ⟨rfl, rfl, rfl, by decide +kernel, rfl, by decide +kernel, by decide +kernel⟩
/-- the places of a web of n -/
def plcs (n : Int) : List Int := (List.range n.toNat).map Int.ofNat
theorem plcs_mem {n i : Int} : i ∈ plcs n ↔ 0 ≤ i ∧ i < n := by
  unfold plcs
  rw [List.mem_map]
  refine ⟨fun ⟨j, h1, h2⟩ => ?_, fun h => ⟨i.toNat, List.mem_range.mpr (by omega), ?_⟩⟩
  · have := List.mem_range.mp h1
    have h2' : (j : Int) = i := h2
    omega
  · show ((i.toNat : Nat) : Int) = i
    omega
theorem plcs_len (n : Int) : (plcs n).length = n.toNat := by
  unfold plcs
  rw [List.length_map, List.length_range]
theorem ok_reached {f CW CB fP gS : Addr} {fd fdP ddS : FuncData} (F : L2.Fun K "reached" "reached" sReached f fd) (T : WebTxt K mg CW) (GPl : FnOk P w K mg base (L2.CX P w) 3 fP fdP ["web", "place"] (spPlc K CW CB)) (mPl : mg "check_place" = some (.ref fP)) (kPl : PySem.W.keepIn K (.ref fP) = true) (bPl : Binds K fdP ["web", "place"] [])
    (GS : FnOk P w K mg base CX0 1 gS ddS ["self"] (spSteps K CW)) (bS : Binds K ddS ["self"] []) (mS : Meth K CW "steps" gS) (cC : C8.Cal P w K mg base 2 "come_to" (spComeTo K) []) : FnOk P w K mg base (L2.CX P w) 4 f fd ["web", "place"] (spReached K CW CB) := by
  refine F.okX scRd (fun vs H Q E h => ?_) (fun cdv A outer s H vs Q E hr h => ?_)
  · obtain ⟨x, n, ss, v, rfl, _⟩ := h
    rfl
  · obtain ⟨x, n, ss, v, rfl, hw, hn, hok, hsz, h⟩ := h
    have hr1 : Room 1 _ := hr.mono (by decide)
    refine ⟨_, pss_cons (ps_expr (pe_callS (E := WE fun cls d _ H => E cls d H) GPl hr (by rfl) mPl kPl bPl (fun σ => passAt (takes_of rfl rfl rfl rfl) σ) (pa_cons (pv 0) (pa_cons (pv 1) pa_nil))))
      (pss_one (ps_ret (C8.pe_c cC hr (by decide) (by rfl) (pa_cons (pe_meth0 (pv 0) T.cl mS GS hr1 bS .nil pass0) (pa_cons (pe_lst (pa_cons (pv 1) pa_nil)) pa_nil))))), ?_⟩
    obtain ⟨dx, l, kd, ys, hx, h2, h3⟩ := id hw
    have no : (wf n l kd).lookup ("steps" : Str) = none := wf_no _ _ _ (by decide +kernel) (by decide +kernel) (by decide +kernel)
    rcases h with ⟨hb, kb⟩ | ⟨i, rfl, i0, i1, k⟩
    · exact ⟨_, rfl, _, rfl, x, n, ss, v, rfl, hw, .inl ⟨hb, kb⟩⟩
    · refine ⟨_, rfl, _, rfl, x, n, ss, _, rfl, hw, .inr ⟨i, rfl, i0, i1, ?_⟩⟩
      refine ⟨_, rfl, x, dx, _, rfl, hx, no, x, n, ss, rfl, hw, fun p zs hp hzs => ?_⟩
      have y1 := Ex.new (o := .lst zs) hp
      have j1 : upd H p (.lst zs) p = some (.lst zs) := upd_same
      generalize upd H p (.lst zs) = G1 at y1 j1 ⊢
      refine ⟨_, rfl, by show 1 ≤ sizeLine; decide, fun q hq => ?_⟩
      have y2 := Ex.new (o := .lst [V.int i]) hq
      have j2 : upd G1 q (.lst [V.int i]) q = some (.lst [V.int i]) := upd_same
      generalize upd G1 q (.lst [V.int i]) = G2 at y2 j2 ⊢
      refine ⟨p, q, zs, ss, [i], plcs n, rfl, SqL.of (y2 _ _ j1), dpa_ex (y1.trans y2) _ _ hzs, SqL.of j2, fun v hv => ?_, fun s hs => plcs_mem.mpr ⟨(hok s hs).t0, (hok s hs).t1⟩, by rw [plcs_len]; omega, hsz, by show 1 ≤ 100000; decide, fun H' p' zs' e p0 hp' nd so hm => k H' p' zs' ((y1.trans y2).trans e) (fresh_back (y1.trans y2) p0) hp' nd so hm⟩
      rw [List.mem_singleton.mp hv]
      exact plcs_mem.mpr ⟨i0, i1⟩
end
end AA

set_option Elab.async false
set_option linter.all false
set_option maxRecDepth 100000
set_option maxHeartbeats 4000000
/-! set(..) of a list of integers. -/
namespace AA
open PySem PySem.Spec PyProof.Rows L2 Evl
section
variable {P : Program} {w : World} {A : Around} {E : Value → Shared → Prop} {s : Shared}
set_option maxHeartbeats 8000000 in
/-- set(xs) of integers -/
theorem call_setL {l : Addr} {items : Array Value} (ks : List Int) {Q : Value → Shared → Prop} (hh : A.handled = none) (hl : s.heap.IsList l items) (hit : IntsAre items.toList ks) (few : ks.length + 1 < scanBound)
    (k : ∀ (h' : Heap) (tk c : Nat), SetR w h' s.heap.objs.size (fun j => decide (j ∈ ks)) c → c ≤ ks.length → (∀ b o, s.heap.get? b = some o → h'.get? b = some o) → Q (.ref s.heap.objs.size) { s with heap := h', toks := tk }) :
    wpAny (model P w) A (call (.type "set") [.ref l]) Q E s := by
  have hn : items.size = ks.length := by
    have z := hit.length
    rw [Array.length_toList] at z
    exact z
  obtain ⟨c, tl, hmro⟩ := F.called_set.mro
  have f1 := F.called_set.made
  have f2 := F.called_set.sub
  have f3 := F.called_set.notType
  have f4 := F.called_set.canCreate
  have f5 := F.typeCall_set_1 (.ref l)
  refine wpAny_call (codeAny_of_tree ?_)
  show wpAny _ _ (callAny (.type "set") _) _ _ _
  refine wpAny_pure ⟨Code.quiet_builtin _ (by decide +kernel), codeAny_builtin F.entry_type_call ?_⟩
  rw [Around.under_plain (weight_type_call_type "set" [.ref l] []) rfl]
  repeat (any_goals (first | assumption | wp_step))
  -- what is made
  refine codeAny_mono (code_set_led1 (.ref l) (E := E) (Q₁ := fun u z => u = .ref s.heap.objs.size ∧ z = { s with heap := s.heap.push { cls := .type "set", dict := none, data := .set #[] 0 (.fresh 0 0 (!w.params.followText "set-order")) } }) ⟨rfl, rfl⟩) fun r z hr => ?_
  cases r with
  | error e => exact hr
  | ok fl =>
    cases fl with
    | next => exact hr.elim
    | brk => exact hr.elim
    | cont => exact hr.elim
    | ret u =>
      obtain ⟨rfl, rfl⟩ := hr
      generalize hO : ({ cls := .type "set", dict := none, data := .set #[] 0 (.fresh 0 0 (!w.params.followText "set-order")) } : Obj) = O
      have new : (s.heap.push O).get? s.heap.objs.size = some O := Heap.get?_push_size _ (by rw [← hO]; rfl)
      have hT : Shared.TypeIs { s with heap := s.heap.push O } (.ref s.heap.objs.size) "set" := ⟨_, new, by rw [← hO]⟩
      have f6 := F.called_set.init.lookup
      have f7 := F.called_set.init.bind (.ref s.heap.objs.size)
      repeat (any_goals (first | assumption | wp_step))
      refine codeAny_mono (codeAny_call_builtin (R := wants (fun r z => r = .none ∧ ∃ h' tk m, z = { s with heap := h', toks := tk } ∧ SetR w h' s.heap.objs.size (fun j => decide (j ∈ ks)) m ∧ m ≤ ks.length ∧ (∀ b o, s.heap.get? b = some o → h'.get? b = some o)) E)
        F.called_set.init.plain F.entry_set_init (check_set_init_1 hT ?_)) fun r2 z2 hr2 => ?_
      case refine_2 =>
        cases r2 with
        | error e => exact hr2
        | ok fl2 =>
          cases fl2 with
          | next => exact hr2.elim
          | brk => exact hr2.elim
          | cont => exact hr2.elim
          | ret u2 =>
            obtain ⟨rfl, h', tk, m, rfl, z1, z2, z3⟩ := hr2
            repeat (any_goals (first | assumption | wp_step))
            exact k _ _ _ z1 z2 z3
      obtain ⟨ol, hol, hcl, nl, hdl⟩ := id hl
      have lt : l < s.heap.objs.size := Heap.lt_size hol
      obtain ⟨oc, od, oda, osl⟩ := ol
      simp only at hcl hdl
      subst hcl hdl
      have hol' : (s.heap.push O).get? l = some { cls := .type "list", dict := od, data := .seq items nl, slots := osl } := Heap.get?_push_of_some _ hol
      have hl1 : (s.heap.push O).IsList l items := ⟨_, hol', rfl, nl, rfl⟩
      have g1 := F.sub_list_set
      have g2 := F.sub_list_frozenset
      have g3 : (Value.type "list" == Value.type "dict") = false := by decide
      have hh3 : A.in1.in1.in1.handled = none := by simp [hh]
      have hz : (s.heap.push O).objs.size = s.heap.objs.size + 1 := Heap.size_push ..
      have ne : l ≠ (s.heap.push O).objs.size := by
        rw [hz]
        exact Nat.ne_of_lt (Nat.lt_succ_of_lt lt)
      have off : s.heap.objs.size ∉ [(s.heap.push O).objs.size, l] := by
        rw [hz]
        simp only [List.mem_cons, List.not_mem_nil, or_false, not_or]
        exact ⟨Nat.ne_of_lt (Nat.lt_succ_self _), Nat.ne_of_gt lt⟩
      have val : ∀ (i : Nat) (v : Value), items[i]? = some v → ∃ q t, ks[i]? = some q ∧ v = .int q t := fun i v hv => by
        have li : i < ks.length := hn ▸ (Array.getElem?_eq_some_iff.mp hv).1
        obtain ⟨t, e⟩ := hit.int_at i v (by rw [Array.getElem?_toList]; exact hv)
        exact ⟨ks[i], t, List.getElem?_eq_getElem li, by simpa [List.getD, li] using e⟩
      have no : ∀ b, s.heap.objs.size ≤ b → s.heap.get? b = none := fun b hb => by
        cases e : s.heap.get? b with
        | none => rfl
        | some o => exact absurd (Nat.lt_of_lt_of_le (Heap.lt_size e) hb) (Nat.lt_irrefl _)
      subst hO
      unfold Builtin.«set.__init__» noKeywords Builtin.Frozenset.updateFrom
      generalize hPI : pyIter = PI
      wp_walk
      subst hPI
      refine wpAny_pyIter_list hl1 ?_
      refine wpAny_bind (wpAny_runValue ?_)
      refine set_update_ints ((Walks.list hh3 _ l ne items).toS) s.heap.objs.size off ks hn few val (items.size - 0) 0 _ (by omega) (Nat.zero_le _) ⟨⟨_, Heap.get?_push_size _ rfl, rfl, rfl⟩, hl1.push _⟩ ?_ ?_
      · exact ⟨0, Nat.le_refl 0, setR_new_at (Heap.get?_push_of_some _ new)⟩
      · intro z m mv hm R
        obtain ⟨h', g4, d', tk', os'⟩ := z
        obtain rfl : g4 = s.gens := mv.gens
        obtain rfl : d' = s.drawn := mv.drawn
        obtain rfl : os' = s.os := mv.os
        show wpAny _ _ _ _ _ _
        refine wpAny_pure ?_
        show wpAny _ _ (ret Value.none) _ _ _
        rw [hn] at hm
        refine wpAny_pure ⟨rfl, h', tk', m, rfl, R, hm, fun b o e => ?_⟩
        refine mv.heap b o (fun hb => ?_) (Heap.get?_push_of_some _ (Heap.get?_push_of_some _ e))
        have lb := Heap.lt_size e
        simp only [List.mem_cons, List.not_mem_nil, or_false] at hb
        rcases hb with q | q
        · rw [q] at lb
          exact absurd lb (Nat.lt_irrefl _)
        · rw [q, hz] at lb
          exact absurd (Nat.lt_of_succ_lt lb) (Nat.lt_irrefl _)
end
section
variable {X : Cx}
def rSetOfI (K : PySem.W.Frag) (w : World) : List V → Hp → VK → Prop := fun vs H Q => ∃ (l : Addr) (ks : List Int), vs = [V.ref l] ∧ SqL K H l (ks.map V.int) ∧ ks.length < 1000 ∧
  ∀ a m, H a = none → m ≤ ks.length → Q (.ref a) (upd H a (SetO w a (fun j => decide (j ∈ ks)) m))
theorem cr_setOfI (hc : X.calm = true) : CallR X (.type "set") (rSetOfI X.K X.w) := by
  intro pins s σ H vs us Q I r h
  obtain ⟨l, ks, rfl, hl, few, k⟩ := h
  obtain ⟨u, rfl, ru⟩ := vals1 r
  cases (show u = Value.ref l from ru)
  obtain ⟨its, rv, pl, hz⟩ := I.list hl
  have hn : H s.heap.objs.size = none := I.hok.fresh (Nat.le_refl _)
  refine call_setL (P := X.prog) (w := X.w) ks (I.ok.hd hc) pl.isList (by simpa using intsAre_of rv) (by unfold scanBound; omega) fun h' tk m R hm kp => ?_
  exact ⟨.ref s.heap.objs.size, upd H s.heap.objs.size (SetO X.w s.heap.objs.size _ m), I.laid (t' := tk) kp (Nat.le_refl _) (setO_new R), rfl, k _ m hn hm⟩
end
end AA

set_option Elab.async false
set_option linter.all false
set_option maxRecDepth 100000
set_option maxHeartbeats 4000000
/-! left_last: the places in the order in which they are left. -/
namespace AA
open PySem PySem.Spec PyProof.Rows L2 Evl
/-- seen, found, and the way down -/
structure Lft (es : List (Int × Int)) (S sn fd td : List Int) : Prop where
  nd : (fd ++ td).Nodup
  mem : ∀ v, v ∈ sn ↔ v ∈ fd ∨ v ∈ td
  st : td.Pairwise (To es)
  j : ∀ (i : Nat) (z y : Int), fd[i]? = some z → (z, y) ∈ es → (y ∈ td ∧ ∀ (j : Nat) (x : Int), i ≤ j → fd[j]? = some x → To es y x) ∨ ∃ m : Nat, fd[m]? = some y ∧ ∀ (j : Nat) (x : Int), i ≤ j → j < m → fd[j]? = some x → To es y x
  r : ∀ v ∈ sn, Rch es S v
theorem Lft.nil {es : List (Int × Int)} {S : List Int} : Lft es S [] [] [] := ⟨List.nodup_nil, fun v => by simp, List.Pairwise.nil, fun i z y h => by simp at h, fun v h => absurd h (by simp)⟩
theorem get_app {l : List Int} {z : Int} {j : Nat} {x : Int} (h : (l ++ [z])[j]? = some x) : l[j]? = some x ∨ (j = l.length ∧ x = z) := by
  by_cases c : j < l.length
  · rw [List.getElem?_append_left c] at h
    exact .inl h
  · rw [List.getElem?_append_right (by omega)] at h
    have : j - l.length = 0 := by
      have := (List.getElem?_eq_some_iff.mp h).1
      rw [List.length_singleton] at this
      omega
    rw [this] at h
    exact .inr ⟨by omega, (Option.some.inj h).symm⟩
theorem get_lt {l : List Int} {j : Nat} {x : Int} (h : l[j]? = some x) : j < l.length := (List.getElem?_eq_some_iff.mp h).1
theorem get_old {l : List Int} {z : Int} {j : Nat} {x : Int} (h : l[j]? = some x) : (l ++ [z])[j]? = some x := by
  rw [List.getElem?_append_left (get_lt h)]
  exact h
theorem get_last (l : List Int) (z : Int) : (l ++ [z])[l.length]? = some z := by
  rw [List.getElem?_append_right (Nat.le_refl _), Nat.sub_self]
  rfl
/-- the last one is left -/
theorem Lft.leave {es : List (Int × Int)} {S sn fd ps : List Int} {z : Int} (L : Lft es S sn fd (ps ++ [z])) (hz : ∀ y, (z, y) ∈ es → y ∈ sn) : Lft es S sn (fd ++ [z]) ps := by
  obtain ⟨nd, mem, st, jj, r⟩ := L
  have stz : ∀ y ∈ ps, To es y z := fun y hy => (List.pairwise_append.mp st).2.2 y hy z (by simp)
  refine ⟨?_, fun v => ?_, (List.pairwise_append.mp st).1, fun i x y hi e => ?_, r⟩
  · have p : (fd ++ (ps ++ [z])).Perm (fd ++ [z] ++ ps) := by
      rw [List.append_assoc]
      exact List.Perm.append_left fd List.perm_append_comm
    exact p.nodup nd
  · rw [mem v, List.mem_append, List.mem_append, List.mem_singleton]
    constructor
    · rintro (h | h | h)
      · exact .inl (.inl h)
      · exact .inr h
      · exact .inl (.inr h)
    · rintro ((h | h) | h)
      · exact .inl h
      · exact .inr (.inr h)
      · exact .inr (.inl h)
  · rcases get_app hi with hi | ⟨rfl, rfl⟩
    · rcases jj i x y hi e with ⟨h1, h2⟩ | ⟨m, h1, h2⟩
      · rcases List.mem_append.mp h1 with hq | hq
        · have tz := stz y hq
          refine .inl ⟨hq, fun j w hj hw => ?_⟩
          rcases get_app hw with hw | ⟨_, ew⟩
          · exact h2 j w hj hw
          · rw [ew]
            exact tz
        · have ey := List.mem_singleton.mp hq
          refine .inr ⟨fd.length, by rw [ey]; exact get_last fd z, fun j w hj hl hw => ?_⟩
          rcases get_app hw with hw | ⟨q, _⟩
          · exact h2 j w hj hw
          · omega
      · refine .inr ⟨m, get_old h1, fun j w hj hl hw => ?_⟩
        rcases get_app hw with hw | ⟨q, _⟩
        · exact h2 j w hj hl hw
        · have := get_lt h1
          omega
    · rcases (mem y).mp (hz y e) with h | h
      · obtain ⟨m, hm⟩ := List.getElem?_of_mem h
        have := get_lt hm
        exact .inr ⟨m, get_old hm, fun j w hj hl hw => by omega⟩
      · rcases List.mem_append.mp h with hq | hq
        · have tz := stz y hq
          refine .inl ⟨hq, fun j w hj hw => ?_⟩
          rcases get_app hw with hw | ⟨_, ew⟩
          · have := get_lt hw
            omega
          · rw [ew]
            exact tz
        · rw [List.mem_singleton.mp hq]
          exact .inr ⟨fd.length, get_last fd x, fun j w hj hl hw => by omega⟩
/-- one step down -/
theorem Lft.down {es : List (Int × Int)} {S sn fd td : List Int} {w : Int} (L : Lft es S sn fd td) (hw : w ∉ sn) (hr : Rch es S w) (hto : ∀ y ∈ td, To es y w) : Lft es S (sn ++ [w]) fd (td ++ [w]) := by
  obtain ⟨nd, mem, st, jj, r⟩ := L
  refine ⟨?_, fun v => ?_, ?_, fun i x y hi e => ?_, fun v hv => ?_⟩
  · rw [← List.append_assoc]
    refine List.nodup_append.mpr ⟨nd, by simp, fun a ha b hb q => ?_⟩
    rw [List.mem_singleton.mp hb] at q
    rw [q] at ha
    exact hw ((mem w).mpr (List.mem_append.mp ha))
  · rw [List.mem_append, List.mem_append, mem v]
    exact ⟨fun h => h.elim (fun h => h.imp id .inl) fun h => .inr (.inr h), fun h => h.elim (fun h => .inl (.inl h)) fun h => h.elim (fun h => .inl (.inr h)) .inr⟩
  · exact List.pairwise_append.mpr ⟨st, List.pairwise_singleton .., fun a ha b hb => by rw [List.mem_singleton.mp hb]; exact hto a ha⟩
  · exact (jj i x y hi e).imp (fun ⟨h1, h2⟩ => ⟨List.mem_append_left _ h1, h2⟩) id
  · exact (List.mem_append.mp hv).elim (r v) fun h => by rw [List.mem_singleton.mp h]; exact hr
/-- none is open any more -/
theorem Lft.ord {es : List (Int × Int)} {S sn fd : List Int} (L : Lft es S sn fd []) (hS : ∀ v ∈ S, v ∈ sn) : Ord es fd ∧ ∀ v, v ∈ fd ↔ Rch es S v := by
  obtain ⟨nd, mem, st, jj, r⟩ := L
  have O : Ord es fd := ⟨by rw [List.append_nil] at nd; exact nd, fun i z y hi e => (jj i z y hi e).elim (fun h => absurd h.1 (by simp)) id⟩
  have sf : ∀ v, v ∈ sn ↔ v ∈ fd := fun v => (mem v).trans ⟨fun h => h.elim id fun h => absurd h (by simp), .inl⟩
  refine ⟨O, fun v => ⟨fun h => r v ((sf v).mpr h), fun h => h.closed (fun a ha => (sf a).mp (hS a ha)) fun a ha b hab => ?_⟩⟩
  obtain ⟨i, hi⟩ := List.getElem?_of_mem ha
  obtain ⟨m, hm, _⟩ := O.q i a b hi hab
  exact mem_of_get hm
end AA

set_option Elab.async false
set_option linter.all false
set_option maxRecDepth 100000
set_option maxHeartbeats 4000000
/-! left_last. -/
namespace AA
open PySem PySem.Spec PyProof.Rows L2 Evl
def pkD (q : Int × Nat) : PyData := eD (q.1, (q.2 : Int))
def mzT : List (Int × Nat) → Nat
  | [] => 0
  | q :: r => (100001 - q.2) + mzT r
theorem mzT_app : ∀ (a b : List (Int × Nat)), mzT (a ++ b) = mzT a + mzT b
  | [], b => (Nat.zero_add _).symm
  | q :: a, b => by
    show (100001 - q.2) + mzT (a ++ b) = (100001 - q.2) + mzT a + mzT b
    rw [mzT_app a b, Nat.add_assoc]
/-- how far one has looked around at z -/
def Look (rows : List (Row Int)) (sn : List Int) (q : Int × Nat) : Prop := (∀ r ∈ rows, r.1 = q.1 → q.2 ≤ r.2.2.length ∧ ∀ y ∈ r.2.2.take q.2, y ∈ sn) ∧ ((∀ r ∈ rows, r.1 ≠ q.1) → q.2 = 0)
theorem Look.more {rows : List (Row Int)} {sn sn' : List Int} {q : Int × Nat} (h : Look rows sn q) (e : ∀ v ∈ sn, v ∈ sn') : Look rows sn' q := ⟨fun r hr hq => ⟨(h.1 r hr hq).1, fun y hy => e y ((h.1 r hr hq).2 y hy)⟩, h.2⟩
section
variable {P : Program} {w : World} {K : PySem.W.Frag} {mg : Str → Option Value} {base : Heap}
def spLeft (K : PySem.W.Frag) : Sp := fun vs H Q _ => ∃ (A st : Addr) (rows : List (Row Int)) (es : List (Int × Int)) (S U : List Int), vs = [.ref A, .ref st] ∧ H A = some (.dK (rowK rows)) ∧ (rows.map (·.1)).Nodup ∧ (∀ r ∈ rows, H r.2.1 = some (.lst (r.2.2.map V.int))) ∧ (∀ r ∈ rows, r.2.2.length ≤ 100000) ∧ Tells rows es ∧
  SqL K H st (S.map V.int) ∧ (∀ v ∈ S, v ∈ U) ∧ (∀ a b, (a, b) ∈ es → b ∈ U) ∧ U.length < 64 ∧
  ∀ (H' : Hp) (p : Addr) (fd : List Int), Ex H H' → H p = none → H' p = some (.lst (fd.map V.int)) → Ord es fd → (∀ v, v ∈ fd ↔ Rch es S v) → Q (.ref p) H'
abbrev nmLL : List Str := ["ahead", "starts", "seen", "found", "start", "todo", "place", "k", "others"]
theorem scLL : FnScope nmLL ["ahead", "starts"] (defScope sLeftLast) := ⟨rfl, rfl, rfl, by decide +kernel, rfl, by decide +kernel, by decide +kernel⟩
theorem ok_left {f : Addr} {fd : FuncData} (F : L2.Fun K "left_last" "left_last" sLeftLast f fd) (B : Bn mg) : FnOk P w K mg base CX0 1 f fd ["ahead", "starts"] (spLeft K) := by
  refine F.ok scLL (fun vs H Q E h => ?_) (fun cdv Ar outer s H vs Q E hr h => ?_)
  · obtain ⟨A, st, rows, es, S, U, rfl, _⟩ := h
    rfl
  · obtain ⟨A, st, rows, es, S, U, rfl, hA, kn, hat, hrl, tl, hst, hSU, hEU, hU, kQ⟩ := h
    have hu := hr.un
    have hu1 : (Ar.deeper (envOfC "left_last" (defScope sLeftLast) s.heap.objs.size f cdv)).units + 1 < cLine := by omega
    refine ⟨_, pss_cons (ps_set (i := 2) scLL.nd rfl (Or.inl rfl) pe_dnewK)
      (pss_cons (ps_set (i := 3) scLL.nd rfl (Or.inl rfl) (pe_lst pa_nil))
      (Evl.pss_cut (ps_for PassesOwn.never rfl (pi_list (pv 1)) (pg_name (i := 4) scLL.nd rfl (Or.inl rfl))
          (Evl.pss_cut (ps_set (i := 5) scLL.nd rfl (Or.inl rfl) (pe_ifExp (pt_cmp (pc_din hu1 (pv 4) (pv 2))) (pe_lst pa_nil) (pe_lst (pa_cons (pe_tup (pa_cons (pv 4) (pa_cons pe_int pa_nil))) pa_nil))))
          (Evl.pss_cut (ps_dput hu1 (pv 2) (pv 4) pe_bl (by rfl))
          (pss_one (ps_while PassesOwn.never (pt_truth (pv 5) (fun _ => rfl))
            (pss_cons (ps_asg (pe_bm0 PySem.F.plainAttrs_list PySem.F.slot_list_pop PySem.F.type_list_pop mt_pop (pv 5)) (pg_tup (n := 2) rfl (pgs_cons (pg_name (i := 6) scLL.nd rfl (Or.inl rfl)) (pgs_cons (pg_name (i := 7) scLL.nd rfl (Or.inl rfl)) pgs_nil))))
            (pss_cons (ps_set (i := 8) scLL.nd rfl (Or.inl rfl) (pe_dget2 hu1 (pv 0) (pv 6) (pe_lst pa_nil) ⟨by rfl, by rfl, by rfl, by rfl⟩))
            (pss_one (ps_if (pt_cmpR op_eq (pv 7) (pe_callB call_len_seq (by rfl) B.len PySem.boot_len (pa_cons (pv 8) pa_nil)) (nomark _))
              (pss_one (ps_expr (pe_bm PySem.F.plainAttrs_list PySem.F.slot_list_append PySem.F.type_list_append mt_append (pv 3) (pa_cons (pv 6) pa_nil))))
              (pss_cons (ps_expr (pe_bm PySem.F.plainAttrs_list PySem.F.slot_list_append PySem.F.type_list_append mt_append (pv 5) (pa_cons (pe_tup (pa_cons (pv 6) (pa_cons (pe_op op_add (pv 7) pe_int) pa_nil))) pa_nil)))
              (pss_one (ps_if (pt_cmp (pc_dnotin hu1 (pe_ix ix_list (pv 8) (pv 7) (fun _ _ => rfl)) (pv 2)))
                (pss_cons (ps_dput hu1 (pv 2) (pe_ix ix_list (pv 8) (pv 7) (fun _ _ => rfl)) pe_bl (by rfl))
                (pss_one (ps_expr (pe_bm PySem.F.plainAttrs_list PySem.F.slot_list_append PySem.F.type_list_append mt_append (pv 5) (pa_cons (pe_tup (pa_cons (pe_ix ix_list (pv 8) (pv 7) (fun _ _ => rfl)) (pa_cons pe_int pa_nil))) pa_nil))))) pss_nil))))))))))))
      (pss_one (ps_ret (pv 3))))), ?_⟩
    intro D hD0
    have y1 := Ex.new (o := .dK []) hD0
    have j1 : upd H D (.dK []) D = some (.dK []) := upd_same
    generalize upd H D (.dK []) = G1 at y1 j1 ⊢
    refine ⟨Nat.zero_le _, fun Fo hFo0 => ?_⟩
    have y2 := Ex.new (o := .lst []) hFo0
    have j2 : upd G1 Fo (.lst []) Fo = some (.lst []) := upd_same
    have FD : Fo ≠ D := (ne_of_none j1 hFo0).symm
    have hFoH := fresh_back y1 hFo0
    generalize upd G1 Fo (.lst []) = G2 at y2 j2 ⊢
    have e2 := y1.trans y2
    have hD2 := y2 _ _ j1
    have nE : ∀ v, Rch es S v → v ∈ U := fun v h => h.in hSU hEU
    have szU : ∀ {sn fd td : List Int}, Lft es S sn fd td → sn.Nodup → sn.length ≤ U.length := fun L nd => nd_len _ U nd fun v hv => nE v (L.r v hv)
    have szT : ∀ {sn fd td : List Int}, Lft es S sn fd td → (fd ++ td).length ≤ U.length := fun L => nd_len _ U L.nd fun v hv => nE v (L.r v ((L.mem v).mpr (List.mem_append.mp hv)))
    refine ⟨fun σ G => ∃ (x4 x5 x6 x7 x8 : Option V) (sn fd : List Int), σ = [some (.ref A), some (.ref st), some (.ref D), some (.ref Fo), x4, x5, x6, x7, x8] ∧ Ex H G ∧ G Fo = some (.lst (fd.map V.int)) ∧ Lft es S sn fd [] ∧ ∀ v ∈ S, v ∈ sn, ?_, ?_⟩
    · refine ⟨_, rfl, st, rfl, ⟨_, ex_l e2 hst⟩, ?_⟩
      refine for_list (K := K) (a := st) (xs := S.map V.int) (fun i σ G => ∃ (x4 x5 x6 x7 x8 : Option V) (sn fd : List Int), σ = [some (.ref A), some (.ref st), some (.ref D), some (.ref Fo), x4, x5, x6, x7, x8] ∧ Ex H G ∧ G D = some (.dK (seenK sn)) ∧ G Fo = some (.lst (fd.map V.int)) ∧ sn.Nodup ∧ Lft es S sn fd [] ∧ ∀ v ∈ S.take i, v ∈ sn) ?_ (fun i σ G _ ⟨_, _, _, _, _, _, _, _, e, _⟩ => ex_l e hst) ?_ ?_
      · exact ⟨none, none, none, none, none, [], [], rfl, e2, hD2, j2, List.nodup_nil, Lft.nil, fun v h => absurd h (by simp)⟩
      · rintro i x σ G hx ⟨x4, x5, x6, x7, x8, sn, fd, rfl, e, hD, hF, snd, L, hS⟩
        obtain ⟨c, hc, rfl⟩ := get_ints hx
        have hcS := mem_of_get hc
        have tk : S.take (i + 1) = S.take i ++ [c] := by rw [List.take_add_one, hc]; rfl
        -- where the way begins
        refine ⟨fun σ G' => ∃ (T : Addr) (vt : List V) (td : List (Int × Nat)), σ = [some (.ref A), some (.ref st), some (.ref D), some (.ref Fo), some (.int c), some (.ref T), x6, x7, x8] ∧ Ex G G' ∧ G T = none ∧ G' T = some (.lst vt) ∧ DpAll K (tps G') vt (td.map pkD) ∧ ((c ∈ sn ∧ td = []) ∨ (c ∉ sn ∧ td = [(c, 0)])), ?_, ?_⟩
        · refine ⟨_, rfl, _, rfl, D, _, rfl, DGet.k (k := Sum.inl c) hD, ?_⟩
          rw [seenK_val]
          by_cases hin : c ∈ sn
          · rw [if_pos hin]
            refine ⟨_, rfl, iteT ⟨Nat.zero_le _, fun T hT => ?_⟩⟩
            exact ⟨T, [], [], rfl, Ex.new hT, hT, upd_same, .nil, .inl ⟨hin, rfl⟩⟩
          · rw [if_neg hin]
            refine ⟨_, rfl, iteF ⟨_, rfl, by show 2 ≤ sizeLine; decide, fun t ht => ⟨by show 1 ≤ sizeLine; decide, fun T hT => ?_⟩⟩⟩
            have z1 := Ex.new (o := .tup [V.int c, V.int 0]) ht
            refine ⟨T, [.ref t], [(c, 0)], rfl, z1.trans (Ex.new hT), fresh_back z1 hT, upd_same, .cons ?_ .nil, .inr ⟨hin, rfl⟩⟩
            exact .tup (SqT.of (tps_mono (Ex.new hT) _ _ (tps_of upd_same))) (.cons (.int c) (.cons (.int _) .nil))
        rintro σ G3 ⟨T, vt, td, rfl, e3, hT0, hT3, hvt, htd⟩
        have TD : T ≠ D := (ne_of_none hD hT0).symm
        have TF : T ≠ Fo := (ne_of_none hF hT0).symm
        have hTH := fresh_back e hT0
        have hD3 := e3 _ _ hD
        have hF3 := e3 _ _ hF
        -- seen
        refine ⟨fun σ G' => ∃ sn', σ = [some (.ref A), some (.ref st), some (.ref D), some (.ref Fo), some (.int c), some (.ref T), x6, x7, x8] ∧ Ex H G' ∧ G' D = some (.dK (seenK sn')) ∧ G' Fo = some (.lst (fd.map V.int)) ∧ G' T = some (.lst vt) ∧ DpAll K (tps G') vt (td.map pkD) ∧ sn'.Nodup ∧ Lft es S sn' fd (td.map (·.1)) ∧ (∀ v ∈ sn, v ∈ sn') ∧ c ∈ sn' ∧ ∀ q ∈ td, Look rows sn' q, ?_, ?_⟩
        · have hz := szU L snd
          have kz : (seenK sn).length < sizeLine := by
            unfold seenK
            rw [List.length_map]
            exact sz_m (by omega)
          refine ⟨_, rfl, _, rfl, D, _, rfl, DPut.k (k := Sum.inl c) hD3 kz, ?_⟩
          have nt3 : NoTup G3 D := fun xs z => by
            rw [hD3] at z
            cases z
          have hk : ∃ sn', putK (seenK sn) (Sum.inl c) (V.bl true) = seenK sn' ∧ sn'.Nodup ∧ Lft es S sn' fd (td.map (·.1)) ∧ (∀ v ∈ sn, v ∈ sn') ∧ c ∈ sn' ∧ ∀ q ∈ td, Look rows sn' q := by
            rcases htd with ⟨hin, rfl⟩ | ⟨hin, rfl⟩
            · exact ⟨sn, seenK_old hin, snd, L, fun v h => h, hin, fun q h => absurd h (by simp)⟩
            · refine ⟨sn ++ [c], seenK_new hin, ?_, L.down hin (.base hcS) fun y h => absurd h (by simp), fun v h => List.mem_append_left _ h, List.mem_append_right _ List.mem_cons_self, fun q h => ?_⟩
              · exact List.nodup_append.mpr ⟨snd, by simp, fun x hx y hy q => by
                  rw [List.mem_singleton.mp hy] at q
                  exact hin (q ▸ hx)⟩
              · rw [List.mem_singleton.mp h]
                exact ⟨fun r _ _ => ⟨Nat.zero_le _, fun y h => absurd h (by simp)⟩, fun _ => rfl⟩
          obtain ⟨sn', h1, h2, h3, h4, h5, h6⟩ := hk
          have h1' : putK (seenK sn) (Sum.inl c) (V.bl true) = seenK sn' := h1
          rw [h1']
          exact ⟨sn', rfl, (e.trans e3).mut hD0, upd_same, by rw [upd_ne FD]; exact hF3, by rw [upd_ne TD]; exact hT3, dpa_ex (tps_upd nt3) _ _ hvt, h2, h3, h4, h5, h6⟩
        rintro σ G4 ⟨sn0, rfl, e4, hD4, hF4, hT4, hvt4, snd0, L4, hsn0, hc0, hlk⟩
        -- down and up
        refine ⟨fun mm σ G' => ∃ (x6 x7 x8 : Option V) (vt : List V) (td : List (Int × Nat)) (sn' fd' : List Int), σ = [some (.ref A), some (.ref st), some (.ref D), some (.ref Fo), some (.int c), some (.ref T), x6, x7, x8] ∧ (U.length - sn'.length) * 100002 + mzT td = mm ∧ Ex H G' ∧ G' D = some (.dK (seenK sn')) ∧ G' Fo = some (.lst (fd'.map V.int)) ∧ G' T = some (.lst vt) ∧ DpAll K (tps G') vt (td.map pkD) ∧ sn'.Nodup ∧ Lft es S sn' fd' (td.map (·.1)) ∧ (∀ v ∈ sn0, v ∈ sn') ∧ ∀ q ∈ td, Look rows sn' q,
          ⟨_, x6, x7, x8, vt, td, sn0, fd, rfl, rfl, e4, hD4, hF4, hT4, hvt4, snd0, L4, (fun v h => h), hlk⟩, ?_⟩
        rintro mm σ G5 ⟨y6, y7, y8, vt5, td5, sn5, fd5, rfl, rfl, e5, hD5, hF5, hT5, hvt5, snd5, L5, hsn5, hlk5⟩
        have vl5 : vt5.length = td5.length := by
          have := dpa_len hvt5
          rw [List.length_map] at this
          exact this
        refine ⟨_, rfl, _, .inl ⟨_, SqL.of hT5, rfl⟩, ?_⟩
        have htz := szT L5
        rw [List.length_append, List.length_map] at htz
        cases hvz : vt5 with
        | nil =>
          rw [hvz] at vl5
          obtain rfl : td5 = [] := List.length_eq_zero_iff.mp vl5.symm
          refine ⟨_, _, y6, y7, y8, sn5, fd5, rfl, e5, hD5, hF5, snd5, L5, fun v hv => ?_⟩
          rw [tk] at hv
          exact (List.mem_append.mp hv).elim (fun h => hsn5 v (hsn0 v (hS v h))) fun h => by rw [List.mem_singleton.mp h]; exact hsn5 c hc0
        | cons v0 vr =>
          refine iteT ?_
          obtain ⟨ps, q, ep⟩ : ∃ ps q, td5 = ps ++ [q] := ⟨td5.dropLast, td5.getLast (fun z => by rw [z, hvz] at vl5; simp at vl5), (List.dropLast_concat_getLast _).symm⟩
          rw [ep] at hvt5 hlk5 L5 vl5 htz ⊢
          rw [List.length_append, List.length_singleton] at vl5 htz
          obtain ⟨v, hv⟩ : ∃ v, vt5[ps.length]? = some v := ⟨_, List.getElem?_eq_getElem (by omega)⟩
          have hps : DpAll K (tps G5) (vt5.take ps.length) (ps.map pkD) := by
            have hE : ((ps ++ [q]).map pkD).take ps.length = ps.map pkD := by
              rw [List.map_append]
              exact List.take_left' (List.length_map ..)
            have := dpa_take ps.length hvt5
            rw [hE] at this
            exact this
          obtain ⟨d, hd1, hd2⟩ := dpa_get hvt5 hv
          have hdq : d = pkD q := by
            rw [List.map_append, List.getElem?_append_right (by rw [List.length_map]; exact Nat.le_refl _), List.length_map, Nat.sub_self] at hd1
            exact (Option.some.inj hd1).symm
          rw [hdq] at hd2
          obtain ⟨t, rfl, ht⟩ := eD_inv (e := (q.1, (q.2 : Int))) hd2
          have ev5 : vt5 = vt5.take ps.length ++ [V.ref t] := by
            have h1 : vt5.take (ps.length + 1) = vt5 := List.take_of_length_le (by omega)
            rw [List.take_add_one, hv] at h1
            exact h1.symm
          generalize vt5.take ps.length = vp at hps ev5
          have vpl : vp.length = ps.length := by
            have := dpa_len hps
            rw [List.length_map] at this
            exact this
          have hT5' : G5 T = some (.lst (vp ++ [V.ref t])) := by rw [hT5, ev5]
          have hqU : q.1 ∈ U := nE _ (L5.r _ ((L5.mem _).mpr (.inr (by simp))))
          refine ⟨fun σ G' => ∃ (x6 x7 x8 : Option V) (vt : List V) (td : List (Int × Nat)) (sn' fd' : List Int), σ = [some (.ref A), some (.ref st), some (.ref D), some (.ref Fo), some (.int c), some (.ref T), x6, x7, x8] ∧ (U.length - sn'.length) * 100002 + mzT td < (U.length - sn5.length) * 100002 + mzT (ps ++ [q]) ∧ Ex H G' ∧ G' D = some (.dK (seenK sn')) ∧ G' Fo = some (.lst (fd'.map V.int)) ∧ G' T = some (.lst vt) ∧ DpAll K (tps G') vt (td.map pkD) ∧ sn'.Nodup ∧ Lft es S sn' fd' (td.map (·.1)) ∧ (∀ v ∈ sn0, v ∈ sn') ∧ ∀ q ∈ td, Look rows sn' q, ?_, ?_⟩
          · rintro σ' G' ⟨x6, x7, x8, vt, td, sn', fd', e', lt, r⟩
            exact ⟨_, lt, x6, x7, x8, vt, td, sn', fd', e', rfl, r⟩
          refine ⟨_, rfl, .inl ⟨rfl, _, SqL.of hT5'⟩, T, _, .ref t, rfl, rfl, hT5', by simp, ?_⟩
          rw [List.dropLast_concat]
          have e6 := e5.mut (o := .lst vp) hTH
          have hD6 : upd G5 T (.lst vp) D = some (.dK (seenK sn5)) := by rw [upd_ne TD.symm]; exact hD5
          have hF6 : upd G5 T (.lst vp) Fo = some (.lst (fd5.map V.int)) := by rw [upd_ne TF.symm]; exact hF5
          have hT6 : upd G5 T (.lst vp) T = some (.lst vp) := upd_same
          have tp6 := tps_upd (o := .lst vp) (NoTup.lst hT5')
          have ht6 := ex_t (tp6.trans tps_le) ht
          have hps6 := dpa_ex tp6 _ _ hps
          generalize upd G5 T (.lst vp) = G6 at e6 hD6 hF6 hT6 ht6 hps6 ⊢
          refine ⟨t, _, rfl, ht6, rfl, _, _, rfl, _, _, rfl, rfl, ?_⟩
          refine ⟨_, rfl, A, rfl, .inl ⟨_, .inl (e6 _ _ hA)⟩, _, rfl, Nat.zero_le _, fun p hp => ?_⟩
          have y7' := Ex.new (o := .lst []) hp
          have j7 : upd G6 p (.lst []) p = some (.lst []) := upd_same
          have pD : p ≠ D := (ne_of_none hD6 hp).symm
          have pT : p ≠ T := (ne_of_none hT6 hp).symm
          have pF : p ≠ Fo := (ne_of_none hF6 hp).symm
          generalize upd G6 p (.lst []) = G7 at y7' j7 ⊢
          have e7 := e6.trans y7'
          have hD7 := y7' _ _ hD6
          have hF7 := y7' _ _ hF6
          have hT7 := y7' _ _ hT6
          have hps7 := dpa_ex (tps_mono y7') _ _ hps6
          refine ⟨valV (rowK rows) (Sum.inl q.1), DGet.k (k := Sum.inl q.1) (e7 _ _ hA), ?_⟩
          have hlq := hlk5 q (by simp)
          obtain ⟨lb, bs, ev, hlb, lD, lT, lF, hbs, hkl, hsk, hbl, mk⟩ : ∃ (lb : Addr) (bs : List Int), (valV (rowK rows) (Sum.inl q.1)).getD (.ref p) = .ref lb ∧ G7 lb = some (.lst (bs.map V.int)) ∧ lb ≠ D ∧ lb ≠ T ∧ lb ≠ Fo ∧ (∀ b, b ∈ bs ↔ (q.1, b) ∈ es) ∧ q.2 ≤ bs.length ∧ (∀ y ∈ bs.take q.2, y ∈ sn5) ∧ bs.length ≤ 100000 ∧
              ∀ (k' : Nat) (sn' : List Int), k' ≤ bs.length → (∀ y ∈ bs.take k', y ∈ sn') → Look rows sn' (q.1, k') := by
            cases hv : valV (rowK rows) (Sum.inl q.1) with
            | none =>
              have hn := rowK_none.mp hv
              refine ⟨p, [], rfl, j7, pD, pT, pF, fun b => ⟨fun h => absurd h (by simp), fun h => ?_⟩, Nat.le_of_eq (hlq.2 hn), fun y h => absurd h (by simp), Nat.zero_le _, fun k' sn' h _ => ⟨fun r hr e => absurd e (hn r hr), fun _ => Nat.le_zero.mp h⟩⟩
              obtain ⟨r, h1, h2, _⟩ := (tl q.1 b).mp h
              exact absurd h2 (hn r h1)
            | some v =>
              obtain ⟨i, r, h1, h2, rfl⟩ := rowK_some hv
              have hm := mem_of_get h1
              have hH := hat r hm
              refine ⟨r.2.1, r.2.2, rfl, e7 _ _ hH, ne_of_none hH hD0, ne_of_none hH hTH, ne_of_none hH hFoH, fun b => ?_, (hlq.1 r hm h2).1, (hlq.1 r hm h2).2, hrl r hm, fun k' sn' h3 h4 => ⟨fun r' hr' e => ?_, fun hn => absurd h2 (hn r hm)⟩⟩
              · rw [tl.key kn h1 b, h2]
              · obtain ⟨j, hj⟩ := List.getElem?_of_mem hr'
                obtain rfl : j = i := nodup_at kn (x := q.1) (by rw [List.getElem?_map, hj, ← e]; rfl) (by rw [List.getElem?_map, h1, ← h2]; rfl)
                rw [h1] at hj
                cases hj
                exact ⟨h3, h4⟩
          rw [ev]
          have mz : mzT (ps ++ [q]) = mzT ps + (100001 - q.2) := by
            rw [mzT_app]
            rfl
          rw [mz]
          refine ⟨_, rfl, _, rfl, lb, _, rfl, .inl (SqL.of hlb), rfl, _, rfl, ?_⟩
          rw [List.length_map]
          refine dec_ite (fun hkk => ?_) (fun hkk => ?_)
          · -- left
            have hk : q.2 = bs.length := by
              have := V.int.inj hkk
              omega
            refine ⟨_, rfl, .inl ⟨rfl, _, SqL.of hF7⟩, _, rfl, Fo, _, _, rfl, rfl, hF7, by rw [List.length_map]; exact sz_m (by omega), ?_⟩
            have hE : fd5.map V.int ++ [V.int q.1] = (fd5 ++ [q.1]).map V.int := by
              rw [List.map_append]
              rfl
            rw [hE]
            rw [List.map_append] at L5
            refine ⟨_, _, _, vp, ps, sn5, fd5 ++ [q.1], rfl, by omega, e7.mut hFoH, by rw [upd_ne FD.symm]; exact hD7, upd_same, by rw [upd_ne TF]; exact hT7, dpa_ex (tps_upd (NoTup.lst hF7)) _ _ hps7, snd5, L5.leave fun y hy => ?_, hsn5, fun q' h => hlk5 q' (List.mem_append_left _ h)⟩
            refine hsk y ?_
            rw [hk, List.take_length]
            exact (hbs y).mpr hy
          · -- one further
            have hk : q.2 < bs.length := by
              rcases Nat.lt_or_ge q.2 bs.length with h | h
              · exact h
              · have : q.2 = bs.length := by omega
                exact absurd (by rw [this]) hkk
            obtain ⟨w', hw⟩ : ∃ w', bs[q.2]? = some w' := ⟨_, List.getElem?_eq_getElem hk⟩
            have hew : (q.1, w') ∈ es := (hbs w').mp (mem_of_get hw)
            have aw : atI (bs.map V.int) (q.2 : Int) = some (V.int w') := atI_nat (by rw [List.getElem?_map, hw]; rfl)
            have tkb : bs.take (q.2 + 1) = bs.take q.2 ++ [w'] := by rw [List.take_add_one, hw]; rfl
            have hzr : Rch es S q.1 := L5.r _ ((L5.mem _).mpr (.inr (by simp)))
            have rw' : Rch es S w' := .step hzr hew
            refine ⟨_, rfl, .inl ⟨rfl, _, SqL.of hT7⟩, _, rfl, _, rfl, _, _, rfl, rfl, by show 2 ≤ sizeLine; decide, fun t2 ht2 => ?_⟩
            have z1 := Ex.new (o := .tup [V.int q.1, V.int ((q.2 : Int) + 1)]) ht2
            have k1 : upd G7 t2 (.tup [V.int q.1, V.int ((q.2 : Int) + 1)]) t2 = some (.tup [V.int q.1, V.int ((q.2 : Int) + 1)]) := upd_same
            generalize upd G7 t2 (.tup [V.int q.1, V.int ((q.2 : Int) + 1)]) = G8 at z1 k1 ⊢
            have hT8 := z1 _ _ hT7
            refine ⟨T, _, _, rfl, rfl, hT8, sz_m (by omega), ?_⟩
            have e9 := (e7.trans z1).mut (o := .lst (vp ++ [.ref t2])) hTH
            have hD9 : upd G8 T (.lst (vp ++ [.ref t2])) D = some (.dK (seenK sn5)) := by rw [upd_ne TD.symm]; exact z1 _ _ hD7
            have hF9 : upd G8 T (.lst (vp ++ [.ref t2])) Fo = some (.lst (fd5.map V.int)) := by rw [upd_ne TF.symm]; exact z1 _ _ hF7
            have hl9 : upd G8 T (.lst (vp ++ [.ref t2])) lb = some (.lst (bs.map V.int)) := by rw [upd_ne lT]; exact z1 _ _ hlb
            have hT9 : upd G8 T (.lst (vp ++ [.ref t2])) T = some (.lst (vp ++ [.ref t2])) := upd_same
            have tp9 := tps_upd (o := .lst (vp ++ [.ref t2])) (NoTup.lst hT8)
            have dp9 : DpAll K (tps (upd G8 T (.lst (vp ++ [.ref t2])))) (vp ++ [.ref t2]) ((ps ++ [(q.1, q.2 + 1)]).map pkD) := by
              rw [List.map_append]
              exact dpa_app (dpa_ex ((tps_mono z1).trans tp9) _ _ hps7) (.cons (.tup (SqT.of (tp9 _ _ (tps_of k1))) (.cons (.int _) (.cons (.int _) .nil))) .nil)
            generalize upd G8 T (.lst (vp ++ [.ref t2])) = G9 at e9 hD9 hF9 hl9 hT9 dp9 ⊢
            have mz9 : mzT (ps ++ [(q.1, q.2 + 1)]) = mzT ps + (100001 - (q.2 + 1)) := by
              rw [mzT_app]
              rfl
            have mf : (ps ++ [(q.1, q.2 + 1)]).map (·.1) = (ps ++ [q]).map (·.1) := by
              rw [List.map_append, List.map_append]
              rfl
            have look9 : ∀ sn' : List Int, (∀ v ∈ sn5, v ∈ sn') → w' ∈ sn' → ∀ q' ∈ ps ++ [(q.1, q.2 + 1)], Look rows sn' q' := fun sn' h1 h2 q' h => by
              rcases List.mem_append.mp h with h | h
              · exact (hlk5 q' (List.mem_append_left _ h)).more h1
              · rw [List.mem_singleton.mp h]
                refine mk _ sn' hk fun y hy => ?_
                rw [tkb] at hy
                exact (List.mem_append.mp hy).elim (fun z => h1 y (hsk y z)) fun z => by rw [List.mem_singleton.mp z]; exact h2
            refine ⟨_, rfl, _, rfl, lb, _, (q.2 : Int), .int w', rfl, rfl, SqL.of hl9, aw, _, rfl, D, _, rfl, DGet.k (k := Sum.inl w') hD9, ?_⟩
            rw [seenK_val]
            by_cases hin : w' ∈ sn5
            · rw [if_pos hin]
              refine ⟨_, rfl, iteF ⟨_, _, _, vp ++ [.ref t2], ps ++ [(q.1, q.2 + 1)], sn5, fd5, rfl, by rw [mz9]; omega, e9, hD9, hF9, hT9, dp9, snd5, by rw [mf]; exact L5, hsn5, look9 sn5 (fun v h => h) hin⟩⟩
            · rw [if_neg hin]
              have nd2 : (sn5 ++ [w']).Nodup := List.nodup_append.mpr ⟨snd5, by simp, fun x hx y hy z => by
                rw [List.mem_singleton.mp hy] at z
                exact hin (z ▸ hx)⟩
              have L6 : Lft es S (sn5 ++ [w']) fd5 ((ps ++ [q]).map (·.1) ++ [w']) := L5.down hin rw' fun y hy => by
                rw [List.map_append] at hy
                have st := L5.st
                rw [List.map_append] at st
                rcases List.mem_append.mp hy with hy | hy
                · exact .step ((List.pairwise_append.mp st).2.2 y hy q.1 (by simp)) hew
                · have : y = q.1 := by simpa using hy
                  rw [this]
                  exact To.one hew
              have hz6 := szU L6 nd2
              rw [List.length_append, List.length_singleton] at hz6
              have kz : (seenK sn5).length < sizeLine := by
                unfold seenK
                rw [List.length_map]
                exact sz_m (by omega)
              refine ⟨_, rfl, iteT ⟨_, rfl, _, rfl, _, rfl, lb, _, (q.2 : Int), .int w', rfl, rfl, SqL.of hl9, aw, D, _, rfl, DPut.k (k := Sum.inl w') hD9 kz, ?_⟩⟩
              have h1' : putK (seenK sn5) (Sum.inl w') (V.bl true) = seenK (sn5 ++ [w']) := seenK_new hin
              rw [h1']
              have nt9 : NoTup G9 D := fun xs z => by
                rw [hD9] at z
                cases z
              have ea := e9.mut (o := .dK (seenK (sn5 ++ [w']))) hD0
              have hDa : upd G9 D (.dK (seenK (sn5 ++ [w']))) D = some (.dK (seenK (sn5 ++ [w']))) := upd_same
              have hFa : upd G9 D (.dK (seenK (sn5 ++ [w']))) Fo = some (.lst (fd5.map V.int)) := by rw [upd_ne FD]; exact hF9
              have hla : upd G9 D (.dK (seenK (sn5 ++ [w']))) lb = some (.lst (bs.map V.int)) := by rw [upd_ne lD]; exact hl9
              have hTa : upd G9 D (.dK (seenK (sn5 ++ [w']))) T = some (.lst (vp ++ [.ref t2])) := by rw [upd_ne TD]; exact hT9
              have dpa' := dpa_ex (tps_upd (o := .dK (seenK (sn5 ++ [w']))) nt9) _ _ dp9
              generalize upd G9 D (.dK (seenK (sn5 ++ [w']))) = Ga at ea hDa hFa hla hTa dpa' ⊢
              refine ⟨_, rfl, .inl ⟨rfl, _, SqL.of hTa⟩, _, rfl, _, rfl, lb, _, (q.2 : Int), .int w', rfl, rfl, SqL.of hla, aw, by show 2 ≤ sizeLine; decide, fun t3 ht3 => ?_⟩
              have zb := Ex.new (o := .tup [V.int w', V.int 0]) ht3
              have kb : upd Ga t3 (.tup [V.int w', V.int 0]) t3 = some (.tup [V.int w', V.int 0]) := upd_same
              generalize upd Ga t3 (.tup [V.int w', V.int 0]) = Gb at zb kb ⊢
              have hTb := zb _ _ hTa
              have tpb := tps_upd (o := .lst (vp ++ [.ref t2] ++ [.ref t3])) (NoTup.lst hTb)
              refine ⟨T, _, _, rfl, rfl, hTb, sz_m (by rw [List.length_append, List.length_singleton]; omega), ?_⟩
              refine ⟨_, _, _, vp ++ [.ref t2] ++ [.ref t3], ps ++ [(q.1, q.2 + 1)] ++ [(w', 0)], sn5 ++ [w'], fd5, rfl, ?_, (ea.trans zb).mut hTH, by rw [upd_ne TD.symm]; exact zb _ _ hDa, by rw [upd_ne TF.symm]; exact zb _ _ hFa, upd_same, ?_, nd2, ?_, fun v h => List.mem_append_left _ (hsn5 v h), fun q' h => ?_⟩
              · rw [mzT_app, mz9, List.length_append, List.length_singleton]
                show _ + (_ + (100001 - 0 + 0)) < _
                omega
              · rw [List.map_append]
                exact dpa_app (dpa_ex ((tps_mono zb).trans tpb) _ _ dpa') (.cons (.tup (SqT.of (tpb _ _ (tps_of kb))) (.cons (.int _) (.cons (.int _) .nil))) .nil)
              · rw [List.map_append, mf]
                exact L6
              · rcases List.mem_append.mp h with h | h
                · exact look9 _ (fun v z => List.mem_append_left _ z) (List.mem_append_right _ List.mem_cons_self) q' h
                · rw [List.mem_singleton.mp h]
                  exact ⟨fun r _ _ => ⟨Nat.zero_le _, fun y z => absurd z (by simp)⟩, fun _ => rfl⟩
      · rintro σ G ⟨x4, x5, x6, x7, x8, sn, fd, rfl, e, hD, hF, snd, L, hS⟩
        rw [List.length_map, List.take_length] at hS
        exact ⟨x4, x5, x6, x7, x8, sn, fd, rfl, e, hF, L, hS⟩
    rintro σ G6 ⟨x4, x5, x6, x7, x8, sn, fd, rfl, e6, hF6, L, hS⟩
    obtain ⟨O, hm⟩ := L.ord hS
    exact ⟨_, rfl, kQ G6 Fo fd e6 hFoH hF6 O hm⟩
end
end AA

set_option Elab.async false
set_option linter.all false
set_option maxRecDepth 100000
set_option maxHeartbeats 4000000
/-! come_back. -/
namespace AA
open PySem PySem.Spec PyProof.Rows L2 Evl
section
variable {P : Program} {w : World} {K : PySem.W.Frag} {mg : Str → Option Value} {base : Heap}
def TkD (kvs : List (Key × V)) (x : Int) : Prop := (valV kvs (Sum.inl x)).isSome = true
def spBack (K : PySem.W.Frag) : Sp := fun vs H Q _ => ∃ (A Tk : Addr) (r : Int) (kvs : List (Key × V)) (rows : List (Row Int)) (esB es : List (Int × Int)) (U : List Int), vs = [.ref A, .int r, .ref Tk] ∧ H Tk = some (.dK kvs) ∧ H A = some (.dK (rowK rows)) ∧ (rows.map (·.1)).Nodup ∧ (∀ r ∈ rows, H r.2.1 = some (.lst (r.2.2.map V.int))) ∧ Tells rows esB ∧ (∀ a b, (a, b) ∈ esB ↔ (b, a) ∈ es) ∧
  r ∈ U ∧ (∀ a b, (a, b) ∈ es → a ∈ U) ∧ U.length < 64 ∧
  ∀ (H' : Hp) (p : Addr) (l : List Int), Ex H H' → H p = none → H' p = some (.lst (l.map V.int)) → l.Nodup → (∀ v, v ∈ l ↔ Back es (TkD kvs) r v) → Q (.ref p) H'
abbrev nmBk : List Str := ["back", "start", "taken", "found", "seen", "todo", "place", "other"]
theorem scBk : FnScope nmBk ["back", "start", "taken"] (defScope sComeBack) := ⟨rfl, rfl, rfl, by decide +kernel, rfl, by decide +kernel, by decide +kernel⟩
theorem ok_back {f : Addr} {fd : FuncData} (F : L2.Fun K "come_back" "come_back" sComeBack f fd) (B : Bn mg) : FnOk P w K mg base CX0 1 f fd ["back", "start", "taken"] (spBack K) := by
  refine F.ok scBk (fun vs H Q E h => ?_) (fun cdv Ar outer s H vs Q E hr h => ?_)
  · obtain ⟨A, Tk, r, kvs, rows, esB, es, U, rfl, _⟩ := h
    rfl
  · obtain ⟨A, Tk, r, kvs, rows, esB, es, U, rfl, hTk, hA, kn, hat, tl, hBE, hrU, hEU, hU, kQ⟩ := h
    have hu := hr.un
    have hu1 : (Ar.deeper (envOfC "come_back" (defScope sComeBack) s.heap.objs.size f cdv)).units + 1 < cLine := by omega
    refine ⟨_, pss_cons (ps_set (i := 3) scBk.nd rfl (Or.inl rfl) (pe_lst (pa_cons (pv 1) pa_nil)))
      (pss_cons (ps_set (i := 4) scBk.nd rfl (Or.inl rfl) (pe_disp (pps_cons (pv 1) pe_bl pps_nil) rfl rfl (by simp) (by show 1 ≤ 15; decide)))
      (pss_cons (ps_set (i := 5) scBk.nd rfl (Or.inl rfl) (pe_lst (pa_cons (pv 1) pa_nil)))
      (Evl.pss_cut (ps_while PassesOwn.never (pt_truth (pv 5) (fun _ => rfl))
          (pss_cons (ps_set (i := 6) scBk.nd rfl (Or.inl rfl) (pe_bm0 PySem.F.plainAttrs_list PySem.F.slot_list_pop PySem.F.type_list_pop mt_pop (pv 5)))
          (pss_one (ps_for PassesOwn.never rfl (pi_list (pe_dget2 hu1 (pv 0) (pv 6) (pe_lst pa_nil) ⟨by rfl, by rfl, by rfl, by rfl⟩)) (pg_name (i := 7) scBk.nd rfl (Or.inl rfl))
            (pss_one (ps_if (PW.pt (pw_and (pt_cmp (pc_dnotin hu1 (pv 7) (pv 4))) (pw_and1 (pt_cmp (pc_dnotin hu1 (pv 7) (pv 2))))))
              (pss_cons (ps_dput hu1 (pv 4) (pv 7) pe_bl (by rfl))
              (pss_cons (ps_expr (pe_bm PySem.F.plainAttrs_list PySem.F.slot_list_append PySem.F.type_list_append mt_append (pv 3) (pa_cons (pv 7) pa_nil)))
              (pss_one (ps_expr (pe_bm PySem.F.plainAttrs_list PySem.F.slot_list_append PySem.F.type_list_append mt_append (pv 5) (pa_cons (pv 7) pa_nil)))))) pss_nil))))))
      (pss_one (ps_ret (pv 3)))))), ?_⟩
    refine ⟨_, rfl, by show 1 ≤ sizeLine; decide, fun Fo hFo => ?_⟩
    have y1 := Ex.new (o := .lst [V.int r]) hFo
    have j1 : upd H Fo (.lst [V.int r]) Fo = some (.lst [V.int r]) := upd_same
    generalize upd H Fo (.lst [V.int r]) = G1 at y1 j1 ⊢
    intro D hD0
    have y2 := Ex.new (o := .dK []) hD0
    have j2 : upd G1 D (.dK []) D = some (.dK []) := upd_same
    have FD : D ≠ Fo := (ne_of_none j1 hD0).symm
    have hDH := fresh_back y1 hD0
    generalize upd G1 D (.dK []) = G2 at y2 j2 ⊢
    refine ⟨_, rfl, j2, [(Sum.inl r, V.bl true)], rfl, by show 1 ≤ 15; decide, ?_⟩
    have hk1 : mergeK [] [((Sum.inl r : Key), V.bl true)] = seenK [r] := rfl
    rw [hk1]
    have e3 := (y1.trans y2).mut (o := .dK (seenK [r])) hDH
    have hF3 : upd G2 D (.dK (seenK [r])) Fo = some (.lst [V.int r]) := by rw [upd_ne FD.symm]; exact y2 _ _ j1
    have hD3 : upd G2 D (.dK (seenK [r])) D = some (.dK (seenK [r])) := upd_same
    generalize upd G2 D (.dK (seenK [r])) = G3 at e3 hF3 hD3 ⊢
    refine ⟨_, rfl, by show 1 ≤ sizeLine; decide, fun T hT0 => ?_⟩
    have y4 := Ex.new (o := .lst [V.int r]) hT0
    have j4 : upd G3 T (.lst [V.int r]) T = some (.lst [V.int r]) := upd_same
    have TD : T ≠ D := (ne_of_none hD3 hT0).symm
    have TF : T ≠ Fo := (ne_of_none hF3 hT0).symm
    have hTH := fresh_back e3 hT0
    generalize upd G3 T (.lst [V.int r]) = G4 at y4 j4 ⊢
    have e4 := e3.trans y4
    have bU : ∀ v, Back es (TkD kvs) r v → v ∈ U := fun v h => by
      cases h with
      | base => exact hrU
      | step _ e _ => exact hEU _ _ e
    refine ⟨fun σ G => ∃ (x6 x7 : Option V) (l : List Int), σ = [some (.ref A), some (.int r), some (.ref Tk), some (.ref Fo), some (.ref D), some (.ref T), x6, x7] ∧ Ex H G ∧ G Fo = some (.lst (l.map V.int)) ∧ l.Nodup ∧ ∀ v, v ∈ l ↔ Back es (TkD kvs) r v, ?_, ?_⟩
    · refine ⟨fun mm σ G => ∃ (x6 x7 : Option V) (l todo : List Int), σ = [some (.ref A), some (.int r), some (.ref Tk), some (.ref Fo), some (.ref D), some (.ref T), x6, x7] ∧ 2 * (U.length - l.length) + todo.length = mm ∧ mm ≤ 2 * U.length + 1 ∧ Ex H G ∧ G D = some (.dK (seenK l)) ∧ G Fo = some (.lst (l.map V.int)) ∧ G T = some (.lst (todo.map V.int)) ∧ l.Nodup ∧ r ∈ l ∧ (∀ v ∈ todo, v ∈ l) ∧ (∀ v ∈ l, Back es (TkD kvs) r v) ∧ (∀ a ∈ l, a ∉ todo → ∀ x, (x, a) ∈ es → ¬ TkD kvs x → x ∈ l),
        ⟨_, none, none, [r], [r], rfl, rfl, by show 2 * (U.length - 1) + 1 ≤ _; omega, e4, y4 _ _ hD3, y4 _ _ hF3, j4, by simp, by simp, (fun v h => h), (fun v h => by rw [List.mem_singleton.mp h]; exact .base), fun a ha hn => absurd ha hn⟩, ?_⟩
      rintro mm σ G ⟨x6, x7, l, todo, rfl, rfl, hmm, e, hD, hF, hTT, lnd, hrl, hts, hbk, hcl⟩
      refine ⟨_, rfl, _, .inl ⟨_, SqL.of hTT, rfl⟩, ?_⟩
      cases htz : todo with
      | nil =>
        refine ⟨x6, x7, l, rfl, e, hF, lnd, fun v => ⟨hbk v, fun h => ?_⟩⟩
        induction h with
        | base => exact hrl
        | step _ e nT ih => exact hcl _ ih (by rw [htz]; simp) _ e nT
      | cons t0 tr =>
        obtain ⟨ps, c, ep⟩ : ∃ ps c, todo = ps ++ [c] := ⟨todo.dropLast, todo.getLast (by rw [htz]; simp), (List.dropLast_concat_getLast _).symm⟩
        refine iteT ?_
        rw [← htz, ep]
        rw [ep] at hTT hts hcl hmm
        have hTT' : G T = some (.lst (ps.map V.int ++ [V.int c])) := by
          rw [hTT, List.map_append]
          rfl
        have hc : c ∈ l := hts c (by simp)
        have bc := hbk c hc
        refine ⟨fun σ G => ∃ (x6 x7 : Option V) (l' todo : List Int), σ = [some (.ref A), some (.int r), some (.ref Tk), some (.ref Fo), some (.ref D), some (.ref T), x6, x7] ∧ 2 * (U.length - l'.length) + todo.length < 2 * (U.length - l.length) + (ps ++ [c]).length ∧ Ex H G ∧ G D = some (.dK (seenK l')) ∧ G Fo = some (.lst (l'.map V.int)) ∧ G T = some (.lst (todo.map V.int)) ∧ l'.Nodup ∧ r ∈ l' ∧ (∀ v ∈ todo, v ∈ l') ∧ (∀ v ∈ l', Back es (TkD kvs) r v) ∧ (∀ a ∈ l', a ∉ todo → ∀ x, (x, a) ∈ es → ¬ TkD kvs x → x ∈ l'), ?_, ?_⟩
        · rintro σ' G' ⟨x6, x7, l', todo', e', lt, r⟩
          exact ⟨_, lt, x6, x7, l', todo', e', rfl, by omega, r⟩
        refine ⟨_, rfl, .inl ⟨rfl, _, SqL.of hTT'⟩, T, _, .int c, rfl, rfl, hTT', by simp, ?_⟩
        rw [List.dropLast_concat]
        have eP := e.mut (o := .lst (ps.map V.int)) hTH
        have hDP : upd G T (.lst (ps.map V.int)) D = some (.dK (seenK l)) := by rw [upd_ne TD.symm]; exact hD
        have hFP : upd G T (.lst (ps.map V.int)) Fo = some (.lst (l.map V.int)) := by rw [upd_ne TF.symm]; exact hF
        have hTP : upd G T (.lst (ps.map V.int)) T = some (.lst (ps.map V.int)) := upd_same
        generalize upd G T (.lst (ps.map V.int)) = G5 at eP hDP hFP hTP ⊢
        refine ⟨_, rfl, A, rfl, .inl ⟨_, .inl (eP _ _ hA)⟩, _, rfl, Nat.zero_le _, fun p hp => ?_⟩
        have y6 := Ex.new (o := .lst []) hp
        have j6 : upd G5 p (.lst []) p = some (.lst []) := upd_same
        have pD : p ≠ D := (ne_of_none hDP hp).symm
        have pT : p ≠ T := (ne_of_none hTP hp).symm
        have pF : p ≠ Fo := (ne_of_none hFP hp).symm
        generalize upd G5 p (.lst []) = G6 at y6 j6 ⊢
        have e6 := eP.trans y6
        refine ⟨valV (rowK rows) (Sum.inl c), DGet.k (k := Sum.inl c) (e6 _ _ hA), ?_⟩
        obtain ⟨lb, bs, ev, hlb, lD, lT, lF, hbs⟩ : ∃ (lb : Addr) (bs : List Int), (valV (rowK rows) (Sum.inl c)).getD (.ref p) = .ref lb ∧ G6 lb = some (.lst (bs.map V.int)) ∧ lb ≠ D ∧ lb ≠ T ∧ lb ≠ Fo ∧ ∀ b, b ∈ bs ↔ (b, c) ∈ es := by
          cases hv : valV (rowK rows) (Sum.inl c) with
          | none =>
            refine ⟨p, [], rfl, j6, pD, pT, pF, fun b => ⟨fun h => absurd h (by simp), fun h => ?_⟩⟩
            obtain ⟨r, h1, h2, _⟩ := (tl c b).mp ((hBE c b).mpr h)
            exact absurd h2 (rowK_none.mp hv r h1)
          | some v =>
            obtain ⟨i, r, h1, h2, rfl⟩ := rowK_some hv
            have hm := mem_of_get h1
            have hH := hat r hm
            refine ⟨r.2.1, r.2.2, rfl, e6 _ _ hH, ne_of_none hH hDH, ne_of_none hH hTH, ne_of_none hH hFo, fun b => ?_⟩
            rw [tl.key kn h1 b, h2, hBE]
        rw [ev]
        refine ⟨lb, rfl, ⟨_, SqL.of hlb⟩, ?_⟩
        refine for_list (K := K) (a := lb) (xs := bs.map V.int) (fun j σ G => ∃ (x7 : Option V) (l' todo : List Int), σ = [some (.ref A), some (.int r), some (.ref Tk), some (.ref Fo), some (.ref D), some (.ref T), some (.int c), x7] ∧ 2 * (U.length - l'.length) + todo.length ≤ 2 * (U.length - l.length) + ps.length ∧ Ex H G ∧ G lb = some (.lst (bs.map V.int)) ∧ G D = some (.dK (seenK l')) ∧ G Fo = some (.lst (l'.map V.int)) ∧ G T = some (.lst (todo.map V.int)) ∧ l'.Nodup ∧ r ∈ l' ∧ (∀ v ∈ todo, v ∈ l') ∧ (∀ v ∈ l', Back es (TkD kvs) r v) ∧
            (∀ a ∈ l', a ∉ todo → a = c ∨ ∀ x, (x, a) ∈ es → ¬ TkD kvs x → x ∈ l') ∧ ∀ b ∈ bs.take j, ¬ TkD kvs b → b ∈ l') ?_ (fun j σ G _ ⟨_, _, _, _, _, _, q, _⟩ => SqL.of q) ?_ ?_
        · refine ⟨_, l, ps, rfl, Nat.le_refl _, e6, hlb, y6 _ _ hDP, y6 _ _ hFP, y6 _ _ hTP, lnd, hrl, (fun v h => hts v (List.mem_append_left _ h)), hbk, (fun a ha hn => ?_), fun b h => absurd h (by simp)⟩
          by_cases q : a = c
          · exact .inl q
          · exact .inr (hcl a ha fun z => (List.mem_append.mp z).elim hn fun z => q (List.mem_singleton.mp z))
        · rintro j x σ G' hx ⟨y7', l', todo', rfl, hm', e', hlb', hD', hF', hT', lnd', hrl', hts', hbk', hcl', htk⟩
          obtain ⟨b, hb, rfl⟩ := get_ints hx
          have tk : bs.take (j + 1) = bs.take j ++ [b] := by rw [List.take_add_one, hb]; rfl
          have heb : (b, c) ∈ es := (hbs b).mp (mem_of_get hb)
          have skip : (¬ TkD kvs b → b ∈ l') → ∀ z ∈ bs.take (j + 1), ¬ TkD kvs z → z ∈ l' := fun h z hz nT => by
            rw [tk] at hz
            rcases List.mem_append.mp hz with q | q
            · exact htk z q nT
            · rw [List.mem_singleton.mp q] at nT ⊢
              exact h nT
          refine ⟨_, rfl, _, rfl, D, _, rfl, DGet.k (k := Sum.inl b) hD', ?_⟩
          rw [seenK_val]
          by_cases hin : b ∈ l'
          · rw [if_pos hin]
            exact ⟨_, rfl, iteF ⟨_, l', todo', rfl, hm', e', hlb', hD', hF', hT', lnd', hrl', hts', hbk', hcl', skip fun _ => hin⟩⟩
          · rw [if_neg hin]
            refine ⟨_, rfl, iteT ⟨_, rfl, _, rfl, Tk, _, rfl, DGet.k (k := Sum.inl b) (e' _ _ hTk), ?_⟩⟩
            cases hv : valV kvs (Sum.inl b) with
            | some v => exact ⟨_, rfl, iteF ⟨_, l', todo', rfl, hm', e', hlb', hD', hF', hT', lnd', hrl', hts', hbk', hcl', skip fun nT => absurd (by show (valV kvs (Sum.inl b)).isSome = true; rw [hv]; rfl) nT⟩⟩
            | none =>
              have nT : ¬ TkD kvs b := fun z => by
                have z' : (valV kvs (Sum.inl b)).isSome = true := z
                rw [hv] at z'
                cases z'
              refine ⟨_, rfl, iteT ?_⟩
              have bb : Back es (TkD kvs) r b := .step bc heb nT
              have nd2 : (l' ++ [b]).Nodup := List.nodup_append.mpr ⟨lnd', by simp, fun x hx y hy q => by
                rw [List.mem_singleton.mp hy] at q
                exact hin (q ▸ hx)⟩
              have hz := nd_len (l' ++ [b]) U nd2 fun v hv => (List.mem_append.mp hv).elim (fun q => bU v (hbk' v q)) fun q => by rw [List.mem_singleton.mp q]; exact bU b bb
              rw [List.length_append, List.length_singleton] at hz
              have kz : (seenK l').length < sizeLine := by
                unfold seenK
                rw [List.length_map]
                exact sz_m (by omega)
              refine ⟨_, rfl, _, rfl, D, _, rfl, DPut.k (k := Sum.inl b) hD' kz, ?_⟩
              have hk : putK (seenK l') (Sum.inl b) (V.bl true) = seenK (l' ++ [b]) := seenK_new hin
              rw [hk]
              have e7 := e'.mut (o := .dK (seenK (l' ++ [b]))) hDH
              have hD7 : upd G' D (.dK (seenK (l' ++ [b]))) D = some (.dK (seenK (l' ++ [b]))) := upd_same
              have hF7 : upd G' D (.dK (seenK (l' ++ [b]))) Fo = some (.lst (l'.map V.int)) := by rw [upd_ne FD.symm]; exact hF'
              have hT7 : upd G' D (.dK (seenK (l' ++ [b]))) T = some (.lst (todo'.map V.int)) := by rw [upd_ne TD]; exact hT'
              have hl7 : upd G' D (.dK (seenK (l' ++ [b]))) lb = some (.lst (bs.map V.int)) := by rw [upd_ne lD]; exact hlb'
              generalize upd G' D (.dK (seenK (l' ++ [b]))) = G7 at e7 hD7 hF7 hT7 hl7 ⊢
              refine ⟨_, rfl, .inl ⟨rfl, _, SqL.of hF7⟩, _, rfl, Fo, _, _, rfl, rfl, hF7, by rw [List.length_map]; exact sz_m (by omega), ?_⟩
              have hE : l'.map V.int ++ [V.int b] = (l' ++ [b]).map V.int := by
                rw [List.map_append]
                rfl
              rw [hE]
              have e8 := e7.mut (o := .lst ((l' ++ [b]).map V.int)) hFo
              have hD8 : upd G7 Fo (.lst ((l' ++ [b]).map V.int)) D = some (.dK (seenK (l' ++ [b]))) := by rw [upd_ne FD]; exact hD7
              have hF8 : upd G7 Fo (.lst ((l' ++ [b]).map V.int)) Fo = some (.lst ((l' ++ [b]).map V.int)) := upd_same
              have hT8 : upd G7 Fo (.lst ((l' ++ [b]).map V.int)) T = some (.lst (todo'.map V.int)) := by rw [upd_ne TF]; exact hT7
              have hl8 : upd G7 Fo (.lst ((l' ++ [b]).map V.int)) lb = some (.lst (bs.map V.int)) := by rw [upd_ne lF]; exact hl7
              generalize upd G7 Fo (.lst ((l' ++ [b]).map V.int)) = G8 at e8 hD8 hF8 hT8 hl8 ⊢
              rw [List.length_append, List.length_singleton] at hmm
              refine ⟨_, rfl, .inl ⟨rfl, _, SqL.of hT8⟩, _, rfl, T, _, _, rfl, rfl, hT8, by rw [List.length_map]; exact sz_m (by omega), ?_⟩
              have hE2 : todo'.map V.int ++ [V.int b] = (todo' ++ [b]).map V.int := by
                rw [List.map_append]
                rfl
              rw [hE2]
              refine ⟨_, l' ++ [b], todo' ++ [b], rfl, by rw [List.length_append, List.length_append, List.length_singleton]; omega, e8.mut hTH, by rw [upd_ne lT]; exact hl8, by rw [upd_ne TD.symm]; exact hD8, by rw [upd_ne TF.symm]; exact hF8, upd_same, nd2, List.mem_append_left _ hrl', fun v h => ?_, fun v h => ?_, fun a ha hn => ?_, fun z hz nT => ?_⟩
              · exact (List.mem_append.mp h).elim (fun q => List.mem_append_left _ (hts' v q)) fun q => List.mem_append_right _ q
              · exact (List.mem_append.mp h).elim (hbk' v) fun q => by rw [List.mem_singleton.mp q]; exact bb
              · rcases List.mem_append.mp ha with ha | ha
                · exact (hcl' a ha fun z => hn (List.mem_append_left _ z)).imp id fun q x hx nx => List.mem_append_left _ (q x hx nx)
                · exact absurd (List.mem_append_right _ ha) hn
              · rw [tk] at hz
                exact (List.mem_append.mp hz).elim (fun q => List.mem_append_left _ (htk z q nT)) fun q => List.mem_append_right _ q
        · rintro σ G' ⟨y7', l', todo', rfl, hm', e', hlb', hD', hF', hT', lnd', hrl', hts', hbk', hcl', htk⟩
          rw [List.length_map, List.take_length] at htk
          refine ⟨_, _, l', todo', rfl, by rw [List.length_append, List.length_singleton]; omega, e', hD', hF', hT', lnd', hrl', hts', hbk', fun a ha hn x hx nT => ?_⟩
          rcases hcl' a ha hn with q | q
          · rw [q] at hx
            exact htk x ((hbs x).mpr hx) nT
          · exact q x hx nT
    rintro σ G7 ⟨x6, x7, l, rfl, e7, hF7, lnd, hm⟩
    exact ⟨_, rfl, kQ G7 Fo l e7 hFo hF7 lnd hm⟩
end
end AA

set_option Elab.async false
set_option linter.all false
set_option maxRecDepth 100000
set_option maxHeartbeats 4000000
/-! Lots, one by one; a loop over reversed(xs). -/
namespace AA
open PySem PySem.Spec PyProof.Rows L2 Evl
/-- they come to one another -/
def Sm2 (es : List (Int × Int)) (a b : Int) : Prop := To es a b ∧ To es b a
theorem Sm2.refl {es : List (Int × Int)} (a : Int) : Sm2 es a a := ⟨To.refl a, To.refl a⟩
theorem Sm2.symm {es : List (Int × Int)} {a b : Int} (h : Sm2 es a b) : Sm2 es b a := ⟨h.2, h.1⟩
theorem Sm2.trans {es : List (Int × Int)} {a b c : Int} (h : Sm2 es a b) (k : Sm2 es b c) : Sm2 es a c := ⟨h.1.trans k.1, k.2.trans h.2⟩
/-- places with the least of their lot, as a dict -/
def leK (l : List (Int × Int)) : List (Key × V) := l.map fun q => (Sum.inl q.1, V.int q.2)
theorem leK_none {v : Int} : ∀ {l : List (Int × Int)}, valV (leK l) (Sum.inl v) = none ↔ v ∉ l.map (·.1)
  | [] => ⟨fun _ h => absurd h (by simp), fun _ => rfl⟩
  | q :: l => by
    by_cases e : q.1 = v
    · have h1 : valV (leK (q :: l)) (Sum.inl v) = some (V.int q.2) := valV_pos (p := (Sum.inl q.1, V.int q.2)) (by rw [e])
      rw [h1]
      refine ⟨fun h => (nomatch h), fun h => absurd ?_ h⟩
      rw [List.map_cons, e]
      exact List.mem_cons_self
    · have h1 : valV (leK (q :: l)) (Sum.inl v) = valV (leK l) (Sum.inl v) := valV_neg (p := (Sum.inl q.1, V.int q.2)) fun z => e (Sum.inl.inj z)
      rw [h1, leK_none (l := l), List.map_cons, List.mem_cons]
      exact ⟨fun h z => z.elim (fun y => e y.symm) h, fun h z => h (.inr z)⟩
theorem leK_some {v : Int} {u : V} : ∀ {l : List (Int × Int)}, valV (leK l) (Sum.inl v) = some u → ∃ m, (v, m) ∈ l ∧ u = .int m
  | [], h => by cases h
  | q :: l, h => by
    by_cases e : q.1 = v
    · have h1 : valV (leK (q :: l)) (Sum.inl v) = some (V.int q.2) := valV_pos (p := (Sum.inl q.1, V.int q.2)) (by rw [e])
      rw [h1] at h
      cases h
      exact ⟨q.2, by rw [← e]; exact List.mem_cons_self, rfl⟩
    · have h1 : valV (leK (q :: l)) (Sum.inl v) = valV (leK l) (Sum.inl v) := valV_neg (p := (Sum.inl q.1, V.int q.2)) fun z => e (Sum.inl.inj z)
      rw [h1] at h
      obtain ⟨m, h2, h3⟩ := leK_some h
      exact ⟨m, List.mem_cons_of_mem _ h2, h3⟩
theorem leK_new {v m : Int} {l : List (Int × Int)} (h : v ∉ l.map (·.1)) : putK (leK l) (Sum.inl v) (V.int m) = leK (l ++ [(v, m)]) := by
  rw [putK_new _ (leK_none.mpr h)]
  unfold leK
  rw [List.map_append]
  rfl
theorem leK_tk {v : Int} {l : List (Int × Int)} : TkD (leK l) v ↔ v ∈ l.map (·.1) := by
  unfold TkD
  cases h : valV (leK l) (Sum.inl v) with
  | none => exact ⟨fun z => (nomatch z), fun z => absurd z (leK_none.mp h)⟩
  | some u =>
    refine ⟨fun _ => ?_, fun _ => rfl⟩
    obtain ⟨m, h1, _⟩ := leK_some h
    exact List.mem_map.mpr ⟨_, h1, rfl⟩
/-- what is known while the places are taken lot by lot, from the last one that is left -/
structure Lots (es : List (Int × Int)) (fd : List Int) (j : Nat) (l : List (Int × Int)) : Prop where
  nd : (l.map (·.1)).Nodup
  inF : ∀ v ∈ l.map (·.1), v ∈ fd
  cl : ∀ v ∈ l.map (·.1), ∀ u, Sm2 es v u → u ∈ l.map (·.1)
  past : ∀ (i : Nat) (x : Int), fd.length - j ≤ i → fd[i]? = some x → x ∈ l.map (·.1)
  least : ∀ q ∈ l, Sm2 es q.1 q.2 ∧ ∀ u, Sm2 es q.1 u → q.2 ≤ u
theorem Lots.nil {es : List (Int × Int)} {fd : List Int} : Lots es fd 0 [] := ⟨List.nodup_nil, fun v h => absurd h (by simp), fun v h => absurd h (by simp), fun i x h1 h2 => by
  have := get_lt h2
  omega, fun q h => absurd h (by simp)⟩
theorem Lots.skip {es : List (Int × Int)} {fd : List Int} {j : Nat} {l : List (Int × Int)} {r : Int} (L : Lots es fd j l) (hj : j < fd.length) (hr : fd[fd.length - 1 - j]? = some r) (h : r ∈ l.map (·.1)) : Lots es fd (j + 1) l := ⟨L.nd, L.inF, L.cl, fun i x h1 h2 => by
  by_cases e : i = fd.length - 1 - j
  · rw [e, hr] at h2
    rw [← Option.some.inj h2]
    exact h
  · exact L.past i x (by omega) h2, L.least⟩
/-- who comes back to r is its lot -/
theorem Lots.group {es : List (Int × Int)} {fd : List Int} {j : Nat} {l : List (Int × Int)} {r : Int} (L : Lots es fd j l) (O : Ord es fd) (all : ∀ a b, (a, b) ∈ es → a ∈ fd) (hj : j < fd.length) (hr : fd[fd.length - 1 - j]? = some r) (h : r ∉ l.map (·.1)) (v : Int) : Back es (TkD (leK l)) r v ↔ Sm2 es r v := by
  constructor
  · intro hb
    have := ord_back O hr (fun i x hx nT => ?_) all hb
    · exact ⟨this.2, this.1⟩
    · rcases Nat.lt_or_ge (fd.length - 1 - j) i with c | c
      · exact absurd (leK_tk.mpr (L.past i x (by omega) hx)) nT
      · exact c
  · intro hs
    exact back_of (fun u h1 h2 hT => h (L.cl u (leK_tk.mp hT) r ⟨h1, h2⟩)) hs.2 hs.1
theorem Lots.take {es : List (Int × Int)} {fd : List Int} {j : Nat} {l : List (Int × Int)} {r m : Int} {g : List Int} (L : Lots es fd j l) (hj : j < fd.length) (hr : fd[fd.length - 1 - j]? = some r) (h : r ∉ l.map (·.1)) (gn : g.Nodup) (hg : ∀ v, v ∈ g ↔ Sm2 es r v) (gF : ∀ v ∈ g, v ∈ fd) (hm : m ∈ g) (hl : ∀ y ∈ g, m ≤ y) :
    Lots es fd (j + 1) (l ++ g.map fun v => (v, m)) := by
  have mf : (l ++ g.map fun v => (v, m)).map (·.1) = l.map (·.1) ++ g := by
    rw [List.map_append, List.map_map]
    congr 1
    exact List.map_id g
  have off : ∀ v ∈ g, v ∉ l.map (·.1) := fun v hv z => h (L.cl v z r ((hg v).mp hv).symm)
  refine ⟨?_, fun v hv => ?_, fun v hv u hu => ?_, fun i x h1 h2 => ?_, fun q hq => ?_⟩
  · rw [mf]
    exact List.nodup_append.mpr ⟨L.nd, gn, fun x hx y hy e => off y hy (e ▸ hx)⟩
  · rw [mf] at hv
    exact (List.mem_append.mp hv).elim (L.inF v) (gF v)
  · rw [mf] at hv ⊢
    rcases List.mem_append.mp hv with hv | hv
    · exact List.mem_append_left _ (L.cl v hv u hu)
    · exact List.mem_append_right _ ((hg u).mpr (((hg v).mp hv).trans hu))
  · rw [mf]
    by_cases e : i = fd.length - 1 - j
    · rw [e, hr] at h2
      rw [← Option.some.inj h2]
      exact List.mem_append_right _ ((hg r).mpr (Sm2.refl r))
    · exact List.mem_append_left _ (L.past i x (by omega) h2)
  · rcases List.mem_append.mp hq with hq | hq
    · exact L.least q hq
    · obtain ⟨v, hv, rfl⟩ := List.mem_map.mp hq
      have rv := (hg v).mp hv
      exact ⟨rv.symm.trans ((hg m).mp hm), fun u hu => hl u ((hg u).mpr (rv.trans hu))⟩
/-- at the end each place has the least of its lot -/
theorem Lots.done {es : List (Int × Int)} {fd : List Int} {l : List (Int × Int)} (L : Lots es fd fd.length l) (v : Int) : v ∈ l.map (·.1) ↔ v ∈ fd := by
  refine ⟨L.inF v, fun h => ?_⟩
  obtain ⟨i, hi⟩ := List.getElem?_of_mem h
  exact L.past i v (by omega) hi
/-- a loop over reversed(xs) -/
theorem for_revL {K : PySem.W.Frag} {a : Addr} {xs : List V} {g : TG} {tb : TS} {D : Ends} {σ : L2.St} {H : Hp} (Pv : Nat → L2.St → Hp → Prop) (h0 : Pv 0 σ H) (hq : ∀ i σ H, i ≤ xs.length → Pv i σ H → SqL K H a xs)
    (hs : ∀ i x σ H, i < xs.length → xs[xs.length - 1 - i]? = some x → Pv i σ H → g x σ H fun σ2 H2 => tb { D with nx := Pv (i + 1), ct := Pv (i + 1), bk := D.nx } σ2 H2) (hd : ∀ σ H, Pv xs.length σ H → D.nx σ H) :
    ∃ W : Nat → Nat → L2.St → Hp → Prop, (∃ m, W 0 m σ H) ∧ ∀ i m σ H, W i m σ H →
      ((Itv K a xs.length).stop i H ∧ D.nx σ H) ∨ ((Itv K a xs.length).go i H ∧ ∃ N : L2.St → Hp → Prop, (∀ σ' H', N σ' H' → ∃ m', m' < m ∧ W (i + 1) m' σ' H') ∧ ∀ x H', (Itv K a xs.length).yld i H x H' → g x σ H' fun σ2 H2 => tb { D with nx := N, ct := N, bk := D.nx } σ2 H2) := by
  refine ⟨fun i m σ H => m = xs.length - i ∧ i ≤ xs.length ∧ Pv i σ H, ⟨xs.length, by simp, Nat.zero_le _, h0⟩, ?_⟩
  rintro i m σ H ⟨rfl, hi, p⟩
  have q := hq i σ H hi p
  by_cases lt : i < xs.length
  · have hx : xs[xs.length - 1 - i]? = some (xs[xs.length - 1 - i]'(by omega)) := List.getElem?_eq_getElem (by omega)
    refine .inr ⟨⟨lt, xs, _, q, hx⟩, Pv (i + 1), fun σ' H' p' => ⟨xs.length - (i + 1), by omega, rfl, lt, p'⟩, fun x H' y => ?_⟩
    obtain ⟨rfl, y⟩ := y
    exact hs i x σ _ lt (y xs q) p
  · obtain rfl : i = xs.length := by omega
    exact .inl ⟨Nat.le_refl _, hd σ H p⟩
end AA

set_option Elab.async false
set_option linter.all false
set_option maxRecDepth 100000
set_option maxHeartbeats 4000000
/-! together_of. -/
namespace AA
open PySem PySem.Spec PyProof.Rows L2 Evl
theorem Adj.keep {α : Type} {f : α → V} {H G G' : Hp} {A B : Addr} {rows : List (Row α)} {rowsB : List (Row α)} (h : Adj f H G B rowsB) (k : ∀ z o, G z = some o → z ≠ A → (∀ r ∈ rows, z ≠ r.2.1) → G' z = some o) (BA : B ≠ A) (Br : ∀ r ∈ rows, B ≠ r.2.1) (d1 : ∀ q ∈ rowsB, q.2.1 ≠ A) (d2 : ∀ q ∈ rowsB, ∀ r ∈ rows, q.2.1 ≠ r.2.1) : Adj f H G' B rowsB :=
  ⟨k _ _ h.dk BA Br, h.kn, h.an, h.fr, fun q hq => k _ _ (h.at' q hq) (d1 q hq) (d2 q hq)⟩
/-- a list of the dict has one more -/
def PutOk (H G G' : Hp) (A : Addr) (rows : List (Row Int)) (es' : List (Int × Int)) (i : Nat) : Prop := ∃ rows' : List (Row Int), Ex H G' ∧ Adj V.int H G' A rows' ∧ Tells rows' es' ∧ rows'.length ≤ i ∧ (∀ r ∈ rows', r.2.2.length ≤ i ∧ r.2.2 ≠ []) ∧
  (∀ z o, G z = some o → z ≠ A → (∀ r ∈ rows, z ≠ r.2.1) → G' z = some o) ∧ ∀ r' ∈ rows', (∃ r ∈ rows, r.2.1 = r'.2.1) ∨ G r'.2.1 = none
theorem put_old {H G G1 : Hp} {A : Addr} {rows : List (Row Int)} {es : List (Int × Int)} {i j : Nat} {r : Row Int} (e : Ex H G1) (y : Ex G G1) (ad : Adj V.int H G1 A rows) (tl : Tells rows es) (rl : rows.length ≤ i) (bl : ∀ r ∈ rows, r.2.2.length ≤ i ∧ r.2.2 ≠ []) (hr : rows[j]? = some r) (b : Int) : PutOk H G (L2.upd G1 r.2.1 (.lst ((r.2.2 ++ [b]).map V.int))) A rows (es ++ [(r.1, b)]) (i + 1) := by
  have hm := mem_of_get hr
  refine ⟨rows.set j (r.1, r.2.1, r.2.2 ++ [b]), e.mut (ad.fr r hm).1, ad.more hr b, tl.more hr b, by rw [List.length_set]; omega, fun s hs => ?_, fun z o hz zA zr => ?_, fun s hs => ?_⟩
  · rcases (mem_set hr).mp hs with rfl | ⟨j', _, hj⟩
    · refine ⟨?_, by simp⟩
      show (r.2.2 ++ [b]).length ≤ i + 1
      rw [List.length_append]
      exact Nat.succ_le_succ (bl r hm).1
    · have := bl s (mem_of_get hj)
      exact ⟨by omega, this.2⟩
  · rw [upd_ne (zr r hm)]
    exact y _ _ hz
  · rcases (mem_set hr).mp hs with rfl | ⟨j', _, hj⟩
    · exact .inl ⟨r, hm, rfl⟩
    · exact .inl ⟨s, mem_of_get hj, rfl⟩
theorem put_new {H G G1 : Hp} {A p : Addr} {rows : List (Row Int)} {es : List (Int × Int)} {i : Nat} {a : Int} (e : Ex H G1) (y : Ex G G1) (hA : H A = none) (hp : G p = none) (eG : Ex H G) (ad : Adj V.int H G1 A rows) (ad0 : Adj V.int H G A rows) (tl : Tells rows es) (rl : rows.length ≤ i) (bl : ∀ r ∈ rows, r.2.2.length ≤ i ∧ r.2.2 ≠ []) (hn : ∀ r ∈ rows, r.1 ≠ a) (b : Int) : PutOk H G (L2.upd (L2.upd G1 A (.dK (putK (rowK rows) (Sum.inl a) (V.ref p)))) p (.lst [V.int b])) A rows (es ++ [(a, b)]) (i + 1) := by
  have pA : p ≠ A := (ne_of_none ad0.dk hp).symm
  have pr : ∀ r ∈ rows, p ≠ r.2.1 := fun r hr => (ne_of_none (ad0.at' r hr) hp).symm
  have p0 := fresh_back eG hp
  refine ⟨rows ++ [(a, p, [b])], (e.mut hA).mut p0, ad.new hn p0 pA pr ad.dk, tl.new a p b, by rw [List.length_append]; exact Nat.succ_le_succ rl, fun s hs => ?_, fun z o hz zA zr => ?_, fun s hs => ?_⟩
  · rcases List.mem_append.mp hs with hs | hs
    · have := bl s hs
      exact ⟨by omega, this.2⟩
    · rw [List.mem_singleton.mp hs]
      exact ⟨by show 1 ≤ i + 1; omega, by simp⟩
  · have zp : z ≠ p := ne_of_none hz hp
    rw [upd_ne zp, upd_ne zA]
    exact y _ _ hz
  · rcases List.mem_append.mp hs with hs | hs
    · exact .inl ⟨s, hs, rfl⟩
    · rw [List.mem_singleton.mp hs]
      exact .inr hp
/-- two such dicts beside one another -/
def TwoOk (H G : Hp) (A B : Addr) (rA rB : List (Row Int)) : Prop := Adj V.int H G A rA ∧ Adj V.int H G B rB ∧ (∀ r ∈ rA, ∀ q ∈ rB, r.2.1 ≠ q.2.1) ∧ (∀ q ∈ rB, A ≠ q.2.1) ∧ ∀ r ∈ rA, B ≠ r.2.1
theorem TwoOk.symm {H G : Hp} {A B : Addr} {rA rB : List (Row Int)} (h : TwoOk H G A B rA rB) : TwoOk H G B A rB rA := ⟨h.2.1, h.1, fun r hr q hq e => h.2.2.1 q hq r hr e.symm, h.2.2.2.2, h.2.2.2.1⟩
theorem TwoOk.put {H G G' : Hp} {A B : Addr} {rA rB : List (Row Int)} {es' : List (Int × Int)} {i : Nat} (h : TwoOk H G A B rA rB) (BA : B ≠ A) (p : PutOk H G G' A rA es' i) : ∃ rA', Ex H G' ∧ TwoOk H G' A B rA' rB ∧ Tells rA' es' ∧ rA'.length ≤ i ∧ ∀ r ∈ rA', r.2.2.length ≤ i ∧ r.2.2 ≠ [] := by
  obtain ⟨rA', e, ad, tl, rl, bl, k, ds⟩ := p
  obtain ⟨hA, hB, d1, d2, d3⟩ := h
  refine ⟨rA', e, ⟨ad, hB.keep k BA d3 (fun q hq => (d2 q hq).symm) fun q hq r hr z => d1 r hr q hq z.symm, fun r hr q hq => ?_, d2, fun r hr => ?_⟩, tl, rl, bl⟩
  · rcases ds r hr with ⟨r0, h1, h2⟩ | h1
    · rw [← h2]
      exact d1 r0 h1 q hq
    · exact (ne_of_none (hB.at' q hq) h1).symm
  · rcases ds r hr with ⟨r0, h1, h2⟩ | h1
    · rw [← h2]
      exact d3 r0 h1
    · exact ne_of_none hB.dk h1
def bdg (ss : List St5) : List (Int × Int) := ss.map fun s => (s.other, s.one)
theorem bdg_edg {ss : List St5} {a b : Int} : (a, b) ∈ bdg ss ↔ (b, a) ∈ edg ss := by
  unfold bdg
  rw [List.mem_map, edg_mem]
  exact ⟨fun ⟨s, h1, h2⟩ => ⟨s, h1, (Prod.mk.inj h2).2, (Prod.mk.inj h2).1⟩, fun ⟨s, h1, h2, h3⟩ => ⟨s, h1, by rw [h2, h3]⟩⟩
section
variable {P : Program} {w : World} {K : PySem.W.Frag} {mg : Str → Option Value} {base : Heap}
/-- a place that a step names -/
def Nmd (ss : List St5) (v : Int) : Prop := ∃ s ∈ ss, s.one = v ∨ s.other = v
def spTog (K : PySem.W.Frag) : Sp := fun vs H Q _ => ∃ (l : Addr) (us : List V) (ss : List St5) (U : List Int), vs = [.ref l] ∧ SqL K H l us ∧ DpAll K H us (ss.map stD) ∧ ss.length ≤ 1000 ∧ (∀ s ∈ ss, s.one ∈ U ∧ s.other ∈ U) ∧ U.length < 64 ∧
  ∀ (H' : Hp) (p : Addr) (q : List (Int × Int)), Ex H H' → H p = none → H' p = some (.dK (leK q)) → (q.map (·.1)).Nodup → (∀ v, v ∈ q.map (·.1) ↔ Nmd ss v) → (∀ x ∈ q, Sm2 (edg ss) x.1 x.2 ∧ ∀ u, Sm2 (edg ss) x.1 u → x.2 ≤ u) → Q (.ref p) H'
abbrev nmTg : List Str := ["steps", "ahead", "back", "step", "least", "start", "group", "first", "place"]
theorem scTg : FnScope nmTg ["steps"] (defScope sTogether) := ⟨rfl, rfl, rfl, by decide +kernel, rfl, by decide +kernel, by decide +kernel⟩
theorem ok_tog {f : Addr} {fd : FuncData} (F : L2.Fun K "together_of" "together_of" sTogether f fd) (B : Bn mg) (hmin : mg "min" = none) (hrev : mg "reversed" = none) (cL : C8.Cal P w K mg base 1 "left_last" (spLeft K) []) (cB : C8.Cal P w K mg base 1 "come_back" (spBack K) []) : FnOk P w K mg base CX0 2 f fd ["steps"] (spTog K) := by
  refine F.ok scTg (fun vs H Q E h => ?_) (fun cdv Ar outer s H vs Q E hr h => ?_)
  · obtain ⟨l, us, ss, U, rfl, _⟩ := h
    rfl
  · obtain ⟨l, us, ss, U, rfl, hl, hD, hsz, hSU, hU, kQ⟩ := h
    have hu := hr.un
    have hu1 : (Ar.deeper (envOfC "together_of" (defScope sTogether) s.heap.objs.size f cdv)).units + 1 < cLine := by omega
    refine ⟨_, pss_cons (ps_set (i := 1) scTg.nd rfl (Or.inl rfl) pe_dnewK)
      (pss_cons (ps_set (i := 2) scTg.nd rfl (Or.inl rfl) pe_dnewK)
      (Evl.pss_cut (ps_for PassesOwn.never rfl (pi_list (pv 0)) (pg_name (i := 3) scTg.nd rfl (Or.inl rfl))
          (Evl.pss_cut (ps_expr (pe_bm PySem.F.plainAttrs_list PySem.F.slot_list_append PySem.F.type_list_append mt_append (pe_dsetd (pv 1) (pe_ix (r := rIxT K) ix_tup (pv 3) pe_int (fun _ _ => rfl)) (pe_lst pa_nil) ⟨by rfl, by rfl, by rfl, by rfl⟩) (pa_cons (pe_ix (r := rIxT K) ix_tup (pv 3) pe_int (fun _ _ => rfl)) pa_nil)))
          (pss_one (ps_expr (pe_bm PySem.F.plainAttrs_list PySem.F.slot_list_append PySem.F.type_list_append mt_append (pe_dsetd (pv 2) (pe_ix (r := rIxT K) ix_tup (pv 3) pe_int (fun _ _ => rfl)) (pe_lst pa_nil) ⟨by rfl, by rfl, by rfl, by rfl⟩) (pa_cons (pe_ix (r := rIxT K) ix_tup (pv 3) pe_int (fun _ _ => rfl)) pa_nil))))))
      (pss_cons (ps_set (i := 4) scTg.nd rfl (Or.inl rfl) pe_dnewK)
      (Evl.pss_cut (ps_for PassesOwn.never rfl (pi_reversed (by rfl) hrev (pa_cons (C8.pe_c cL hr (by decide) (by rfl) (pa_cons (pv 1) (pa_cons (pe_callTy (r := rListD) (call_list_dK (by rfl)) (by rfl) B.list boot_list (pa_cons (pv 1) pa_nil)) pa_nil))) pa_nil)) (pg_name (i := 5) scTg.nd rfl (Or.inl rfl))
          (pss_one (ps_if (pt_cmp (pc_dnotin hu1 (pv 5) (pv 4)))
            (pss_cons (ps_set (i := 6) scTg.nd rfl (Or.inl rfl) (C8.pe_c cB hr (by decide) (by rfl) (pa_cons (pv 2) (pa_cons (pv 5) (pa_cons (pv 4) pa_nil)))))
            (pss_cons (ps_set (i := 7) scTg.nd rfl (Or.inl rfl) (pe_callB (r := rMin K) (cr_min (by rfl)) (by rfl) hmin boot_min (pa_cons (pv 6) pa_nil)))
            (pss_one (ps_for PassesOwn.never rfl (pi_list (pv 6)) (pg_name (i := 8) scTg.nd rfl (Or.inl rfl)) (pss_one (ps_dput hu1 (pv 4) (pv 8) (pv 7) (by rfl))))))) pss_nil)))
      (pss_one (ps_ret (pv 4))))))), ?_⟩
    intro A hA
    have y1 := Ex.new (o := .dK []) hA
    have j1 : upd H A (.dK []) A = some (.dK []) := upd_same
    generalize upd H A (.dK []) = G1 at y1 j1 ⊢
    intro Bk hB1
    have y2 := Ex.new (o := .dK []) hB1
    have j2 : upd G1 Bk (.dK []) Bk = some (.dK []) := upd_same
    have BA : Bk ≠ A := (ne_of_none j1 hB1).symm
    have hB := fresh_back y1 hB1
    generalize upd G1 Bk (.dK []) = G2 at y2 j2 ⊢
    have e2 := y1.trans y2
    have hul := sts_len hD
    -- ahead, back
    refine ⟨fun σ G => ∃ (x3 : Option V) (rA rB : List (Row Int)), σ = [some (.ref l), some (.ref A), some (.ref Bk), x3, none, none, none, none, none] ∧ Ex H G ∧ TwoOk H G A Bk rA rB ∧ Tells rA (edg ss) ∧ Tells rB (bdg ss) ∧ (∀ r ∈ rA, r.2.2.length ≤ 1000 ∧ r.2.2 ≠ []), ?_, ?_⟩
    · refine ⟨_, rfl, l, rfl, ⟨_, ex_l e2 hl⟩, ?_⟩
      have adn : ∀ {Z : Addr}, G2 Z = some (.dK []) → Adj V.int H G2 Z [] := fun h => ⟨h, by simp, by simp, (fun r h => absurd h (by simp)), fun r h => absurd h (by simp)⟩
      refine for_list (K := K) (a := l) (xs := us) (fun i σ G => ∃ (x3 : Option V) (rA rB : List (Row Int)), σ = [some (.ref l), some (.ref A), some (.ref Bk), x3, none, none, none, none, none] ∧ Ex H G ∧ TwoOk H G A Bk rA rB ∧ Tells rA (edg (ss.take i)) ∧ Tells rB (bdg (ss.take i)) ∧ rA.length ≤ i ∧ rB.length ≤ i ∧ (∀ r ∈ rA, r.2.2.length ≤ i ∧ r.2.2 ≠ []) ∧ (∀ r ∈ rB, r.2.2.length ≤ i ∧ r.2.2 ≠ [])) ?_ (fun i σ G _ ⟨_, _, _, _, e, _⟩ => ex_l e hl) ?_ ?_
      · exact ⟨none, [], [], rfl, e2, ⟨adn (y2 _ _ j1), adn j2, (fun r h => absurd h (by simp)), (fun r h => absurd h (by simp)), fun r h => absurd h (by simp)⟩, Tells.nil, Tells.nil, Nat.le_refl _, Nat.le_refl _, (fun r h => absurd h (by simp)), fun r h => absurd h (by simp)⟩
      · rintro i v σ G hv ⟨x3, rA, rB, rfl, e, tw, tA, tB, lA, lB, bA, bB⟩
        have il := (List.getElem?_eq_some_iff.mp hv).1
        obtain ⟨s, t, hs, rfl, ht⟩ := sts_get hD hv
        obtain ⟨_, u, ez, p1, _⟩ := stD_inv ht
        cases ez
        have tkA : edg (ss.take (i + 1)) = edg (ss.take i) ++ [(s.one, s.other)] := by
          unfold edg
          rw [List.take_add_one, hs, List.map_append]
          rfl
        have tkB : bdg (ss.take (i + 1)) = bdg (ss.take i) ++ [(s.other, s.one)] := by
          unfold bdg
          rw [List.take_add_one, hs, List.map_append]
          rfl
        refine ⟨fun σ G' => ∃ rA', σ = [some (.ref l), some (.ref A), some (.ref Bk), some (.ref t), none, none, none, none, none] ∧ Ex H G' ∧ TwoOk H G' A Bk rA' rB ∧ Tells rA' (edg (ss.take (i + 1))) ∧ rA'.length ≤ i + 1 ∧ ∀ r ∈ rA', r.2.2.length ≤ i + 1 ∧ r.2.2 ≠ [], ?_, ?_⟩
        · refine ⟨_, rfl, A, rfl, .inl ⟨_, .inl tw.1.dk⟩, _, rfl, t, _, 0, .int s.one, rfl, rfl, ex_t e p1, rfl, Nat.zero_le _, fun p hp => ?_⟩
          have y3 := Ex.new (o := .lst []) hp
          have j3 : upd G p (.lst []) p = some (.lst []) := upd_same
          generalize upd G p (.lst []) = G3 at y3 j3 ⊢
          have ad3 := tw.1.go y3
          have e3 := e.trans y3
          have kl : (rowK rA).length < sizeLine := by
            unfold rowK
            rw [List.length_map]
            exact sz_m (by omega)
          rw [tkA]
          refine ⟨rowK rA, Sum.inl s.one, ad3.dk, rfl, kl, fun v hv => ?_, fun hn => ?_⟩
          · obtain ⟨j, r, h1, h2, rfl⟩ := rowK_some hv
            have hat := ad3.at' r (mem_of_get h1)
            have hb := bA r (mem_of_get h1)
            refine ⟨.inl ⟨rfl, _, SqL.of hat⟩, _, rfl, t, _, 1, .int s.other, rfl, rfl, ex_t e3 p1, rfl, r.2.1, _, _, rfl, rfl, hat, by rw [List.length_map]; exact sz_m (by omega), ?_⟩
            have hE : r.2.2.map V.int ++ [V.int s.other] = (r.2.2 ++ [s.other]).map V.int := by
              rw [List.map_append]
              rfl
            rw [hE]
            have po := put_old e3 y3 ad3 tA lA bA h1 s.other
            rw [h2] at po
            obtain ⟨rA', q⟩ := tw.put BA po
            exact ⟨rA', rfl, q⟩
          · have hd : upd G3 A (.dK (putK (rowK rA) (Sum.inl s.one) (V.ref p))) p = some (.lst []) := by
              rw [upd_ne (ne_of_none tw.1.dk hp).symm]
              exact j3
            refine ⟨.inl ⟨rfl, _, SqL.of hd⟩, _, rfl, t, _, 1, .int s.other, rfl, rfl, ex_t (e3.mut hA) p1, rfl, p, _, _, rfl, rfl, hd, by show 0 < sizeLine; decide, ?_⟩
            obtain ⟨rA', q⟩ := tw.put BA (put_new e3 y3 hA hp e ad3 tw.1 tA lA bA (rowK_none.mp hn) s.other)
            exact ⟨rA', rfl, q⟩
        rintro σ G4 ⟨rA', rfl, e4, tw4, tA4, lA4, bA4⟩
        refine ⟨_, rfl, Bk, rfl, .inl ⟨_, .inl tw4.2.1.dk⟩, _, rfl, t, _, 1, .int s.other, rfl, rfl, ex_t e4 p1, rfl, Nat.zero_le _, fun p hp => ?_⟩
        have y3 := Ex.new (o := .lst []) hp
        have j3 : upd G4 p (.lst []) p = some (.lst []) := upd_same
        generalize upd G4 p (.lst []) = G3 at y3 j3 ⊢
        have ad3 := tw4.2.1.go y3
        have e3 := e4.trans y3
        have kl : (rowK rB).length < sizeLine := by
          unfold rowK
          rw [List.length_map]
          exact sz_m (by omega)
        have fin : ∀ {G' : Hp}, PutOk H G4 G' Bk rB (bdg (ss.take i) ++ [(s.other, s.one)]) (i + 1) → ∃ (x3 : Option V) (rA rB : List (Row Int)), [some (V.ref l), some (.ref A), some (.ref Bk), some (.ref t), none, none, none, none, none] = [some (.ref l), some (.ref A), some (.ref Bk), x3, none, none, none, none, none] ∧ Ex H G' ∧ TwoOk H G' A Bk rA rB ∧ Tells rA (edg (ss.take (i + 1))) ∧ Tells rB (bdg (ss.take (i + 1))) ∧ rA.length ≤ i + 1 ∧ rB.length ≤ i + 1 ∧ (∀ r ∈ rA, r.2.2.length ≤ i + 1 ∧ r.2.2 ≠ []) ∧ (∀ r ∈ rB, r.2.2.length ≤ i + 1 ∧ r.2.2 ≠ []) := fun po => by
          obtain ⟨rB', q1, q2, q3, q4, q5⟩ := tw4.symm.put BA.symm po
          exact ⟨_, rA', rB', rfl, q1, q2.symm, tA4, by rw [tkB]; exact q3, lA4, q4, bA4, q5⟩
        refine ⟨rowK rB, Sum.inl s.other, ad3.dk, rfl, kl, fun v hv => ?_, fun hn => ?_⟩
        · obtain ⟨j, r, h1, h2, rfl⟩ := rowK_some hv
          have hat := ad3.at' r (mem_of_get h1)
          have hb := bB r (mem_of_get h1)
          refine ⟨.inl ⟨rfl, _, SqL.of hat⟩, _, rfl, t, _, 0, .int s.one, rfl, rfl, ex_t e3 p1, rfl, r.2.1, _, _, rfl, rfl, hat, by rw [List.length_map]; exact sz_m (by omega), ?_⟩
          have hE : r.2.2.map V.int ++ [V.int s.one] = (r.2.2 ++ [s.one]).map V.int := by
            rw [List.map_append]
            rfl
          rw [hE]
          have po := put_old e3 y3 ad3 tB lB bB h1 s.one
          rw [h2] at po
          exact fin po
        · have hd : upd G3 Bk (.dK (putK (rowK rB) (Sum.inl s.other) (V.ref p))) p = some (.lst []) := by
            rw [upd_ne (ne_of_none tw4.2.1.dk hp).symm]
            exact j3
          refine ⟨.inl ⟨rfl, _, SqL.of hd⟩, _, rfl, t, _, 0, .int s.one, rfl, rfl, ex_t (e3.mut hB) p1, rfl, p, _, _, rfl, rfl, hd, by show 0 < sizeLine; decide, ?_⟩
          exact fin (put_new e3 y3 hB hp e4 ad3 tw4.2.1 tB lB bB (rowK_none.mp hn) s.one)
      · rintro σ G ⟨x3, rA, rB, rfl, e, tw, tA, tB, lA, lB, bA, bB⟩
        rw [hul, List.take_length] at tA tB
        exact ⟨x3, rA, rB, rfl, e, tw, tA, tB, fun r hr => ⟨by have := (bA r hr).1; omega, (bA r hr).2⟩⟩
    rintro σ G5 ⟨x3, rA, rB, rfl, e5, tw, tA, tB, bA⟩
    -- the order of leaving
    intro Le hLe5
    have y6 := Ex.new (o := .dK []) hLe5
    have j6 : upd G5 Le (.dK []) Le = some (.dK []) := upd_same
    generalize upd G5 Le (.dK []) = G6 at y6 j6 ⊢
    have hLeH := fresh_back e5 hLe5
    obtain ⟨adA, adB, _, _, _⟩ := id tw
    have keyS : ∀ v, v ∈ rA.map (·.1) ↔ ∃ b, (v, b) ∈ edg ss := fun v => by
      rw [List.mem_map]
      constructor
      · rintro ⟨r, h1, h2⟩
        obtain ⟨b, hb⟩ := List.exists_mem_of_ne_nil _ (bA r h1).2
        exact ⟨b, (tA v b).mpr ⟨r, h1, h2, hb⟩⟩
      · rintro ⟨b, hb⟩
        obtain ⟨r, h1, h2, _⟩ := (tA v b).mp hb
        exact ⟨r, h1, h2⟩
    have oneU : ∀ a b, (a, b) ∈ edg ss → a ∈ U ∧ b ∈ U := fun a b h => by
      obtain ⟨s, h1, h2, h3⟩ := edg_mem.mp h
      rw [← h2, ← h3]
      exact hSU s h1
    have nmd : ∀ v, Rch (edg ss) (rA.map (·.1)) v ↔ Nmd ss v := fun v => by
      constructor
      · intro h
        cases h with
        | base h =>
          obtain ⟨b, hb⟩ := (keyS v).mp h
          obtain ⟨s, h1, h2, _⟩ := edg_mem.mp hb
          exact ⟨s, h1, .inl h2⟩
        | step _ e =>
          obtain ⟨s, h1, _, h3⟩ := edg_mem.mp e
          exact ⟨s, h1, .inr h3⟩
      · rintro ⟨s, h1, h2 | h2⟩
        · exact .base ((keyS v).mpr ⟨s.other, edg_mem.mpr ⟨s, h1, h2, rfl⟩⟩)
        · exact .step (.base ((keyS s.one).mpr ⟨v, edg_mem.mpr ⟨s, h1, rfl, h2⟩⟩)) (edg_mem.mpr ⟨s, h1, rfl, h2⟩)
    refine ⟨fun σ G => ∃ (x5 x6 x7 x8 : Option V) (q : List (Int × Int)), σ = [some (.ref l), some (.ref A), some (.ref Bk), x3, some (.ref Le), x5, x6, x7, x8] ∧ Ex G5 G ∧ G Le = some (.dK (leK q)) ∧ (q.map (·.1)).Nodup ∧ (∀ v, v ∈ q.map (·.1) ↔ Nmd ss v) ∧ ∀ x ∈ q, Sm2 (edg ss) x.1 x.2 ∧ ∀ u, Sm2 (edg ss) x.1 u → x.2 ≤ u, ?_, ?_⟩
    · refine ⟨_, rfl, _, rfl, A, rowK rA, rfl, y6 _ _ adA.dk, fun q0 hq0 => ?_⟩
      have y7 := Ex.new (o := .lst ((rowK rA).map fun kv => kV kv.1)) hq0
      have j7 : upd G6 q0 (.lst ((rowK rA).map fun kv => kV kv.1)) q0 = some (.lst ((rowK rA).map fun kv => kV kv.1)) := upd_same
      generalize upd G6 q0 (.lst ((rowK rA).map fun kv => kV kv.1)) = G7 at y7 j7 ⊢
      have hk : ((rowK rA).map fun kv => kV kv.1) = (rA.map (·.1)).map V.int := by
        unfold rowK
        rw [List.map_map, List.map_map]
        rfl
      rw [hk] at j7
      have e57 := y6.trans y7
      refine ⟨A, q0, rA, edg ss, rA.map (·.1), U, rfl, e57 _ _ adA.dk, adA.kn, (fun r hr => e57 _ _ (adA.at' r hr)), (fun r hr => by have := (bA r hr).1; omega), tA, SqL.of j7, (fun v hv => ?_), (fun a b h => (oneU a b h).2), hU, fun G8 pf fd e8 pf0 hpf O hfd => ?_⟩
      · obtain ⟨b, hb⟩ := (keyS v).mp hv
        exact (oneU v b hb).1
      have e58 := e57.trans e8
      have hLe8 := (y7.trans e8) _ _ j6
      have nLf : pf ≠ Le := (ne_of_none (y7 _ _ j6) pf0).symm
      have allF : ∀ a b, (a, b) ∈ edg ss → a ∈ fd := fun a b h => (hfd a).mpr (.base ((keyS a).mpr ⟨b, h⟩))
      refine ⟨pf, _, rfl, SqL.of hpf, ?_⟩
      have fl : (fd.map V.int).length = fd.length := List.length_map ..
      refine for_revL (K := K) (a := pf) (xs := fd.map V.int) (fun j σ G => ∃ (x5 x6 x7 x8 : Option V) (q : List (Int × Int)), σ = [some (.ref l), some (.ref A), some (.ref Bk), x3, some (.ref Le), x5, x6, x7, x8] ∧ Ex G5 G ∧ G pf = some (.lst (fd.map V.int)) ∧ G Le = some (.dK (leK q)) ∧ Lots (edg ss) fd j q) ?_ (fun j σ G _ ⟨_, _, _, _, _, _, _, e, _⟩ => SqL.of e) ?_ ?_
      · exact ⟨none, none, none, none, [], rfl, e58, hpf, hLe8, Lots.nil⟩
      · rintro j x σ G hj hx ⟨x5, x6, x7, x8, q, rfl, e, hF, hL, L⟩
        rw [fl] at hj hx
        obtain ⟨r, hr, rfl⟩ := get_ints hx
        have hrU : r ∈ U := by
          have := (hfd r).mp (mem_of_get hr)
          exact this.in (fun v hv => by obtain ⟨b, hb⟩ := (keyS v).mp hv; exact (oneU v b hb).1) fun a b h => (oneU a b h).2
        refine ⟨_, rfl, _, rfl, Le, _, rfl, DGet.k (k := Sum.inl r) hL, ?_⟩
        cases hv : valV (leK q) (Sum.inl r) with
        | some v =>
          obtain ⟨m, h1, _⟩ := leK_some hv
          exact ⟨_, rfl, iteF ⟨_, x6, x7, x8, q, rfl, e, hF, hL, L.skip hj hr (List.mem_map.mpr ⟨_, h1, rfl⟩)⟩⟩
        | none =>
          have hn := leK_none.mp hv
          refine ⟨_, rfl, iteT ?_⟩
          refine ⟨_, rfl, _, rfl, _, rfl, Bk, Le, r, leK q, rB, bdg ss, edg ss, U, rfl, hL, e _ _ adB.dk, adB.kn, (fun r hr => e _ _ (adB.at' r hr)), tB, (fun a b => bdg_edg), hrU, (fun a b h => (oneU a b h).1), hU, fun G9 pg g e9 pg0 hpg gnd hgm => ?_⟩
          have hg : ∀ v, v ∈ g ↔ Sm2 (edg ss) r v := fun v => (hgm v).trans (L.group O allF hj hr hn v)
          have gr : r ∈ g := (hg r).mpr (Sm2.refl r)
          refine ⟨_, rfl, pg, g, rfl, SqL.of hpg, List.length_pos_of_mem gr, fun m hm hl => ?_⟩
          have gF : ∀ v ∈ g, v ∈ fd := fun v hv => by
            have rf := (hfd r).mp (mem_of_get hr)
            have : ∀ u, To (edg ss) r u → Rch (edg ss) (rA.map (·.1)) u := fun u hu => by
              induction hu with
              | base h =>
                rw [List.mem_singleton.mp h]
                exact rf
              | step _ e ih => exact .step ih e
            exact (hfd v).mpr (this v ((hg v).mp hv).1)
          have gL : g.length ≤ 1000 := by
            have := nd_len g U gnd fun v hv => ((hfd v).mp (gF v hv)).in (fun v hv => by obtain ⟨b, hb⟩ := (keyS v).mp hv; exact (oneU v b hb).1) fun a b h => (oneU a b h).2
            omega
          have off : ∀ v ∈ g, v ∉ q.map (·.1) := fun v hv z => hn (L.cl v z r ((hg v).mp hv).symm)
          have qL : q.length ≤ 1000 := by
            have := nd_len (q.map (·.1)) U L.nd fun v hv => ((hfd v).mp (L.inF v hv)).in (fun v hv => by obtain ⟨b, hb⟩ := (keyS v).mp hv; exact (oneU v b hb).1) fun a b h => (oneU a b h).2
            rw [List.length_map] at this
            omega
          have nLg : pg ≠ Le := (ne_of_none hL pg0).symm
          refine ⟨_, rfl, pg, rfl, ⟨_, SqL.of hpg⟩, ?_⟩
          refine for_list (K := K) (a := pg) (xs := g.map V.int) (fun jj σ G => ∃ (x8 : Option V), σ = [some (.ref l), some (.ref A), some (.ref Bk), x3, some (.ref Le), some (.int r), some (.ref pg), some (.int m), x8] ∧ Ex G5 G ∧ G pf = some (.lst (fd.map V.int)) ∧ G pg = some (.lst (g.map V.int)) ∧ G Le = some (.dK (leK (q ++ (g.take jj).map fun v => (v, m))))) ?_ (fun jj σ G _ ⟨_, _, _, _, h, _⟩ => SqL.of h) ?_ ?_
          · exact ⟨_, rfl, e.trans e9, e9 _ _ hF, hpg, by rw [List.take_zero, List.map_nil, List.append_nil]; exact e9 _ _ hL⟩
          · rintro jj v σ G' hv ⟨y8, rfl, e', hF', hg', hL'⟩
            obtain ⟨c, hc, rfl⟩ := get_ints hv
            have jl := (List.getElem?_eq_some_iff.mp hc).1
            have tk : g.take (jj + 1) = g.take jj ++ [c] := by rw [List.take_add_one, hc]; rfl
            have hnew : c ∉ (q ++ (g.take jj).map fun v => (v, m)).map (·.1) := fun z => by
              rw [List.map_append, List.map_map] at z
              rcases List.mem_append.mp z with z | z
              · exact off c (mem_of_get hc) z
              · have z' : c ∈ g.take jj := by
                  obtain ⟨w0, h1, h2⟩ := List.mem_map.mp z
                  have : w0 = c := h2
                  rw [← this]
                  exact h1
                obtain ⟨k2, hk2⟩ := List.getElem?_of_mem z'
                have k2l := (List.getElem?_eq_some_iff.mp hk2).1
                rw [List.length_take] at k2l
                rw [List.getElem?_take_of_lt (by omega)] at hk2
                have := get_uniq gnd hk2 hc
                omega
            have kz : (leK (q ++ (g.take jj).map fun v => (v, m))).length < sizeLine := by
              unfold leK
              rw [List.length_map, List.length_append, List.length_map, List.length_take]
              exact sz_m (by omega)
            refine ⟨_, rfl, _, rfl, _, rfl, Le, _, rfl, DPut.k (k := Sum.inl c) hL' kz, ?_⟩
            have hk : putK (leK (q ++ (g.take jj).map fun v => (v, m))) (Sum.inl c) (V.int m) = leK (q ++ (g.take (jj + 1)).map fun v => (v, m)) := by
              rw [tk, List.map_append, ← List.append_assoc]
              exact leK_new hnew
            rw [hk]
            exact ⟨_, rfl, e'.mut hLe5, by rw [upd_ne nLf]; exact hF', by rw [upd_ne nLg]; exact hg', upd_same⟩
          · rintro σ G' ⟨y8, rfl, e', hF', hg', hL'⟩
            rw [List.length_map, List.take_length] at hL'
            exact ⟨_, _, _, y8, _, rfl, e', hF', hL', L.take hj hr hn gnd hg gF hm hl⟩
      · rintro σ G ⟨x5, x6, x7, x8, q, rfl, e, hF, hL, L⟩
        rw [fl] at L
        exact ⟨x5, x6, x7, x8, q, rfl, e, hL, L.nd, fun v => (L.done v).trans ((hfd v).trans (nmd v)), L.least⟩
    rintro σ G10 ⟨x5, x6, x7, x8, q, rfl, e10, hL, qnd, hq, hle⟩
    exact ⟨_, rfl, kQ G10 Le q (e5.trans e10) hLeH hL qnd hq hle⟩
end
end AA

set_option Elab.async false
set_option linter.all false
set_option maxRecDepth 100000
set_option maxHeartbeats 4000000
/-! The lots, told once and for all. -/
namespace AA
open PySem PySem.Spec PyProof.Rows L2 Evl
theorem To.head {es : List (Int × Int)} {a b : Int} (h : To es a b) : a ≠ b → ∃ u, (a, u) ∈ es ∧ To es u b := by
  induction h with
  | base hb =>
    intro n
    exact absurd (List.mem_singleton.mp hb).symm n
  | @step c d hac e ih =>
    intro _
    by_cases q : a = c
    · rw [q]
      exact ⟨d, e, To.refl d⟩
    · obtain ⟨u, h1, h2⟩ := ih q
      exact ⟨u, h1, .step h2 e⟩
theorem To.nmd {ss : List St5} {a b : Int} (h : To (edg ss) a b) (n : a ≠ b) : Nmd ss a := by
  obtain ⟨u, h1, _⟩ := h.head n
  obtain ⟨s, h2, h3, _⟩ := edg_mem.mp h1
  exact ⟨s, h2, .inl h3⟩
theorem asc_uniq : ∀ {l r : List Int}, l.Pairwise (· < ·) → r.Pairwise (· < ·) → (∀ x, x ∈ l ↔ x ∈ r) → l = r
  | [], [], _, _, _ => rfl
  | [], y :: r, _, _, h => absurd ((h y).mpr List.mem_cons_self) (by simp)
  | x :: l, [], _, _, h => absurd ((h x).mp List.mem_cons_self) (by simp)
  | x :: l, y :: r, hl, hr, h => by
    have hl' := List.pairwise_cons.mp hl
    have hr' := List.pairwise_cons.mp hr
    have e : x = y := by
      rcases List.mem_cons.mp ((h x).mp List.mem_cons_self) with e | e
      · exact e
      · rcases List.mem_cons.mp ((h y).mpr List.mem_cons_self) with e2 | e2
        · exact e2.symm
        · have := hr'.1 x e
          have := hl'.1 y e2
          omega
    subst e
    rw [asc_uniq hl'.2 hr'.2 fun z => ?_]
    constructor
    · intro hz
      rcases List.mem_cons.mp ((h z).mp (List.mem_cons_of_mem _ hz)) with e | e
      · have := hl'.1 z hz
        omega
      · exact e
    · intro hz
      rcases List.mem_cons.mp ((h z).mpr (List.mem_cons_of_mem _ hz)) with e | e
      · have := hr'.1 z hz
        omega
      · exact e
theorem asc_of {l : List Int} (n : l.Nodup) (p : l.Pairwise (· ≤ ·)) : l.Pairwise (· < ·) := by
  have := List.pairwise_and_iff.mpr ⟨List.nodup_iff_pairwise_ne.mp n, p⟩
  exact this.imp fun {a b} h => by
    have := h.1
    have := h.2
    omega
theorem ord_uniq {l r : List Int} (n : l.Nodup) (p : l.Pairwise (· ≤ ·)) (n2 : r.Nodup) (p2 : r.Pairwise (· ≤ ·)) (h : ∀ x, x ∈ l ↔ x ∈ r) : l = r := asc_uniq (asc_of n p) (asc_of n2 p2) h
/-- a lot of p, ascending -/
structure LotL (es : List (Int × Int)) (p : Int) (zs : List Int) : Prop where
  nd : zs.Nodup
  so : zs.Pairwise (· ≤ ·)
  m : ∀ q, q ∈ zs ↔ Sm2 es p q
/-- the least place of a lot with a step in it -/
def Fst (ss : List St5) (p : Int) : Prop := (∀ q, Sm2 (edg ss) p q → p ≤ q) ∧ ∃ s ∈ ss, Sm2 (edg ss) p s.one ∧ Sm2 (edg ss) p s.other
structure LotsR (ss : List St5) (ps : List Int) (L : List (List Int)) : Prop where
  asc : ps.Pairwise (· < ·)
  m : ∀ p, p ∈ ps ↔ Fst ss p
  len : L.length = ps.length
  at' : ∀ (i : Nat) (p : Int) (zs : List Int), ps[i]? = some p → L[i]? = some zs → LotL (edg ss) p zs
theorem LotsR.uniq {ss : List St5} {ps ps' : List Int} {L L' : List (List Int)} (h : LotsR ss ps L) (k : LotsR ss ps' L') : L = L' := by
  obtain rfl : ps = ps' := asc_uniq h.asc k.asc fun x => (h.m x).trans (k.m x).symm
  refine List.ext_getElem? fun i => ?_
  by_cases lt : i < ps.length
  · have h1 : L[i]? = some (L[i]'(by rw [h.len]; exact lt)) := List.getElem?_eq_getElem _
    have h2 : L'[i]? = some (L'[i]'(by rw [k.len]; exact lt)) := List.getElem?_eq_getElem _
    have h3 : ps[i]? = some ps[i] := List.getElem?_eq_getElem lt
    have a := h.at' i _ _ h3 h1
    have b := k.at' i _ _ h3 h2
    rw [h1, h2, ord_uniq a.nd a.so b.nd b.so fun x => (a.m x).trans (b.m x).symm]
  · rw [List.getElem?_eq_none (by rw [h.len]; omega), List.getElem?_eq_none (by rw [k.len]; omega)]
/-- the lots do not mind the order of the steps -/
theorem rch_sub {es es' : List (Int × Int)} {S : List Int} {v : Int} (h : ∀ e ∈ es, e ∈ es') (r : Rch es S v) : Rch es' S v := by
  induction r with
  | base h => exact .base h
  | step _ e ih => exact .step ih (h _ e)
theorem edg_sub {ss ss' : List St5} (h : ∀ s ∈ ss, s ∈ ss') : ∀ e ∈ edg ss, e ∈ edg ss' := fun e he => by
  obtain ⟨s, h1, h2⟩ := List.mem_map.mp he
  exact List.mem_map.mpr ⟨s, h s h1, h2⟩
theorem rch_same {ss ss' : List St5} {S : List Int} {v : Int} (h : ∀ s, s ∈ ss ↔ s ∈ ss') : Rch (edg ss) S v ↔ Rch (edg ss') S v := ⟨rch_sub (edg_sub fun s => (h s).mp), rch_sub (edg_sub fun s => (h s).mpr)⟩
theorem sm2_same {ss ss' : List St5} {a b : Int} (h : ∀ s, s ∈ ss ↔ s ∈ ss') : Sm2 (edg ss) a b ↔ Sm2 (edg ss') a b := and_congr (rch_same h) (rch_same h)
theorem LotsR.same {ss ss' : List St5} {ps : List Int} {L : List (List Int)} (h : ∀ s, s ∈ ss ↔ s ∈ ss') (k : LotsR ss ps L) : LotsR ss' ps L :=
  ⟨k.asc, fun p => (k.m p).trans (and_congr ⟨fun z q hq => z q ((sm2_same h).mpr hq), fun z q hq => z q ((sm2_same h).mp hq)⟩ ⟨fun ⟨s, h1, h2, h3⟩ => ⟨s, (h s).mp h1, (sm2_same h).mp h2, (sm2_same h).mp h3⟩, fun ⟨s, h1, h2, h3⟩ => ⟨s, (h s).mpr h1, (sm2_same h).mpr h2, (sm2_same h).mpr h3⟩⟩),
    k.len, fun i p zs h1 h2 => ⟨(k.at' i p zs h1 h2).nd, (k.at' i p zs h1 h2).so, fun q => ((k.at' i p zs h1 h2).m q).trans (sm2_same h)⟩⟩
/-! ### from the dict of the least places -/
/-- the least one of v's lot, by the list -/
def lo (q : List (Int × Int)) (v : Int) : Int := match q.find? (fun x => x.1 == v) with
  | some x => x.2
  | none => v
theorem lo_mem {q : List (Int × Int)} {v : Int} (h : v ∈ q.map (·.1)) : (v, lo q v) ∈ q := by
  unfold lo
  cases e : q.find? (fun x => x.1 == v) with
  | none =>
    obtain ⟨x, h1, h2⟩ := List.mem_map.mp h
    have := List.find?_eq_none.mp e x h1
    simp [h2] at this
  | some x =>
    have h1 := List.mem_of_find?_eq_some e
    have h2 : x.1 = v := by simpa using List.find?_some e
    show (v, x.2) ∈ q
    rw [← h2]
    exact h1
theorem lo_val {q : List (Int × Int)} {v : Int} (h : v ∈ q.map (·.1)) : valV (leK q) (Sum.inl v) = some (V.int (lo q v)) := by
  induction q with
  | nil => exact absurd h (by simp)
  | cons x r ih =>
    by_cases e : x.1 = v
    · have h1 : valV (leK (x :: r)) (Sum.inl v) = some (V.int x.2) := valV_pos (p := (Sum.inl x.1, V.int x.2)) (by rw [e])
      rw [h1]
      unfold lo
      rw [List.find?_cons_of_pos (by simp [e])]
    · have h1 : valV (leK (x :: r)) (Sum.inl v) = valV (leK r) (Sum.inl v) := valV_neg (p := (Sum.inl x.1, V.int x.2)) fun z => e (Sum.inl.inj z)
      have h2 : lo (x :: r) v = lo r v := by
        unfold lo
        rw [List.find?_cons_of_neg (by simp [e])]
      rw [h1, h2]
      refine ih ?_
      rw [List.map_cons, List.mem_cons] at h
      exact h.resolve_left fun z => e z.symm
/-- what together_of's dict tells -/
structure LeOk (ss : List St5) (q : List (Int × Int)) : Prop where
  nm : ∀ v, v ∈ q.map (·.1) ↔ Nmd ss v
  le : ∀ x ∈ q, Sm2 (edg ss) x.1 x.2 ∧ ∀ u, Sm2 (edg ss) x.1 u → x.2 ≤ u
theorem LeOk.one {ss : List St5} {q : List (Int × Int)} (L : LeOk ss q) {s : St5} (h : s ∈ ss) : s.one ∈ q.map (·.1) := (L.nm _).mpr ⟨s, h, .inl rfl⟩
theorem LeOk.other {ss : List St5} {q : List (Int × Int)} (L : LeOk ss q) {s : St5} (h : s ∈ ss) : s.other ∈ q.map (·.1) := (L.nm _).mpr ⟨s, h, .inr rfl⟩
theorem LeOk.sm {ss : List St5} {q : List (Int × Int)} (L : LeOk ss q) {v : Int} (h : v ∈ q.map (·.1)) : Sm2 (edg ss) v (lo q v) := (L.le _ (lo_mem h)).1
theorem LeOk.lst {ss : List St5} {q : List (Int × Int)} (L : LeOk ss q) {v u : Int} (h : v ∈ q.map (·.1)) (k : Sm2 (edg ss) v u) : lo q v ≤ u := (L.le _ (lo_mem h)).2 u k
theorem LeOk.eq {ss : List St5} {q : List (Int × Int)} (L : LeOk ss q) {v u : Int} (h : v ∈ q.map (·.1)) (k : u ∈ q.map (·.1)) : lo q v = lo q u ↔ Sm2 (edg ss) v u := by
  constructor
  · intro e
    have h1 := L.sm h
    have h2 := L.sm k
    rw [← e] at h2
    exact h1.trans h2.symm
  · intro e
    have h1 := L.lst h (e.trans (L.sm k))
    have h2 := L.lst k (e.symm.trans (L.sm h))
    omega
/-- the steps within lots, with the least place of theirs -/
def inn (q : List (Int × Int)) (ss : List St5) : List (Int × St5) := (ss.filter fun s => decide (lo q s.one = lo q s.other)).map fun s => (lo q s.one, s)
theorem inn_mem {q : List (Int × Int)} {ss : List St5} {a : Int} {s : St5} : (a, s) ∈ inn q ss ↔ s ∈ ss ∧ lo q s.one = lo q s.other ∧ lo q s.one = a := by
  unfold inn
  rw [List.mem_map]
  constructor
  · rintro ⟨t, h1, h2⟩
    cases h2
    rw [List.mem_filter, decide_eq_true_eq] at h1
    exact ⟨h1.1, h1.2, rfl⟩
  · rintro ⟨h1, h2, h3⟩
    exact ⟨s, List.mem_filter.mpr ⟨h1, decide_eq_true h2⟩, by rw [h3]⟩
theorem LeOk.fst {ss : List St5} {q : List (Int × Int)} (L : LeOk ss q) {p : Int} : (∃ s, (p, s) ∈ inn q ss) ↔ Fst ss p := by
  constructor
  · rintro ⟨s, h⟩
    obtain ⟨h1, h2, h3⟩ := inn_mem.mp h
    have a1 := L.sm (L.one h1)
    have a2 := L.sm (L.other h1)
    rw [h3] at a1
    rw [← h2, h3] at a2
    refine ⟨fun u hu => ?_, s, h1, a1.symm, a2.symm⟩
    rw [← h3]
    exact L.lst (L.one h1) (a1.trans hu)
  · rintro ⟨h1, s, h2, h3, h4⟩
    refine ⟨s, inn_mem.mpr ⟨h2, (L.eq (L.one h2) (L.other h2)).mpr (h3.symm.trans h4), ?_⟩⟩
    have b1 := L.lst (L.one h2) h3.symm
    have b2 := h1 _ (h3.trans (L.sm (L.one h2)))
    omega
theorem LeOk.lot {ss : List St5} {q : List (Int × Int)} (L : LeOk ss q) {p v : Int} (hp : Fst ss p) : (∃ s, (p, s) ∈ inn q ss ∧ s.one = v) ↔ Sm2 (edg ss) p v := by
  constructor
  · rintro ⟨s, h, rfl⟩
    obtain ⟨h1, h2, h3⟩ := inn_mem.mp h
    have a1 := L.sm (L.one h1)
    rw [h3] at a1
    exact a1.symm
  · intro hv
    have mk : ∀ s ∈ ss, Sm2 (edg ss) p s.one → Sm2 (edg ss) p s.other → (p, s) ∈ inn q ss := fun s h2 h3 h4 => by
      refine inn_mem.mpr ⟨h2, (L.eq (L.one h2) (L.other h2)).mpr (h3.symm.trans h4), ?_⟩
      have b1 := L.lst (L.one h2) h3.symm
      have b2 := hp.1 _ (h3.trans (L.sm (L.one h2)))
      omega
    obtain ⟨_, s0, h0, h3, h4⟩ := id hp
    by_cases e : v = s0.one
    · exact ⟨s0, mk s0 h0 h3 h4, e.symm⟩
    · have w := hv.symm.trans h3
      obtain ⟨u, g1, g2⟩ := w.1.head e
      obtain ⟨s, t1, t2, t3⟩ := edg_mem.mp g1
      have vu : Sm2 (edg ss) v u := ⟨To.one g1, g2.trans w.2⟩
      exact ⟨s, mk s t1 (by rw [t2]; exact hv) (by rw [t3]; exact hv.trans vu), t2⟩
end AA

set_option Elab.async false
set_option linter.all false
set_option maxRecDepth 100000
set_option maxHeartbeats 4000000
/-! name = {step: True for ..}. -/
namespace AA
open PySem PySem.Spec PyProof.Rows L2 Evl
theorem ps_setSc {X : Cx} {i : Nat} {y : Str} {py : Pos} {kx tg iter : Expr} {scope : Scope} {own : List (Str × Nat)} {j : Nat} {p0 p2 spos : Pos} {wi : TI} {g : TG} {tk : TE} (hu : X.A.units + 8 < cLine) (hc : X.calm = true) (hN : X.N.Nodup) (hy : X.N[i]? = some y) (hyl : X.env.scope.names.lookup y = some .local)
    (hsw : swapsWith (.DictComp kx (.Constant (.bool true) j p2) [⟨tg, iter, [], 0⟩] scope p0) (some (.Name y py)) spos.line X.env = pure true) (hi : PI X tg iter wi) (ok : BlkOk X.N X.env.scope scope own)
    (hg : ∀ (t : Shared) (G : Hp) (C : Addr) (cl : List (Str × Addr)) (fp : List Addr), PG (X.blk t G scope (compEnvC scope cl C X.env) fp) tg g)
    (hk : ∀ (t : Shared) (G : Hp) (C : Addr) (cl : List (Str × Addr)) (fp : List Addr), PE (X.blk t G scope (compEnvC scope cl C X.env) fp) kx tk) (hs : ∀ x, foldedSetIterable iter X.env x = pure x := by intro _; rfl) :
    PS X (.Assign [.Name y py] (.DictComp kx (.Constant (.bool true) j p2) [⟨tg, iter, [], 0⟩] scope p0) spos) (tAsg (tSc X wi g tk (own.map (·.2))) (gName i)) := ⟨fun pins t σ G D I h => by
  rw [exec_Assign_Name_used _ _ _ _ hsw]
  refine wpAny_bind (wpAny_standAt (wpAny_bind ?_))
  show wpAny _ X.A (do let _ ← comprehension (.DictComp kx (.Constant (.bool true) j p2) [⟨tg, iter, [], 0⟩] scope p0) scope X.env (firstIterPos [⟨tg, iter, [], 0⟩] p0) newDict false (eval iter X.env) (some (assign (.Name y py) X.env))) _ _ t
  have h : tSc X wi g tk (own.map (·.2)) σ G (fun x G1 => gName i x σ G1 D.nx) := h
  refine wpAny_bind (thn (sc_core (Qf := fun _ s' => SP X pins D .next s') hu hc hN I hi ok hg hk hs h fun L C s' m G' I' q hn f => ?_) fun _ s' hq => wpAny_pure (wpAny_pure hq))
  show wpAny _ _ (assign (.Name y py) X.env (.ref L)) _ _ _
  refine wpAny_assign_Name (store_ok2 (v := V.ref L) I' hN hy (.inl hyl) rfl (fun s2 I2 ⟨a, sb, ha⟩ => ?_) (.inr hyl))
  obtain ⟨f0, f1, f2, f3, f4, f5⟩ := f
  have haC : C ≠ a := ha.elim (fun z => by rw [z]; exact f1) (fun z e => f4 y a z e.symm)
  exact ⟨m, hn.sameBut sb haC, fun h3 sb3 => ⟨_, G', I2.turned (t' := s2.toks) (fun b o hb e => (sb3.2 b hb).trans e) f0 f1 f3 f4 f5, q⟩⟩⟩
end AA

set_option Elab.async false
set_option linter.all false
set_option maxRecDepth 100000
set_option maxHeartbeats 4000000
/-! lots_of, lots. -/
namespace AA
open PySem PySem.Spec PyProof.Rows L2 Evl
abbrev rSrtD : List V → Hp → VK → Prop := fun xs H Q => ∃ (a : Addr) (kvs : List (Key × V)) (ks : List Int), xs = [.ref a] ∧ Rd H a (.dK kvs) ∧ kvs.map (·.1) = ks.map Sum.inl ∧ ks.length < 64 ∧
    ∀ (ys : List Int) (p : Addr), ys.Perm ks → ys.Pairwise (· ≤ ·) → H p = none → Q (.ref p) (upd H p (.lst (ys.map V.int)))
section
variable {α : Type}
def PutA (f : α → V) (H G G' : Hp) (A : Addr) (rows : List (Row α)) (es' : List (Int × α)) (i : Nat) : Prop := ∃ rows' : List (Row α), Ex H G' ∧ Adj f H G' A rows' ∧ Tells rows' es' ∧ rows'.length ≤ i ∧ (∀ r ∈ rows', r.2.2.length ≤ i ∧ r.2.2 ≠ []) 
theorem putA_old {f : α → V} {H G G1 : Hp} {A : Addr} {rows : List (Row α)} {es : List (Int × α)} {i j : Nat} {r : Row α} (e : Ex H G1) (y : Ex G G1) (ad : Adj f H G1 A rows) (tl : Tells rows es) (rl : rows.length ≤ i) (bl : ∀ r ∈ rows, r.2.2.length ≤ i ∧ r.2.2 ≠ []) (hr : rows[j]? = some r) (b : α) : PutA f H G (L2.upd G1 r.2.1 (.lst ((r.2.2 ++ [b]).map f))) A rows (es ++ [(r.1, b)]) (i + 1) := by
  have hm := mem_of_get hr
  refine ⟨rows.set j (r.1, r.2.1, r.2.2 ++ [b]), e.mut (ad.fr r hm).1, ad.more hr b, tl.more hr b, by rw [List.length_set]; omega, fun s hs => ?_⟩
  rcases (mem_set hr).mp hs with rfl | ⟨j', _, hj⟩
  · refine ⟨?_, by simp⟩
    show (r.2.2 ++ [b]).length ≤ i + 1
    rw [List.length_append]
    exact Nat.succ_le_succ (bl r hm).1
  · have := bl s (mem_of_get hj)
    exact ⟨by omega, this.2⟩
theorem putA_new {f : α → V} {H G G1 : Hp} {A p : Addr} {rows : List (Row α)} {es : List (Int × α)} {i : Nat} {a : Int} (e : Ex H G1) (y : Ex G G1) (hA : H A = none) (hp : G p = none) (eG : Ex H G) (ad : Adj f H G1 A rows) (ad0 : Adj f H G A rows) (tl : Tells rows es) (rl : rows.length ≤ i) (bl : ∀ r ∈ rows, r.2.2.length ≤ i ∧ r.2.2 ≠ []) (hn : ∀ r ∈ rows, r.1 ≠ a) (b : α) : PutA f H G (L2.upd (L2.upd G1 A (.dK (putK (rowK rows) (Sum.inl a) (V.ref p)))) p (.lst [f b])) A rows (es ++ [(a, b)]) (i + 1) := by
  have pA : p ≠ A := (ne_of_none ad0.dk hp).symm
  have pr : ∀ r ∈ rows, p ≠ r.2.1 := fun r hr => (ne_of_none (ad0.at' r hr) hp).symm
  have p0 := fresh_back eG hp
  refine ⟨rows ++ [(a, p, [b])], (e.mut hA).mut p0, ad.new hn p0 pA pr ad.dk, tl.new a p b, by rw [List.length_append]; exact Nat.succ_le_succ rl, fun s hs => ?_⟩
  rcases List.mem_append.mp hs with hs | hs
  · have := bl s hs
    exact ⟨by omega, this.2⟩
  · rw [List.mem_singleton.mp hs]
    exact ⟨by show 1 ≤ i + 1; omega, by simp⟩
end
/-! ### steps with where they stand -/
abbrev It := Addr × St5
theorem its_of {K : PySem.W.Frag} {H : Hp} : ∀ {us : List V} {ss : List St5}, DpAll K H us (ss.map stD) → ∃ its : List It, us = its.map (fun t => V.ref t.1) ∧ ss = its.map (·.2) ∧ ∀ t ∈ its, Dp K H (.ref t.1) (stD t.2)
  | us, [], h => by
    cases h
    exact ⟨[], rfl, rfl, fun t ht => absurd ht (by simp)⟩
  | us, s :: ss, h => by
    cases h with
    | cons h1 h2 =>
      obtain ⟨its, e1, e2, h3⟩ := its_of h2
      obtain ⟨b, _, rfl, _⟩ := stD_inv h1
      exact ⟨(b, s) :: its, by rw [e1]; rfl, by rw [e2]; rfl, fun t ht => (List.mem_cons.mp ht).elim (fun z => by rw [z]; exact h1) (h3 t)⟩
theorem its_dpa {K : PySem.W.Frag} {H : Hp} : ∀ {its : List It}, (∀ t ∈ its, Dp K H (.ref t.1) (stD t.2)) → DpAll K H (its.map fun t => V.ref t.1) ((its.map (·.2)).map stD)
  | [], _ => .nil
  | t :: r, h => .cons (h t List.mem_cons_self) (its_dpa fun x hx => h x (List.mem_cons_of_mem _ hx))
def innA (q : List (Int × Int)) (its : List It) : List (Int × It) := (its.filter fun t => decide (lo q t.2.one = lo q t.2.other)).map fun t => (lo q t.2.one, t)
theorem innA_mem {q : List (Int × Int)} {its : List It} {a : Int} {t : It} : (a, t) ∈ innA q its ↔ t ∈ its ∧ lo q t.2.one = lo q t.2.other ∧ lo q t.2.one = a := by
  unfold innA
  rw [List.mem_map]
  constructor
  · rintro ⟨u, h1, h2⟩
    cases h2
    rw [List.mem_filter, decide_eq_true_eq] at h1
    exact ⟨h1.1, h1.2, rfl⟩
  · rintro ⟨h1, h2, h3⟩
    exact ⟨t, List.mem_filter.mpr ⟨h1, decide_eq_true h2⟩, by rw [h3]⟩
theorem innA_inn {q : List (Int × Int)} {its : List It} {a : Int} {s : St5} : (a, s) ∈ inn q (its.map (·.2)) ↔ ∃ b, (a, (b, s)) ∈ innA q its := by
  rw [inn_mem]
  constructor
  · rintro ⟨h1, h2, h3⟩
    obtain ⟨t, h4, rfl⟩ := List.mem_map.mp h1
    exact ⟨t.1, innA_mem.mpr ⟨h4, h2, h3⟩⟩
  · rintro ⟨b, h⟩
    obtain ⟨h1, h2, h3⟩ := innA_mem.mp h
    exact ⟨List.mem_map.mpr ⟨_, h1, rfl⟩, h2, h3⟩
theorem innA_yes {q : List (Int × Int)} {its : List It} {i : Nat} {t : It} (h : its[i]? = some t) (k : lo q t.2.one = lo q t.2.other) : innA q (its.take (i + 1)) = innA q (its.take i) ++ [(lo q t.2.one, t)] := by
  unfold innA
  rw [List.take_add_one, h, List.filter_append, List.map_append]
  congr 1
  show (List.filter _ [t]).map _ = _
  rw [List.filter_cons_of_pos (by simpa using k)]
  rfl
theorem innA_no {q : List (Int × Int)} {its : List It} {i : Nat} {t : It} (h : its[i]? = some t) (k : lo q t.2.one ≠ lo q t.2.other) : innA q (its.take (i + 1)) = innA q (its.take i) := by
  unfold innA
  rw [List.take_add_one, h, List.filter_append, List.map_append]
  show _ ++ (List.filter _ [t]).map _ = _
  rw [List.filter_cons_of_neg (by simpa using k)]
  simp
/-- a lot as lots_of tells it: the pair, the list of places, the list of steps -/
structure LtRow where
  t : Addr
  a : Addr
  b : Addr
  zs : List Int
  ys : List V
  ws : List St5
structure LtOk (K : PySem.W.Frag) (ss : List St5) (H G : Hp) (r : LtRow) : Prop where
  ht : G r.t = some (.tup [.ref r.a, .ref r.b])
  a0 : H r.a = none
  ha : G r.a = some (.lst (r.zs.map V.int))
  hb : G r.b = some (.lst r.ys)
  hd : DpAll K G r.ys (r.ws.map stD)
  hw : ∀ s, s ∈ r.ws ↔ s ∈ ss ∧ s.one ∈ r.zs ∧ s.other ∈ r.zs
theorem LtOk.ex {K : PySem.W.Frag} {ss : List St5} {H G G' : Hp} {r : LtRow} (h : LtOk K ss H G r) (e : Ex G G') : LtOk K ss H G' r := ⟨e _ _ h.ht, h.a0, e _ _ h.ha, e _ _ h.hb, dpa_ex e _ _ h.hd, h.hw⟩
section
variable {P : Program} {w : World} {K : PySem.W.Frag} {mg : Str → Option Value} {base : Heap}
def spLotsOf (K : PySem.W.Frag) : Sp := fun vs H Q _ => ∃ (l : Addr) (us : List V) (ss : List St5) (U : List Int), vs = [.ref l] ∧ SqL K H l us ∧ DpAll K H us (ss.map stD) ∧ ss.length ≤ 1000 ∧ (∀ s ∈ ss, s.one ∈ U ∧ s.other ∈ U) ∧ U.length < 64 ∧
  ∀ (H' : Hp) (F : Addr) (rows : List LtRow) (ps : List Int), Ex H H' → H F = none → H' F = some (.lst (rows.map fun r => V.ref r.t)) → LotsR ss ps (rows.map (·.zs)) → (∀ r ∈ rows, LtOk K ss H H' r) → rows.length < 64 → Q (.ref F) H'
abbrev nmLo : List Str := ["steps", "least", "within", "step", "first"]
abbrev scLoI : Scope := { kind := ScopeKind.function, names := [(".0", NameKind.local), ("first", NameKind.local), ("sorted", NameKind.globalImplicit), ("within", NameKind.cell)], isGenerator := false, isCoroutine := false }
theorem scLo : FnScope nmLo ["steps"] (defScope sLotsOf) := ⟨rfl, rfl, rfl, by decide +kernel, rfl, by decide +kernel, by decide +kernel⟩
theorem ok_lotsOf {f : Addr} {fd : FuncData} (F : L2.Fun K "lots_of" "lots_of" sLotsOf f fd) (B : Bn mg) (cT : C8.Cal P w K mg base 2 "together_of" (spTog K) []) : FnOk P w K mg base CX0 3 f fd ["steps"] (spLotsOf K) := by
  refine F.ok scLo (fun vs H Q E h => ?_) (fun cdv Ar outer s H vs Q E hr h => ?_)
  · obtain ⟨l, us, ss, U, rfl, _⟩ := h
    rfl
  · obtain ⟨l, us, ss, U, rfl, hl, hD, hsz, hSU, hU, kQ⟩ := h
    have hu := hr.un
    have hu1 : (Ar.deeper (envOfC "lots_of" (defScope sLotsOf) s.heap.objs.size f cdv)).units + 1 < cLine := by omega
    refine ⟨_, pss_cons (ps_set (i := 1) scLo.nd rfl (Or.inl rfl) (C8.pe_c cT hr (by decide) (by rfl) (pa_cons (pv 0) pa_nil)))
      (pss_cons (ps_set (i := 2) scLo.nd rfl (Or.inr rfl) pe_dnewK)
      (Evl.pss_cut (ps_for PassesOwn.never rfl (pi_list (pv 0)) (pg_name (i := 3) scLo.nd rfl (Or.inl rfl))
          (pss_one (ps_if (PW.pt (pw_and (pt_cmp (pc_din hu1 (pe_ix (r := rIxT K) ix_tup (pv 3) pe_int (fun _ _ => rfl)) (pv 1))) (pw_and1 (pt_cmpR op_eq (pe_dget hu1 (pv 1) (pe_ix (r := rIxT K) ix_tup (pv 3) pe_int (fun _ _ => rfl)) (fun _ _ => rfl)) (pe_dget hu1 (pv 1) (pe_ix (r := rIxT K) ix_tup (pv 3) pe_int (fun _ _ => rfl)) (fun _ _ => rfl)) (nomark _)))))
            (pss_one (ps_expr (pe_bm PySem.F.plainAttrs_list PySem.F.slot_list_append PySem.F.type_list_append mt_append (pe_dsetd (pv 2) (pe_dget hu1 (pv 1) (pe_ix (r := rIxT K) ix_tup (pv 3) pe_int (fun _ _ => rfl)) (fun _ _ => rfl)) (pe_lst pa_nil) ⟨by rfl, by rfl, by rfl, by rfl⟩) (pa_cons (pv 3) pa_nil)))) pss_nil)))
      (pss_one (ps_ret (pe_lc (own := [("first", 4)]) (g := gName 4) (tt := tYes) (by rfl) scLo.nd (pi_list (pe_callB (r := rSrtD) (call_sortedDI (by rfl)) (by rfl) B.sorted boot_sorted (pa_cons (pv 2) pa_nil))) (blkOk_by (N := nmLo) (sc := defScope sLotsOf) (by decide +kernel)) (fun _ _ _ _ _ => pg_name (i := 4) scLo.nd rfl (Or.inl rfl)) (fun _ _ _ _ _ => pts_nil)
        (fun _ _ _ _ _ => pe_tup (pa_cons (pe_callB (r := rSrtD) (call_sortedDI (by rfl)) (by rfl) B.sorted boot_sorted (pa_cons (pe_dc (wi := iList K (tDGet (tVar 2) (tVar 4))) (own := [("step", 3)]) (g := gName 3) (tt := tYes) (by rfl) scLo.nd (by exact pi_list (pe_dget hu1 (pv 2) (pv 4) (fun _ _ => rfl))) (blkOk_by (N := nmLo) (sc := scLoI) (by decide +kernel)) (fun _ _ _ _ _ => pg_name (i := 3) scLo.nd rfl (Or.inl rfl)) (fun _ _ _ _ _ => pts_nil) (fun _ _ _ _ _ => pe_ix (r := rIxT K) ix_tup (pv 3) pe_int (fun _ _ => rfl)) (fun _ _ _ _ _ => pe_bl)) pa_nil)) (pa_cons (pe_dget (td := tVar 2) (ty := tVar 4) hu1 (pv 2) (pv 4) (fun _ _ => rfl)) pa_nil)))))))), ?_⟩
    refine ⟨_, rfl, l, us, ss, U, rfl, hl, hD, hsz, hSU, hU, fun G1 Le q e1 hLeH hLe qnd hq hqle => ?_⟩
    have LO : LeOk ss q := ⟨hq, hqle⟩
    intro A hA1
    have y1 := Ex.new (o := .dK []) hA1
    have j1 : upd G1 A (.dK []) A = some (.dK []) := upd_same
    have LA : Le ≠ A := ne_of_none hLe hA1
    have hA := fresh_back e1 hA1
    have hLe1 := y1 _ _ hLe
    generalize upd G1 A (.dK []) = G2 at y1 j1 hLe1 ⊢
    have e2 := e1.trans y1
    obtain ⟨its, eus, ess, hit⟩ := its_of hD
    have hitl : its.length = us.length := by rw [eus, List.length_map]
    have hsl : ss.length = its.length := by rw [ess, List.length_map]
    refine ⟨fun σ G => ∃ (x3 : Option V) (rows : List (Row It)), σ = [some (.ref l), some (.ref Le), some (.ref A), x3, none] ∧ Ex G1 G ∧ Adj (fun t => V.ref t.1) G1 G A rows ∧ Tells rows (innA q its) ∧ ∀ r ∈ rows, r.2.2.length ≤ 1000 ∧ r.2.2 ≠ [], ?_, ?_⟩
    · refine ⟨_, rfl, l, rfl, ⟨_, ex_l e2 hl⟩, ?_⟩
      refine for_list (K := K) (a := l) (xs := us) (fun i σ G => ∃ (x3 : Option V) (rows : List (Row It)), σ = [some (.ref l), some (.ref Le), some (.ref A), x3, none] ∧ Ex G1 G ∧ Adj (fun t => V.ref t.1) G1 G A rows ∧ Tells rows (innA q (its.take i)) ∧ rows.length ≤ i ∧ ∀ r ∈ rows, r.2.2.length ≤ i ∧ r.2.2 ≠ []) ?_ (fun i σ G _ ⟨_, _, _, e, _⟩ => ex_l (e1.trans e) hl) ?_ ?_
      · exact ⟨none, [], rfl, y1, ⟨j1, by simp, by simp, (fun r h => absurd h (by simp)), fun r h => absurd h (by simp)⟩, Tells.nil, Nat.le_refl _, fun r h => absurd h (by simp)⟩
      · rintro i v σ G hv ⟨x3, rows, rfl, e, ad, tl, rl, bl⟩
        have il := (List.getElem?_eq_some_iff.mp hv).1
        obtain ⟨t, ht⟩ : ∃ t, its[i]? = some t := ⟨_, List.getElem?_eq_getElem (by omega)⟩
        have hvt : v = .ref t.1 := by
          rw [eus, List.getElem?_map, ht] at hv
          exact (Option.some.inj hv).symm
        subst hvt
        have hti := mem_of_get ht
        have hts : t.2 ∈ ss := by rw [ess]; exact List.mem_map.mpr ⟨t, hti, rfl⟩
        obtain ⟨_, u, ez, p1, _⟩ := stD_inv (hit t hti)
        cases ez
        have vo := lo_val (LO.one hts)
        have vt := lo_val (LO.other hts)
        have gL : ∀ {G' : Hp} {v : Int}, G' Le = some (.dK (leK q)) → v ∈ q.map (·.1) → DGet G' Le (.int v) (some (.int (lo q v))) := fun {G' v} h k => by
          have z := DGet.k (k := Sum.inl v) h
          rw [lo_val k] at z
          exact z
        have mo := LO.one hts
        have mt := LO.other hts
        have pe := ex_t (e1.trans e) p1
        have hL := e _ _ hLe
        refine ⟨_, rfl, t.1, _, 1, .int t.2.other, rfl, rfl, pe, rfl, _, rfl, Le, _, rfl, gL hL mt, true, rfl, iteT ?_⟩
        refine ⟨_, rfl, _, rfl, t.1, _, 0, .int t.2.one, rfl, rfl, pe, rfl, Le, _, rfl, gL hL mo, _, rfl, _, rfl, t.1, _, 1, .int t.2.other, rfl, rfl, pe, rfl, Le, _, rfl, gL hL mt, rfl, _, rfl, ?_⟩
        rw [dec_int]
        by_cases hh : lo q t.2.one = lo q t.2.other
        case neg =>
          rw [decide_eq_false hh]
          refine iteF ?_
          exact ⟨_, rows, rfl, e, ad, by rw [innA_no ht hh]; exact tl, by omega, fun r hr => ⟨by have := (bl r hr).1; omega, (bl r hr).2⟩⟩
        rw [decide_eq_true hh]
        refine iteT ?_
        refine ⟨_, rfl, A, rfl, .inl ⟨_, .inl ad.dk⟩, _, rfl, _, rfl, t.1, _, 0, .int t.2.one, rfl, rfl, pe, rfl, Le, _, rfl, gL hL mo, Nat.zero_le _, fun p hp => ?_⟩
        have y3 := Ex.new (o := .lst []) hp
        have j3 : upd G p (.lst []) p = some (.lst []) := upd_same
        have hL3 := y3 _ _ hL
        generalize upd G p (.lst []) = G4 at y3 j3 hL3 ⊢
        have ad3 := ad.go y3
        have e3 := e.trans y3
        have kl : (rowK rows).length < sizeLine := by
          unfold rowK
          rw [List.length_map]
          exact sz_m (by omega)
        have fin : ∀ {G' : Hp}, PutA (fun t : It => V.ref t.1) G1 G G' A rows (innA q (its.take i) ++ [(lo q t.2.one, t)]) (i + 1) → ∃ (x3 : Option V) (rows : List (Row It)), [some (V.ref l), some (.ref Le), some (.ref A), some (.ref t.1), none] = [some (.ref l), some (.ref Le), some (.ref A), x3, none] ∧ Ex G1 G' ∧ Adj (fun t => V.ref t.1) G1 G' A rows ∧ Tells rows (innA q (its.take (i + 1))) ∧ rows.length ≤ i + 1 ∧ ∀ r ∈ rows, r.2.2.length ≤ i + 1 ∧ r.2.2 ≠ [] := fun po => by
          obtain ⟨rows', q1, q2, q3, q4, q5⟩ := po
          exact ⟨_, rows', rfl, q1, q2, by rw [innA_yes ht hh]; exact q3, q4, q5⟩
        refine ⟨rowK rows, Sum.inl (lo q t.2.one), ad3.dk, rfl, kl, fun v hv => ?_, fun hn => ?_⟩
        · obtain ⟨j, r, h1, h2, rfl⟩ := rowK_some hv
          have hat := ad3.at' r (mem_of_get h1)
          have hb := bl r (mem_of_get h1)
          refine ⟨.inl ⟨rfl, _, SqL.of hat⟩, _, rfl, r.2.1, _, _, rfl, rfl, hat, by rw [List.length_map]; exact sz_m (by omega), ?_⟩
          have hE : r.2.2.map (fun t : It => V.ref t.1) ++ [V.ref t.1] = (r.2.2 ++ [t]).map fun t => V.ref t.1 := by
            rw [List.map_append]
            rfl
          rw [hE]
          have po := putA_old e3 y3 ad3 tl rl bl h1 t
          rw [h2] at po
          exact fin po
        · have hd : upd G4 A (.dK (putK (rowK rows) (Sum.inl (lo q t.2.one)) (V.ref p))) p = some (.lst []) := by
            rw [upd_ne (ne_of_none ad.dk hp).symm]
            exact j3
          refine ⟨.inl ⟨rfl, _, SqL.of hd⟩, _, rfl, p, _, _, rfl, rfl, hd, by show 0 < sizeLine; decide, ?_⟩
          exact fin (putA_new e3 y3 hA1 hp e ad3 ad tl rl bl (rowK_none.mp hn) t)
      · rintro σ G ⟨x3, rows, rfl, e, ad, tl, rl, bl⟩
        rw [← hitl, List.take_length] at tl
        exact ⟨x3, rows, rfl, e, ad, tl, fun r hr => ⟨by have := (bl r hr).1; omega, (bl r hr).2⟩⟩
    rintro σ G3 ⟨x3, rows, rfl, e3, ad, tl, bl⟩
    have eH3 := e1.trans e3
    have hrow : ∀ {r : Row It}, r ∈ rows → ∀ t, t ∈ r.2.2 ↔ t ∈ its ∧ lo q t.2.one = lo q t.2.other ∧ lo q t.2.one = r.1 := fun {r} hr t => by
      obtain ⟨i, hi⟩ := List.getElem?_of_mem hr
      exact (tl.key ad.kn hi t).trans innA_mem
    have hfst : ∀ v, v ∈ rows.map (·.1) ↔ Fst ss v := fun v => by
      rw [← LO.fst, ess]
      constructor
      · intro hv
        obtain ⟨r, hr, rfl⟩ := List.mem_map.mp hv
        obtain ⟨t, ht⟩ := List.exists_mem_of_ne_nil _ (bl r hr).2
        have h1 := (hrow hr t).mp ht
        exact ⟨t.2, innA_inn.mpr ⟨t.1, innA_mem.mpr h1⟩⟩
      · rintro ⟨s, hs⟩
        obtain ⟨b, hb⟩ := innA_inn.mp hs
        obtain ⟨r, hr, h1, _⟩ := (tl _ _).mp hb
        exact List.mem_map.mpr ⟨r, hr, h1⟩
    have fU : ∀ v, Fst ss v → v ∈ U := fun v hv => by
      obtain ⟨s, h1, h2, h3⟩ := hv.2
      by_cases e : v = s.one
      · rw [e]
        exact (hSU s h1).1
      · obtain ⟨s2, g1, g2⟩ := h2.1.nmd e
        exact g2.elim (fun z => z ▸ (hSU s2 g1).1) (fun z => z ▸ (hSU s2 g1).2)
    have rU : rows.length < 64 := by
      have := nd_len (rows.map (·.1)) U ad.kn fun v hv => fU v ((hfst v).mp hv)
      rw [List.length_map] at this
      omega
    refine ⟨_, rfl, A, rowK rows, rows.map (·.1), rfl, .inl ad.dk, ?_, by rw [List.length_map]; exact rU, fun ps Pq hperm hasc hPq => ?_⟩
    · unfold rowK
      rw [List.map_map, List.map_map]
      rfl
    have y4 := Ex.new (o := .lst (ps.map V.int)) hPq
    have j4 : upd G3 Pq (.lst (ps.map V.int)) Pq = some (.lst (ps.map V.int)) := upd_same
    generalize upd G3 Pq (.lst (ps.map V.int)) = G4 at y4 j4 ⊢
    refine ⟨Pq, rfl, ⟨_, SqL.of j4⟩, fun D hD0 => ?_⟩
    have eH4 := eH3.trans y4
    have hHD := fresh_back eH4 hD0
    have eHid : ∀ {G : Hp}, Ex G4 G → Ex H (hid D D G) := fun {G} e x o h => by
      have n := ne_of_none h hHD
      rw [hid_ne n n]
      exact e _ _ (eH4 _ _ h)
    have ad4 := ad.go y4
    refine lc_list (xs := ps.map V.int) (fun i G => Ex G4 G ∧ ∃ lr : List LtRow, G D = some (.lst (lr.map fun r => V.ref r.t)) ∧ lr.length = i ∧ (∀ (j : Nat) (p : Int) (r : LtRow), ps[j]? = some p → lr[j]? = some r → LotL (edg ss) p r.zs) ∧ ∀ r ∈ lr, LtOk K ss H (hid D D G) r) ⟨Ex.new hD0, [], upd_same, rfl, (fun j p r _ h => by simp at h), fun r h => absurd h (by simp)⟩ (fun i G _ z => SqL.of (z.1 _ _ j4)) ?_ ?_
    · rintro i x G hx ⟨q1, lr, q2, q3, q4, q5⟩
      obtain ⟨p, hp, rfl⟩ := get_ints hx
      have il := (List.getElem?_eq_some_iff.mp hp).1
      have plen : ps.length < 64 := by rw [hperm.length_eq, List.length_map]; exact rU
      have hpr : p ∈ rows.map (·.1) := hperm.mem_iff.mp (mem_of_get hp)
      have hF := (hfst p).mp hpr
      obtain ⟨r, hr, er, hval⟩ : ∃ r ∈ rows, r.1 = p ∧ valV (rowK rows) (Sum.inl p) = some (.ref r.2.1) := by
        cases hv : valV (rowK rows) (Sum.inl p) with
        | none =>
          obtain ⟨r, h1, h2⟩ := List.mem_map.mp hpr
          exact absurd h2 (rowK_none.mp hv r h1)
        | some v =>
          obtain ⟨j, r, h1, h2, rfl⟩ := rowK_some hv
          exact ⟨r, mem_of_get h1, h2, rfl⟩
      have gA : ∀ {G' : Hp}, Ex G4 G' → DGet G' A (.int p) (some (.ref r.2.1)) := fun {G'} e => by
        have z := DGet.k (k := Sum.inl p) (e _ _ ad4.dk)
        rw [hval] at z
        exact z
      have lat := ad4.at' r hr
      refine ⟨rfl, _, rfl, _, rfl, A, _, rfl, gA q1, r.2.1, rfl, ⟨_, SqL.of (q1 _ _ lat)⟩, fun D2 hD2 => ?_⟩
      have eHG := eH4.trans q1
      refine dc_list (xs := r.2.2.map fun t : It => V.ref t.1) (fun i G' => Ex G G' ∧ ∃ z, G' D2 = some (.dK (seenK z)) ∧ z.Nodup ∧ (∀ v, v ∈ z ↔ v ∈ (r.2.2.take i).map (·.2.one))) ⟨Ex.new hD2, [], upd_same, List.nodup_nil, fun v => by simp⟩ (fun i G' _ z => SqL.of ((q1.trans z.1) _ _ lat)) ?_ ?_
      · rintro k x' G' hx' ⟨z1, z, z2, z3, z4⟩
        obtain ⟨t, ht, rfl⟩ : ∃ t, r.2.2[k]? = some t ∧ x' = V.ref t.1 := by
          rw [List.getElem?_map] at hx'
          cases e : r.2.2[k]? with
          | none => rw [e] at hx'; cases hx'
          | some t => rw [e] at hx'; exact ⟨t, rfl, (Option.some.inj hx').symm⟩
        have hti := ((hrow hr t).mp (mem_of_get ht)).1
        obtain ⟨_, u, ez, p1, _⟩ := stD_inv (hit t hti)
        cases ez
        have tk : (r.2.2.take (k + 1)).map (·.2.one) = (r.2.2.take k).map (·.2.one) ++ [t.2.one] := by
          rw [List.take_add_one, ht, List.map_append]
          rfl
        have zl : z.length < sizeLine := by
          have := nd_len z U z3 fun v hv => by
            obtain ⟨t', h1, h2⟩ := List.mem_map.mp ((z4 v).mp hv)
            have h3 := ((hrow hr t').mp (List.mem_of_mem_take h1)).1
            rw [← h2]
            exact (hSU t'.2 (by rw [ess]; exact List.mem_map.mpr ⟨_, h3, rfl⟩)).1
          exact sz_m (by omega)
        refine ⟨rfl, _, rfl, t.1, _, 0, .int t.2.one, rfl, rfl, ex_t (eHG.trans z1) p1, rfl, seenK z, Sum.inl t.2.one, rfl, z2, by unfold seenK; rw [List.length_map]; exact zl, z1.mut hD2, ?_⟩
        rw [tk]
        by_cases hin : t.2.one ∈ z
        · rw [seenK_old hin]
          refine ⟨z, upd_same, z3, fun v => ?_⟩
          rw [List.mem_append, z4 v, List.mem_singleton]
          exact ⟨.inl, fun y => y.elim id fun e => by rw [e]; exact (z4 _).mp hin⟩
        · rw [seenK_new hin]
          refine ⟨z ++ [t.2.one], upd_same, List.nodup_append.mpr ⟨z3, by simp, fun x hx y hy e => ?_⟩, fun v => by rw [List.mem_append, List.mem_append, z4 v]⟩
          rw [List.mem_singleton.mp hy] at e
          exact hin (e ▸ hx)
      · rintro G5 ⟨z1, z, z2, z3, z4⟩
        rw [List.length_map, List.take_length] at z4
        have zU : z.length < 64 := by
          have := nd_len z U z3 fun v hv => by
            obtain ⟨t', h1, h2⟩ := List.mem_map.mp ((z4 v).mp hv)
            have h3 := ((hrow hr t').mp h1).1
            rw [← h2]
            exact (hSU t'.2 (by rw [ess]; exact List.mem_map.mpr ⟨_, h3, rfl⟩)).1
          omega
        have zm : ∀ v, v ∈ z ↔ Sm2 (edg ss) p v := fun v => by
          rw [z4 v, ← LO.lot hF, List.mem_map, ess]
          constructor
          · rintro ⟨t, h1, h2⟩
            exact ⟨t.2, innA_inn.mpr ⟨t.1, innA_mem.mpr (by rw [← er]; exact (hrow hr t).mp h1)⟩, h2⟩
          · rintro ⟨s, h1, h2⟩
            obtain ⟨b, hb⟩ := innA_inn.mp h1
            exact ⟨(b, s), (hrow hr _).mpr (by rw [er]; exact innA_mem.mp hb), h2⟩
        refine ⟨D2, seenK z, z, rfl, .inl z2, ?_, zU, fun zs a hzp hzs ha => ?_⟩
        · unfold seenK
          rw [List.map_map]
          rfl
        have y5 := Ex.new (o := .lst (zs.map V.int)) ha
        have j5 : upd G5 a (.lst (zs.map V.int)) a = some (.lst (zs.map V.int)) := upd_same
        generalize upd G5 a (.lst (zs.map V.int)) = G6 at y5 j5 ⊢
        have e46 := (q1.trans z1).trans y5
        refine ⟨_, rfl, _, rfl, A, _, rfl, gA e46, by show 2 ≤ sizeLine; decide, fun T hT => ?_⟩
        have y6 := Ex.new (o := .tup [V.ref a, V.ref r.2.1]) hT
        have j6 : upd G6 T (.tup [V.ref a, V.ref r.2.1]) T = some (.tup [V.ref a, V.ref r.2.1]) := upd_same
        have TD : T ≠ D := (ne_of_none ((z1.trans y5) _ _ q2) hT).symm
        have aD : a ≠ D := (ne_of_none (z1 _ _ q2) ha).symm
        have rD : r.2.1 ≠ D := ne_of_none lat hD0
        generalize upd G6 T (.tup [V.ref a, V.ref r.2.1]) = G7 at y6 j6 ⊢
        have e7 : Ex G G7 := (z1.trans y5).trans y6
        have e47 := q1.trans e7
        refine ⟨_, e7 _ _ q2, by rw [List.length_map, q3]; exact sz_m (by omega), e47.mut hD0, lr ++ [⟨T, a, r.2.1, zs, r.2.2.map (fun t => V.ref t.1), r.2.2.map (·.2)⟩], by rw [upd_same, List.map_append]; rfl, by rw [List.length_append, q3]; rfl, fun j p' r' hj hr' => ?_, fun r' hr' => ?_⟩
        · by_cases jl : j < lr.length
          · rw [List.getElem?_append_left jl] at hr'
            exact q4 j p' r' hj hr'
          · have jl2 : j = i := by
              have := (List.getElem?_eq_some_iff.mp hr').1
              rw [List.length_append, List.length_singleton] at this
              omega
            subst jl2
            rw [List.getElem?_append_right (by omega), q3, Nat.sub_self] at hr'
            rw [hp] at hj
            cases hj
            cases hr'
            exact ⟨hzp.nodup_iff.mpr z3, hzs, fun v => hzp.mem_iff.trans (zm v)⟩
        · rw [hid_upda]
          rcases List.mem_append.mp hr' with hr' | hr'
          · exact (q5 r' hr').ex (hid_mono e7)
          · rw [List.mem_singleton.mp hr']
            refine ⟨by rw [hid_ne TD TD]; exact j6, fresh_back ((eH4.trans q1).trans z1) ha, by rw [hid_ne aD aD]; exact y6 _ _ j5, by rw [hid_ne rD rD]; exact e47 _ _ lat, dpa_ex (eHid e47) _ _ (its_dpa fun t ht => hit t ((hrow hr t).mp ht).1), fun s => ?_⟩
            show s ∈ r.2.2.map (·.2) ↔ s ∈ ss ∧ s.one ∈ zs ∧ s.other ∈ zs
            rw [hzp.mem_iff, hzp.mem_iff, zm, zm, List.mem_map]
            constructor
            · rintro ⟨t, h1, rfl⟩
              obtain ⟨g1, g2, g3⟩ := (hrow hr t).mp h1
              have hs : t.2 ∈ ss := by rw [ess]; exact List.mem_map.mpr ⟨_, g1, rfl⟩
              have s1 := LO.sm (LO.one hs)
              have s2 := LO.sm (LO.other hs)
              rw [g3, er] at s1
              rw [← g2, g3, er] at s2
              exact ⟨hs, s1.symm, s2.symm⟩
            · rintro ⟨hs, s1, s2⟩
              have hs' := hs
              rw [ess] at hs'
              obtain ⟨t, g1, rfl⟩ := List.mem_map.mp hs'
              refine ⟨t, (hrow hr t).mpr ⟨g1, (LO.eq (LO.one hs) (LO.other hs)).mpr (s1.symm.trans s2), ?_⟩, rfl⟩
              have b1 := LO.lst (LO.one hs) s1.symm
              have b2 := hF.1 _ (s1.trans (LO.sm (LO.one hs)))
              omega
    · rintro G ⟨q1, lr, q2, q3, q4, q5⟩
      rw [List.length_map] at q3
      refine kQ G D lr ps (eH4.trans q1) hHD q2 ⟨asc_of (hperm.nodup_iff.mpr ad.kn) hasc, fun v => hperm.mem_iff.trans (hfst v), by rw [List.length_map, q3], fun i p zs h1 h2 => ?_⟩ (fun r hr => (q5 r hr).ex hid_ex) (by rw [q3, hperm.length_eq, List.length_map]; exact rU)
      rw [List.getElem?_map] at h2
      cases e : lr[i]? with
      | none => rw [e] at h2; cases h2
      | some r =>
        rw [e] at h2
        cases h2
        exact q4 i p r h1 e
end
end AA

set_option Elab.async false
set_option linter.all false
set_option maxRecDepth 100000
set_option maxHeartbeats 4000000
/-! _law_is_whole, _law_step_of. -/
namespace AA
open PySem PySem.Spec PyProof.Rows L2 Evl
theorem cut_fr (xs : List V) (j : Nat) : cutV xs (some (j : Int)) none = xs.drop j := cut_from xs j
/-- the step that a thing has the form of -/
def stepOf (d : PyData) : Option St5 :=
  match itemsD d with
  | [.int a, .int b, c, .int e, .int f] =>
    match itemsD c with
    | [.int p, .int q] => some ⟨a, b, p, q, e, f⟩
    | _ => none
  | _ => none
theorem so_at {a b e f p q : Int} {d c : PyData} (hd : itemsD d = [.int a, .int b, c, .int e, .int f]) (hc : itemsD c = [.int p, .int q]) : stepOf d = some ⟨a, b, p, q, e, f⟩ := by
  unfold stepOf
  rw [hd]
  show (match itemsD c with | [.int p, .int q] => some (⟨a, b, p, q, e, f⟩ : St5) | _ => none) = _
  rw [hc]
theorem so_inv {d : PyData} {s : St5} (h : stepOf d = some s) : ∃ c, itemsD d = [.int s.one, .int s.other, c, .int s.ticks, .int s.change] ∧ itemsD c = [.int s.p, .int s.q] := by
  unfold stepOf at h
  split at h
  · rename_i e1
    split at h
    · rename_i e2
      cases (Option.some.inj h)
      exact ⟨_, e1, e2⟩
    · cases h
  · cases h
theorem rd_so {n : Int} {d : PyData} {s : St5} (h : stepOf d = some s) : rdStep n d = if 0 ≤ s.one ∧ s.one < n ∧ 0 ≤ s.other ∧ s.other < n ∧ 1 ≤ s.ticks then some s else none := by
  obtain ⟨c, h1, h2⟩ := so_inv h
  exact rd_at h1 h2
theorem rd_no {n : Int} {d : PyData} (h : stepOf d = none) : rdStep n d = none := by
  cases q : rdStep n d with
  | none => rfl
  | some s =>
    obtain ⟨d0, d1, d2, d3, d4, hd⟩ := five_of (rd_len q)
    obtain ⟨h4, h2⟩ := rd_ints hd q
    obtain ⟨a, b, e, f, rfl, rfl, rfl, rfl⟩ := four_of h4
    obtain ⟨p, q', hc⟩ := two_of h2
    rw [so_at hd hc] at h
    cases h
theorem so_no {d d0 d1 d2 d3 d4 : PyData} (hd : itemsD d = [d0, d1, d2, d3, d4]) (h : ∀ e0 e1, itemsD d2 = [e0, e1] → ¬ ([d0, d1] ++ [e0, e1] ++ [d3, d4]).all isIntD = true) : stepOf d = none := by
  cases q : stepOf d with
  | none => rfl
  | some s =>
    obtain ⟨c, h1, h2⟩ := so_inv q
    rw [hd] at h1
    cases h1
    exact absurd rfl (h _ _ h2)
theorem sz2 {n : Nat} (h : n ≤ 2000000) : n ≤ sizeLine := by
  have : sizeLine = 16777216 := rfl
  omega
theorem cut_sq {K : PySem.W.Frag} {G : Hp} {a : Addr} {xs ys : List V} {lo hi : Option Int} {R : VK} (h : SqL K G a xs ∨ SqT K G a xs) (hc : cutV xs lo hi = ys) (hw : ¬ (HT.sIx xs.length 0 lo = 0 ∧ HT.sIx xs.length xs.length hi = xs.length))
    (k : ∀ G' q, Ex G G' → G q = none → SqL K G' q ys ∨ SqT K G' q ys → R (.ref q) G') : rSlL K (.ref a) lo hi G R ∨ rSlT K (.ref a) lo hi G R := by
  subst hc
  exact h.imp (fun z => ⟨a, _, rfl, z, fun p hp => k _ p (Ex.new hp) hp (.inl (SqL.of upd_same))⟩) (fun z => ⟨a, _, rfl, z, hw, fun p hp => k _ p (Ex.new hp) hp (.inr (SqT.of upd_same))⟩)
/-- what _law_step_of answers -/
def SoR (K : PySem.W.Frag) (H : Hp) (L : Addr) : Option St5 → Prop
  | none => H L = some (.lst [])
  | some s => ∃ t, H L = some (.lst [.ref t]) ∧ Dp K H (.ref t) (stD s)
section
variable {P : Program} {w : World} {K : PySem.W.Frag} {mg : Str → Option Value} {base : Heap}
def spWhole (K : PySem.W.Frag) : Sp := fun vs H Q _ => ∃ (v : V) (d : PyData), vs = [v] ∧ Dp K H v d ∧ Q (.bl (isIntD d)) H
theorem scWhole : FnScope ["_law_thing"] ["_law_thing"] (defScope sIsWhole) := ⟨rfl, rfl, rfl, by decide +kernel, rfl, by decide +kernel, by decide +kernel⟩
theorem ok_whole {f : Addr} {fd : FuncData} (F : L2.Fun K "_law_is_whole" "_law_is_whole" sIsWhole f fd) (T : Bn mg) : FnOk P w K mg base CX0 1 f fd ["_law_thing"] (spWhole K) := by
  refine F.ok scWhole (fun vs H Q E h => ?_) (fun cdv A outer s H vs Q E hr h => ?_)
  · obtain ⟨v, d, rfl, _⟩ := h
    rfl
  · obtain ⟨v, d, rfl, hd, k⟩ := h
    refine ⟨_, pss_one (ps_ret (pe_and (pe_callB call_is1 (by rfl) T.isinstance boot_isinstance (pa_cons (pv 0) (pa_cons (pe_bltn (v := .ty "int") (by rfl) T.int boot_int rfl) pa_nil)))
      (pe_one (pe_not (pe_callB call_is1 (by rfl) T.isinstance boot_isinstance (pa_cons (pv 0) (pa_cons (pe_bltn (v := .ty "bool") (by rfl) T.bool boot_bool rfl) pa_nil))))))), ?_⟩
    refine ⟨_, rfl, v, _, _, .type "int", _, rfl, .ty _, ty_dp hd, kd_int d, _, rfl, ?_⟩
    by_cases hi : isIntD d = true
    · rw [hi] at k ⊢
      refine iteT ?_
      refine ⟨_, rfl, v, _, _, .type "bool", _, rfl, .ty _, ty_dp hd, kd_bool d, _, rfl, ?_⟩
      cases d <;> first | exact k | cases hi
    · have hf : isIntD d = false := by simpa using hi
      rw [hf] at k ⊢
      cases d with
      | bool b =>
        refine iteT ?_
        exact ⟨_, rfl, v, _, _, .type "bool", _, rfl, .ty _, ty_dp hd, kd_bool _, _, rfl, k⟩
      | int i => cases hf
      | _ => exact iteF k
def spStepOf (K : PySem.W.Frag) : Sp := fun vs H Q _ => ∃ (v : V) (d : PyData), vs = [v] ∧ Dp K H v d ∧ dOk d = true ∧ ∀ H' L, Ex H H' → H L = none → SoR K H' L (stepOf d) → Q (.ref L) H'
theorem scStepOf : FnScope ["_law_thing", "_law_numbers", "_law_number"] ["_law_thing"] (defScope sStepOf) := ⟨rfl, rfl, rfl, by decide +kernel, rfl, by decide +kernel, by decide +kernel⟩
theorem ok_stepOf {f : Addr} {fd : FuncData} (F : L2.Fun K "_law_step_of" "_law_step_of" sStepOf f fd) (T : Bn mg) (cW : C8.Cal P w K mg base 1 "_law_is_whole" (spWhole K) []) : FnOk P w K mg base CX0 2 f fd ["_law_thing"] (spStepOf K) := by
  refine F.ok scStepOf (fun vs H Q E h => ?_) (fun cdv A outer s H vs Q E hr h => ?_)
  · obtain ⟨v, d, rfl, _⟩ := h
    rfl
  · obtain ⟨v, d, rfl, hd, hok, k⟩ := h
    refine ⟨_, pss_cons (ps_if (PW.pt (pw_or (pt_not (pt_val (pe_callB call_isN (by rfl) T.isinstance boot_isinstance (pa_cons (pv 0) (pa_cons (pe_tup (pa_cons (pe_bltn (v := .ty "list") (by rfl) T.list boot_list rfl) (pa_cons (pe_bltn (v := .ty "tuple") (by rfl) T.tuple boot_tuple rfl) pa_nil))) pa_nil)))))
          (pw_or (pt_cmpR op_ne (pe_callB call_len_seq (by rfl) T.len PySem.boot_len (pa_cons (pv 0) pa_nil)) pe_int (nomark _))
          (pw_or1 (pt_not (pt_val (pe_callB call_isN (by rfl) T.isinstance boot_isinstance (pa_cons (pe_ix ix_seq (pv 0) pe_int (fun _ _ => rfl)) (pa_cons (pe_tup (pa_cons (pe_bltn (v := .ty "list") (by rfl) T.list boot_list rfl) (pa_cons (pe_bltn (v := .ty "tuple") (by rfl) T.tuple boot_tuple rfl) pa_nil))) pa_nil)))))))))
        (pss_one (ps_ret (pe_lst pa_nil))) pss_nil)
      (pss_cons (ps_set (i := 1) scStepOf.nd rfl (Or.inl rfl) (pe_op op_cat (pe_op op_cat (pe_callTy call_list_of (by rfl) T.list boot_list (pa_cons (pe_slice (SlR.or sl_list sl_tup) (pv 0) po_none (po_some pe_int)) pa_nil)) (pe_callTy call_list_of (by rfl) T.list boot_list (pa_cons (pe_ix ix_seq (pv 0) pe_int (fun _ _ => rfl)) pa_nil)))
          (pe_callTy call_list_of (by rfl) T.list boot_list (pa_cons (pe_slice (SlR.or sl_list sl_tup) (pv 0) (po_some pe_int) po_none) pa_nil))))
      (pss_cons (ps_if (PW.pt (pw_or (pt_cmpR op_ne (pe_callB call_len_seq (by rfl) T.len PySem.boot_len (pa_cons (pe_ix ix_seq (pv 0) pe_int (fun _ _ => rfl)) pa_nil)) pe_int (nomark _))
          (pw_or1 (pt_not (pt_val (pe_callB (cr_all (by rfl)) (by rfl) T.all boot_all (pa_cons (pe_lc (own := [("_law_number", 2)]) (g := gName 2) (tt := tYes) (by rfl) scStepOf.nd (pi_list (pv 1)) (blkOk_by (N := ["_law_thing", "_law_numbers", "_law_number"]) (sc := defScope sStepOf) (by decide +kernel))
              (fun _ _ _ _ _ => pg_name (i := 2) scStepOf.nd rfl (Or.inl rfl)) (fun _ _ _ _ _ => pts_nil) (fun _ _ _ _ _ => C8.pe_c cW hr (by decide) (by rfl) (pa_cons (pv 2) pa_nil))) pa_nil)))))))
        (pss_one (ps_ret (pe_lst pa_nil))) pss_nil)
      (pss_one (ps_ret (pe_lst (pa_cons (pe_tup (pa_cons (pe_ix ix_seq (pv 0) pe_int (fun _ _ => rfl)) (pa_cons (pe_ix ix_seq (pv 0) pe_int (fun _ _ => rfl)) (pa_cons (pe_callTy call_tuple_of (by rfl) T.tuple boot_tuple (pa_cons (pe_ix ix_seq (pv 0) pe_int (fun _ _ => rfl)) pa_nil)) (pa_cons (pe_ix ix_seq (pv 0) pe_int (fun _ _ => rfl)) (pa_cons (pe_ix ix_seq (pv 0) pe_int (fun _ _ => rfl)) pa_nil)))))) pa_nil)))))), ?_⟩
    have kn : stepOf d = none → ∀ G, Ex H G → ∀ L, G L = none → Q (.ref L) (upd G L (.lst [])) := fun e G eG L hL => k _ L (eG.trans (Ex.new hL)) (fresh_back eG hL) (by rw [e]; exact upd_same)
    refine ⟨_, rfl, by show 2 ≤ sizeLine; decide, fun p hp => ?_⟩
    have e1 := Ex.new (o := .tup [.ty "list", .ty "tuple"]) hp
    refine ⟨v, p, _, _, [.type "list", .type "tuple"], isListD d, rfl, upd_same, .cons (.ty _) (.cons (.ty _) .nil), ty_dp (dp_ex e1 _ _ hd), kd_seq d, _, rfl, ?_⟩
    generalize upd H p (.tup [.ty "list", .ty "tuple"]) = G1 at e1 ⊢
    by_cases hl : isListD d = true
    case neg =>
      have hf : isListD d = false := by simpa using hl
      rw [hf]
      refine iteT (iteT ⟨Nat.zero_le _, kn ?_ _ e1⟩)
      cases q : stepOf d with
      | none => rfl
      | some s =>
        obtain ⟨c, h1, _⟩ := so_inv q
        cases d <;> first | (cases h1; done) | (cases hf; done)
    rw [hl]
    refine iteF ?_
    obtain ⟨a, xs, ds, rfl, hX, hs⟩ := dp_seq hd hl
    have hlen := dpa_len hX
    have hit : itemsD d = ds := by
      rcases hs with ⟨rfl, _⟩ | ⟨rfl, _⟩ <;> rfl
    have hS : SqL K H a xs ∨ SqT K H a xs := hs.imp And.right And.right
    have at_ : ∀ {G : Hp}, Ex H G → (SqL K G a xs ∨ SqT K G a xs) := fun e => hS.imp (ex_l e) (ex_t e)
    refine ⟨_, rfl, a, xs, rfl, at_ e1, rfl, _, rfl, ?_⟩
    by_cases h5 : xs.length = 5
    case neg =>
      rw [decide_eq_false (fun z => h5 (by have := V.int.inj z; omega))]
      refine iteT (iteT ⟨Nat.zero_le _, kn ?_ _ e1⟩)
      cases q : stepOf d with
      | none => rfl
      | some s =>
        obtain ⟨c, h1, _⟩ := so_inv q
        rw [hit] at h1
        exact absurd (by rw [hlen, h1]; rfl) h5
    rw [decide_eq_true (show V.int (xs.length : Int) = V.int 5 by rw [h5]; rfl)]
    refine iteF ?_
    obtain ⟨x0, x1, x2, x3, x4, rfl⟩ := five_of h5
    obtain ⟨d0, d1, d2, d3, d4, rfl, hx0, hx1, hx2, hx3, hx4⟩ := dpa_five hX
    refine ⟨_, rfl, ix_at (j := 2) (at_ e1) rfl ?_⟩
    refine ⟨by show 2 ≤ sizeLine; decide, fun p2 hp2 => ?_⟩
    have e2 := e1.trans (Ex.new (o := .tup [.ty "list", .ty "tuple"]) hp2)
    refine ⟨x2, p2, _, _, [.type "list", .type "tuple"], isListD d2, rfl, upd_same, .cons (.ty _) (.cons (.ty _) .nil), ty_dp (dp_ex e2 _ _ hx2), kd_seq d2, _, rfl, ?_⟩
    generalize upd G1 p2 (.tup [.ty "list", .ty "tuple"]) = G2 at e2 ⊢
    have dk2 : dOk d2 = true := by
      have : dOkA [d0, d1, d2, d3, d4] = true := by
        have q : (decide (([d0, d1, d2, d3, d4] : List PyData).length ≤ 1000000) && dOkA [d0, d1, d2, d3, d4]) = true := by
          rcases hs with ⟨rfl, _⟩ | ⟨rfl, _⟩ <;> exact hok
        exact (Bool.and_eq_true_iff.mp q).2
      have z : (dOk d0 && (dOk d1 && (dOk d2 && (dOk d3 && (dOk d4 && true))))) = true := this
      simp only [Bool.and_eq_true] at z
      exact z.2.2.1
    by_cases hl2 : isListD d2 = true
    case neg =>
      have hf : isListD d2 = false := by simpa using hl2
      rw [hf]
      refine iteT ⟨Nat.zero_le _, kn (so_no hit fun f0 f1 hf' _ => ?_) _ e2⟩
      cases d2 <;> first | (cases hf'; done) | (cases hf; done)
    rw [hl2]
    refine iteF ?_
    obtain ⟨b, ys, es, rfl, hY, hs2⟩ := dp_seq hx2 hl2
    have hit2 : itemsD d2 = es := by
      rcases hs2 with ⟨rfl, _⟩ | ⟨rfl, _⟩ <;> rfl
    have hylen := dpa_len hY
    have hyz : ys.length ≤ 1000000 := by
      rw [hylen]
      rcases hs2 with ⟨rfl, _⟩ | ⟨rfl, _⟩ <;> exact of_decide_eq_true (Bool.and_eq_true_iff.mp dk2).1
    have hS2 : SqL K H b ys ∨ SqT K H b ys := hs2.imp And.right And.right
    have at2 : ∀ {G : Hp}, Ex H G → (SqL K G b ys ∨ SqT K G b ys) := fun e => hS2.imp (ex_l e) (ex_t e)
    -- the numbers
    refine ⟨_, rfl, 2, rfl, cut_sq (at_ e2) (ys := [x0, x1]) (cut_to _ 2) (by show ¬ (HT.sIx 5 0 none = 0 ∧ HT.sIx 5 5 (some 2) = 5); decide) (fun G3 q1 y3 _ h3 => ?_)⟩
    have e3 := e2.trans y3
    refine ⟨q1, _, rfl, h3, fun n1 hn1 => ?_⟩
    have y4 := Ex.new (o := .lst [x0, x1]) hn1
    have f4 : upd G3 n1 (.lst [x0, x1]) n1 = some (.lst [x0, x1]) := upd_same
    generalize upd G3 n1 (.lst [x0, x1]) = G4 at y4 f4 ⊢
    have e4 := e3.trans y4
    refine ⟨_, rfl, ix_at (j := 2) (at_ e4) rfl ⟨b, ys, rfl, at2 e4, fun n2 hn2 => ?_⟩⟩
    have y5 := Ex.new (o := .lst ys) hn2
    have f5 : upd G4 n2 (.lst ys) n2 = some (.lst ys) := upd_same
    generalize upd G4 n2 (.lst ys) = G5 at y5 f5 ⊢
    have e5 := e4.trans y5
    refine ⟨n1, n2, _, _, rfl, rfl, y5 _ _ f4, f5, sz2 (by show 2 + _ ≤ _; omega), fun n3 hn3 => ?_⟩
    have y6 := Ex.new (o := .lst ([x0, x1] ++ ys)) hn3
    have f6 : upd G5 n3 (.lst ([x0, x1] ++ ys)) n3 = some (.lst ([x0, x1] ++ ys)) := upd_same
    generalize upd G5 n3 (.lst ([x0, x1] ++ ys)) = G6 at y6 f6 ⊢
    have e6 := e5.trans y6
    refine ⟨_, rfl, 3, rfl, cut_sq (at_ e6) (ys := [x3, x4]) (cut_fr _ 3) (by show ¬ (HT.sIx 5 0 (some 3) = 0 ∧ HT.sIx 5 5 none = 5); decide) (fun G7 q2 y7 _ h7 => ?_)⟩
    have e7 := e6.trans y7
    refine ⟨q2, _, rfl, h7, fun n4 hn4 => ?_⟩
    have y8 := Ex.new (o := .lst [x3, x4]) hn4
    have f8 : upd G7 n4 (.lst [x3, x4]) n4 = some (.lst [x3, x4]) := upd_same
    generalize upd G7 n4 (.lst [x3, x4]) = G8 at y8 f8 ⊢
    have e8 := e7.trans y8
    refine ⟨n3, n4, _, _, rfl, rfl, (y7.trans y8) _ _ f6, f8, sz2 (by rw [List.length_append]; show 2 + _ + 2 ≤ _; omega), fun N hN => ?_⟩
    generalize hns : ([x0, x1] ++ ys) ++ [x3, x4] = ns
    have y9 := Ex.new (o := .lst ns) hN
    have f9 : upd G8 N (.lst ns) N = some (.lst ns) := upd_same
    generalize upd G8 N (.lst ns) = G9 at y9 f9 ⊢
    have e9 := e8.trans y9
    have hA : DpAll K H ns (([d0, d1] ++ es) ++ [d3, d4]) := by
      rw [← hns]
      exact dpa_app (dpa_app (.cons hx0 (.cons hx1 .nil)) hY) (.cons hx3 (.cons hx4 .nil))
    have hnl := dpa_len hA
    have hnz : ns.length ≤ 1000004 := by
      rw [← hns, List.length_append, List.length_append]
      show 2 + _ + 2 ≤ _
      omega
    refine ⟨_, rfl, ix_at (j := 2) (at_ e9) rfl ⟨b, ys, rfl, at2 e9, rfl, _, rfl, ?_⟩⟩
    by_cases h2 : ys.length = 2
    case neg =>
      rw [decide_eq_false (fun z => h2 (by have := V.int.inj z; omega))]
      refine iteT ⟨Nat.zero_le _, kn (so_no hit fun f0 f1 hf' _ => h2 ?_) _ e9⟩
      rw [hylen, ← hit2, hf']
      rfl
    rw [decide_eq_true (show V.int (ys.length : Int) = V.int 2 by rw [h2]; rfl)]
    refine iteF ?_
    refine ⟨_, rfl, N, rfl, ⟨_, SqL.of f9⟩, fun D hD => ?_⟩
    refine lc_list (xs := ns) (fun i G => Ex G9 G ∧ G D = some (.lst (((([d0, d1] ++ es) ++ [d3, d4]).take i |>.map isIntD).map V.bl))) ⟨Ex.new hD, upd_same⟩ (fun i G _ q => SqL.of (q.1 _ _ f9)) ?_ ?_
    · rintro i x G hx ⟨q1, q2⟩
      obtain ⟨di, hdi, hxd⟩ := dpa_get hA hx
      have il := (List.getElem?_eq_some_iff.mp hx).1
      refine ⟨rfl, _, rfl, x, di, rfl, dp_ex (e9.trans q1) _ _ hxd, _, q2, ?_, Ex.mut q1 hD, ?_⟩
      · rw [List.length_map, List.length_map, List.length_take]
        have : sizeLine = 16777216 := rfl
        omega
      · rw [upd_same, List.take_succ, hdi, List.map_append, List.map_append]
        rfl
    · rintro G ⟨q1, q2⟩
      rw [hnl, List.take_of_length_le (Nat.le_refl _)] at q2
      have e10 := e9.trans q1
      refine ⟨D, _, rfl, SqL.of q2, _, rfl, ?_⟩
      obtain ⟨y0, y1, rfl⟩ := two_ofl h2
      obtain ⟨c0, c1, rfl, hy0, hy1⟩ := dpa_two hY
      rw [show ∀ l : List PyData, (l.map isIntD).all id = l.all isIntD from fun l => by rw [List.all_map]; rfl]
      by_cases hall : ([d0, d1] ++ [c0, c1] ++ [d3, d4]).all isIntD = true
      case neg =>
        have hf : ([d0, d1] ++ [c0, c1] ++ [d3, d4]).all isIntD = false := by simpa using hall
        rw [hf]
        refine iteT ⟨Nat.zero_le _, kn (so_no hit fun f0 f1 hf' => ?_) _ e10⟩
        rw [hit2] at hf'
        cases hf'
        exact hall
      rw [hall]
      refine iteF ?_
      have hi : ∀ z ∈ [d0, d1] ++ [c0, c1] ++ [d3, d4], isIntD z = true := List.all_eq_true.mp hall
      obtain ⟨i0, rfl⟩ := int_of (hi d0 (by simp))
      obtain ⟨i1, rfl⟩ := int_of (hi d1 (by simp))
      obtain ⟨p, rfl⟩ := int_of (hi c0 (by simp))
      obtain ⟨q, rfl⟩ := int_of (hi c1 (by simp))
      obtain ⟨i3, rfl⟩ := int_of (hi d3 (by simp))
      obtain ⟨i4, rfl⟩ := int_of (hi d4 (by simp))
      have hso := so_at hit hit2
      cases hx0
      cases hx1
      cases hx3
      cases hx4
      cases hy0
      cases hy1
      refine ⟨_, rfl, ix_at (j := 0) (at_ e10) rfl ?_⟩
      refine ⟨_, rfl, ix_at (j := 1) (at_ e10) rfl ?_⟩
      refine ⟨_, rfl, ix_at (j := 2) (at_ e10) rfl ⟨b, [.int p, .int q], rfl, ?_⟩⟩
      have fin : ∀ (G' : Hp) (u : Addr), Ex H G' → SqT K G' u [.int p, .int q] → ∀ t, G' t = none → ∀ L, upd G' t (.tup [.int i0, .int i1, .ref u, .int i3, .int i4]) L = none →
          Q (.ref L) (upd (upd G' t (.tup [.int i0, .int i1, .ref u, .int i3, .int i4])) L (.lst [.ref t])) := fun G' u eG hu t ht L hL => by
        have eF := (Ex.new (o := .tup [.int i0, .int i1, .ref u, .int i3, .int i4]) ht).trans (Ex.new (o := .lst [.ref t]) hL)
        refine k _ L (eG.trans eF) (fresh_back (eG.trans (Ex.new ht)) hL) ?_
        rw [hso]
        exact ⟨t, upd_same, stD_mk (s := ⟨i0, i1, p, q, i3, i4⟩) (SqT.of (by rw [upd_ne (ne_of_none upd_same hL)]; exact upd_same)) (ex_t eF hu)⟩
      refine (at2 e10).imp (fun z => ⟨z, fun u hu => ?_⟩) (fun z => ⟨z, ?_⟩)
      · have eu := Ex.new (o := .tup [V.int p, V.int q]) hu
        refine ⟨_, rfl, ix_at (j := 3) (at_ (e10.trans eu)) rfl ?_⟩
        refine ⟨_, rfl, ix_at (j := 4) (at_ (e10.trans eu)) rfl ?_⟩
        exact ⟨by show 5 ≤ sizeLine; decide, fun t ht => ⟨by show 1 ≤ sizeLine; decide, fun L hL => fin _ u (e10.trans eu) (SqT.of upd_same) t ht L hL⟩⟩
      · refine ⟨_, rfl, ix_at (j := 3) (at_ e10) rfl ?_⟩
        refine ⟨_, rfl, ix_at (j := 4) (at_ e10) rfl ?_⟩
        exact ⟨by show 5 ≤ sizeLine; decide, fun t ht => ⟨by show 1 ≤ sizeLine; decide, fun L hL => fin _ b e10 z t ht L hL⟩⟩
end
end AA

set_option Elab.async false
set_option linter.all false
set_option maxRecDepth 100000
set_option maxHeartbeats 4000000
/-! _law_loose of anything. -/
namespace AA
open PySem PySem.Spec PyProof.Rows L2 Evl
mutual
inductive Lz : PyData → PyData → Prop
  | leaf (d : PyData) (h : isListD d = false) : Lz d d
  | ll {xs ys : List PyData} : LzA xs ys → Lz (.list xs) (.list ys)
  | lt {xs ys : List PyData} : LzA xs ys → Lz (.list xs) (.tuple ys)
  | tl {xs ys : List PyData} : LzA xs ys → Lz (.tuple xs) (.list ys)
  | tt {xs ys : List PyData} : LzA xs ys → Lz (.tuple xs) (.tuple ys)
inductive LzA : List PyData → List PyData → Prop
  | nil : LzA [] []
  | cons {x y : PyData} {xs ys : List PyData} : Lz x y → LzA xs ys → LzA (x :: xs) (y :: ys)
end
theorem LzA.app : ∀ {xs ys us vs : List PyData}, LzA xs ys → LzA us vs → LzA (xs ++ us) (ys ++ vs)
  | [], _, _, _, h, k => by
    cases h
    exact k
  | x :: xs, _, _, _, h, k => by
    cases h with
    | cons h1 h2 => exact .cons h1 (LzA.app h2 k)
theorem LzA.len : ∀ {xs ys : List PyData}, LzA xs ys → xs.length = ys.length
  | [], _, h => by
    cases h
    rfl
  | x :: xs, _, h => by
    cases h with
    | cons h1 h2 => rw [List.length_cons, List.length_cons, LzA.len h2]
mutual
theorem Lz.symm : ∀ {x y : PyData}, Lz x y → Lz y x
  | _, _, .leaf d h => .leaf d h
  | _, _, .ll h => .ll (LzA.symm h)
  | _, _, .lt h => .tl (LzA.symm h)
  | _, _, .tl h => .lt (LzA.symm h)
  | _, _, .tt h => .tt (LzA.symm h)
theorem LzA.symm : ∀ {xs ys : List PyData}, LzA xs ys → LzA ys xs
  | _, _, .nil => .nil
  | _, _, .cons h t => .cons (Lz.symm h) (LzA.symm t)
end
theorem lz_items {x y : PyData} (h : Lz x y) : isListD y = isListD x ∧ (x = y ∨ LzA (itemsD x) (itemsD y)) := by
  cases h with
  | leaf d h => exact ⟨rfl, .inl rfl⟩
  | ll h => exact ⟨rfl, .inr h⟩
  | lt h => exact ⟨rfl, .inr h⟩
  | tl h => exact ⟨rfl, .inr h⟩
  | tt h => exact ⟨rfl, .inr h⟩
theorem lz_int {i : Int} {y : PyData} (h : Lz (.int i) y) : y = .int i := by
  cases h with
  | leaf => rfl
theorem lz_so1 {x y : PyData} {s : St5} (h : Lz x y) (e : stepOf x = some s) : stepOf y = some s := by
  obtain ⟨c, h1, h2⟩ := so_inv e
  rcases (lz_items h).2 with rfl | hA
  · exact e
  · rw [h1] at hA
    generalize hy : itemsD y = ys at hA
    cases hA with
    | cons a1 hA =>
      cases hA with
      | cons a2 hA =>
        cases hA with
        | cons a3 hA =>
          cases hA with
          | cons a4 hA =>
            cases hA with
            | cons a5 hA =>
              cases hA
              rw [lz_int a1, lz_int a2, lz_int a4, lz_int a5] at hy
              rcases (lz_items a3).2 with rfl | hB
              · exact so_at hy h2
              · rw [h2] at hB
                generalize hz : itemsD _ = zs at hB
                cases hB with
                | cons b1 hB =>
                  cases hB with
                  | cons b2 hB =>
                    cases hB
                    rw [lz_int b1, lz_int b2] at hz
                    exact so_at hy hz
theorem lz_so {x y : PyData} (h : Lz x y) : stepOf y = stepOf x := by
  cases q : stepOf x with
  | some s => exact lz_so1 h q
  | none =>
    cases q2 : stepOf y with
    | none => rfl
    | some s =>
      rw [lz_so1 h.symm q2] at q
      cases q
section
variable {P : Program} {w : World} {K : PySem.W.Frag} {mg : Str → Option Value} {base : Heap}
/-! ### _law_loose -/
def spLooseB (K : PySem.W.Frag) (D : Nat) : Sp := fun vs H Q _ => ∃ (a b : Addr) (n : Nat) (v : V), vs = [.ref a, v] ∧ SAt H a b n ∧ ((0 < D ∧ Lk K (hid a b H) v false ∧ ∀ H', ExS a b H H' → SAt H' a b n → Q v H') ∨ ∃ d, Dp K (hid a b H) v d ∧ d.depth < D ∧ n + cnt d < 900000000 ∧ cnt d < 1000000 ∧
  ∀ (H' : Hp) (v' : V) (d' : PyData), ExS a b H H' → SAt H' a b (n + cnt d) → Dp K (nw H H') v' d' → Lz d d' → Q v' H')
theorem scLooseB : FnScope ["_law_stream_here", "_law_thing", "_law_some", "_law_one"] ["_law_stream_here", "_law_thing"] (defScope sLoose) := ⟨rfl, rfl, rfl, by decide +kernel, rfl, by decide +kernel, by decide +kernel⟩
theorem ok_looseB {f : Addr} {fd : FuncData} (F : L2.Fun K "_law_loose" "_law_loose" sLoose f fd) (T : Bn mg) (hm : mg "_law_loose" = some (.ref f)) (bL : Binds K fd ["_law_stream_here", "_law_thing"] []) (cD : C8.Cal P w K mg base 1 "_law_draw" spDraw []) :
    ∀ D : Nat, FnOk P w K mg base CX0 (D + 2) f fd ["_law_stream_here", "_law_thing"] (spLooseB K D)
  | 0 => ⟨fun vs H Q E h => by
      obtain ⟨a, b, n, v, rfl, _⟩ := h
      rfl, fun A outer s H args us vs Q E _ _ _ _ h => by
      obtain ⟨a, b, n, v, _, _, ⟨h, _⟩ | ⟨d, _, h, _⟩⟩ := h
      · exact absurd h (Nat.not_lt_zero _)
      · exact absurd h (Nat.not_lt_zero _)⟩
  | D + 1 => by
    have cL : C8.Cal P w K mg base (D + 2) "_law_loose" (spLooseB K D) [] := cal_of F hm bL (ok_looseB F T hm bL cD D)
    refine F.ok scLooseB (fun vs H Q E h => ?_) (fun cdv A outer s H vs Q E hr h => ?_)
    · obtain ⟨a, b, n, v, rfl, _⟩ := h
      rfl
    · obtain ⟨a, b, n, v, rfl, hS, h⟩ := h
      refine ⟨_, pss_cons (ps_if (pt_val (pe_callB call_isN (by rfl) T.isinstance boot_isinstance (pa_cons (pv 1) (pa_cons (pe_tup (pa_cons (pe_bltn (v := .ty "list") (by rfl) T.list boot_list rfl) (pa_cons (pe_bltn (v := .ty "tuple") (by rfl) T.tuple boot_tuple rfl) pa_nil))) pa_nil))))
          (pss_cons (ps_setLc (i := 2) (own := [("_law_one", 3)]) (g := gName 3) (tt := tYes) (by rfl) scLooseB.nd rfl rfl (sw_true rfl rfl rfl (by decide +kernel)) (pi_or (pi_list (pv 1)) (pi_tup (pv 1))) (blkOk_by (N := ["_law_stream_here", "_law_thing", "_law_some", "_law_one"]) (sc := defScope sLoose) (by decide +kernel))
              (fun _ _ _ _ _ => pg_name (i := 3) scLooseB.nd rfl (Or.inl rfl)) (fun _ _ _ _ _ => pts_nil) (fun _ _ _ _ _ => C8.pe_c cL hr (by omega) (by rfl) (pa_cons (pv 0) (pa_cons (pv 3) pa_nil))))
            (pss_one (ps_ret (pe_ifExp (pt_cmpR op_eq (C8.pe_c cD hr (by omega) (by rfl) (pa_cons (pv 0) (pa_cons pe_int pa_nil))) pe_int (nomark _)) (pv 2) (pe_callTy call_tuple_of (by rfl) T.tuple boot_tuple (pa_cons (pv 2) pa_nil)))))) pss_nil)
        (pss_one (ps_ret (pv 1))), ?_⟩
      refine ⟨_, rfl, by show 2 ≤ sizeLine; decide, fun p hp => ?_⟩
      have pa := hS.nea hp
      have pb := hS.neb hp
      have e1 : ExS a b H (upd H p (.tup [.ty "list", .ty "tuple"])) := ExS.new ExS.rfl hp
      have s1 := hS.ex (Ex.new (o := .tup [.ty "list", .ty "tuple"]) hp)
      rcases h with ⟨_, ⟨t, hty, hk⟩, k⟩ | ⟨d, hd, hdp, hn, hc, k⟩
      · refine ⟨v, p, _, t, [.type "list", .type "tuple"], false, rfl, upd_same, .cons (.ty _) (.cons (.ty _) .nil), hty _ (nt_le.trans (Ex.trans e1 hid_ex)), hk, false, rfl, ?_⟩
        refine iteF ?_
        exact ⟨_, rfl, k _ e1 s1⟩
      -- the items, whatever they stand in
      have turn : ∀ (c : Addr) (xs : List V) (ds : List PyData) (L : Addr), DpAll K (hid a b H) xs ds → PyData.depthAll ds < D → n + cntA ds + 1 < 900000000 → cntA ds < 1000000 → H L = none →
          ∀ (i : Nat) (x : V) (H1 : Hp), xs[i]? = some x →
            (∃ (ys : List V) (es : List PyData), ExS a b H H1 ∧ SAt H1 a b (n + cntA (ds.take i)) ∧ H1 L = some (.lst ys) ∧ DpAll K (hid L L (nw H H1)) ys es ∧ LzA (ds.take i) es ∧ ys.length = i) →
            spLooseB K D [.ref a, x] H1 (fun y H4 => ∃ acc, H4 L = some (.lst acc) ∧ acc.length < sizeLine ∧
              ∃ (ys : List V) (es : List PyData), ExS a b H (upd H4 L (.lst (acc ++ [y]))) ∧ SAt (upd H4 L (.lst (acc ++ [y]))) a b (n + cntA (ds.take (i + 1))) ∧ upd H4 L (.lst (acc ++ [y])) L = some (.lst ys) ∧
                DpAll K (hid L L (nw H (upd H4 L (.lst (acc ++ [y]))))) ys es ∧ LzA (ds.take (i + 1)) es ∧ ys.length = i + 1) E := by
        rintro c xs ds L hD hdep hn hc hL i x H1 hi ⟨ys, es, hE, hS1, hL1, hY, hLs, hyl⟩
        obtain ⟨di, hdi, hx⟩ := dpa_get hD hi
        have h1 := cntA_take_le ds (i + 1)
        rw [cntA_get hdi] at h1
        have hlen := cntA_len ds
        have hil : i < ds.length := (List.getElem?_eq_some_iff.mp hdi).1
        have la := hS.nea hL
        have lb := hS.neb hL
        refine ⟨a, b, n + cntA (ds.take i), x, rfl, hS1, .inr ⟨di, dp_ex hE _ _ hx, Nat.lt_of_le_of_lt (depthA_get hdi) hdep, by omega, by omega, fun H2 v' d' e2 s2 hv' hls => ?_⟩⟩
        have hL2 : H2 L = some (.lst ys) := e2.at hL1 la lb
        have ups : Ex (hid L L (nw H H2)) (hid L L (nw H (upd H2 L (.lst (ys ++ [v']))))) := fun z o hz => by
          obtain ⟨z1, z2, _⟩ := hid_some hz
          obtain ⟨z3, z4⟩ := nw_some z1
          rw [hid_ne z2 z2]
          exact nw_of z3 (by rw [upd_ne z2]; exact z4)
        refine ⟨ys, hL2, by rw [hyl]; exact sz_m (by omega), ys ++ [v'], es ++ [d'], ExS.own (hE.trans e2) hL la lb, ?_, upd_same, ?_, ?_, by rw [List.length_append, hyl]; rfl⟩
        · rw [cntA_get hdi, ← Nat.add_assoc]
          exact s2.upd la lb
        · refine dpa_app (dpa_ex ((hid_mono (nw_step hS e2)).trans ups) _ _ hY) (.cons (dp_ex (Ex.trans (fun z o hz => ?_) ups) _ _ hv') .nil)
          obtain ⟨z1, z2⟩ := nw_some hz
          have zL : z ≠ L := fun q => by
            rw [q, hL1] at z1
            cases z1
          rw [hid_ne zL zL]
          exact nw_of (hE.back hS1 z1) z2
        · rw [List.take_add_one, hdi]
          exact LzA.app hLs (.cons hls .nil)
      -- behind the comprehension: what is handed back
      have fin1 : ∀ (ds : List PyData) (L : Addr) (ys : List V) (es : List PyData) (H1 H2 : Hp), H L = none → ExS a b H H1 → SAt H1 a b (n + cntA ds) → H1 L = some (.lst ys) → DpAll K (hid L L (nw H H1)) ys es → (Lz d (.list es) ∧ Lz d (.tuple es)) → cnt d = cntA ds + 1 →
          ExS a b H1 H2 → SAt H2 a b (n + cntA ds + 1) → Q (.ref L) H2 ∧ SqL K H2 L ys ∧ ∀ u, H2 u = none → Q (.ref u) (upd H2 u (.tup ys)) := by
        intro ds L ys es H1 H2 hL hE hS1 hL1 hY hls hcd e2 s2
        have la := hS.nea hL
        have lb := hS.neb hL
        have hL2 : H2 L = some (.lst ys) := e2.at hL1 la lb
        have hY2 := dpa_ex ((hid_mono (nw_step hS e2)).trans hid_ex) _ _ hY
        refine ⟨k H2 (.ref L) (.list es) (hE.trans e2) (s2.mono (by omega)) (.lst (SqL.of (nw_of hL hL2)) hY2) hls.1, SqL.of hL2, fun u hu => ?_⟩
        have hu0 : H u = none := ExS.back (hE.trans e2) s2 hu
        refine k _ (.ref u) (.tuple es) (ExS.new (hE.trans e2) hu) ((s2.ex (Ex.new hu)).mono (by omega)) (.tup (SqT.of (nw_of hu0 upd_same)) (dpa_ex (fun z o hz => ?_) _ _ hY2)) hls.2
        obtain ⟨z1, z2⟩ := nw_some hz
        exact nw_of z1 (Ex.new hu z o z2)
      rcases d with _ | b0 | i0 | x0 | ds | ds | kvs
      · cases hd
        refine ⟨.non, p, _, _, [.type "list", .type "tuple"], false, rfl, upd_same, .cons (.ty _) (.cons (.ty _) .nil), ty_dp (d := .none) (.non), kd_seq (.none), false, rfl, ?_⟩
        refine iteF ?_
        refine ⟨_, rfl, k _ (.non) (.none) e1 (s1.mono (by omega)) (.non) (.leaf _ rfl)⟩
      · cases hd
        refine ⟨.bl b0, p, _, _, [.type "list", .type "tuple"], false, rfl, upd_same, .cons (.ty _) (.cons (.ty _) .nil), ty_dp (d := .bool b0) (.bl b0), kd_seq (.bool b0), false, rfl, ?_⟩
        refine iteF ?_
        refine ⟨_, rfl, k _ (.bl b0) (.bool b0) e1 (s1.mono (by omega)) (.bl b0) (.leaf _ rfl)⟩
      · cases hd
        refine ⟨.int i0, p, _, _, [.type "list", .type "tuple"], false, rfl, upd_same, .cons (.ty _) (.cons (.ty _) .nil), ty_dp (d := .int i0) (.int i0), kd_seq (.int i0), false, rfl, ?_⟩
        refine iteF ?_
        refine ⟨_, rfl, k _ (.int i0) (.int i0) e1 (s1.mono (by omega)) (.int i0) (.leaf _ rfl)⟩
      · cases hd
        refine ⟨.str x0, p, _, _, [.type "list", .type "tuple"], false, rfl, upd_same, .cons (.ty _) (.cons (.ty _) .nil), ty_dp (d := .str x0) (.str x0), kd_seq (.str x0), false, rfl, ?_⟩
        refine iteF ?_
        refine ⟨_, rfl, k _ (.str x0) (.str x0) e1 (s1.mono (by omega)) (.str x0) (.leaf _ rfl)⟩
      · cases hd with
        | lst hx hD =>
          rename_i c xs
          have hdep : PyData.depthAll ds < D := Nat.lt_of_succ_lt_succ hdp
          have hcn : cnt (.list ds) = cntA ds + 1 := rfl
          rw [hcn] at hn hc
          have hxl := dpa_len hD
          refine ⟨_, p, _, _, [.type "list", .type "tuple"], true, rfl, upd_same, .cons (.ty _) (.cons (.ty _) .nil), Or.inl (ty_l (ex_l (e1.trans hid_ex) hx)), seq_yes_l, true, rfl, ?_⟩
          refine iteT ?_
          refine Or.inl ⟨_, rfl, c, rfl, ⟨xs, ex_l (e1.trans hid_ex) hx⟩, fun L hL => ?_⟩
          have hL0 : H L = none := fresh_back (Ex.new hp) hL
          have la := hS.nea hL0
          have lb := hS.neb hL0
          refine lc_list (xs := xs) (fun i H1 => ∃ (ys : List V) (es : List PyData), ExS a b H H1 ∧ SAt H1 a b (n + cntA (ds.take i)) ∧ H1 L = some (.lst ys) ∧ DpAll K (hid L L (nw H H1)) ys es ∧ LzA (ds.take i) es ∧ ys.length = i) ?_ ?_ ?_ ?_
          · exact ⟨[], [], ExS.own e1 hL0 la lb, s1.upd la lb, upd_same, .nil, .nil, rfl⟩
          · rintro i H1 _ ⟨ys, es, q⟩
            exact ex_l (q.1.trans hid_ex) hx
          · rintro i x H1 hxi q
            refine ⟨rfl, ?_⟩
            exact ⟨_, rfl, _, rfl, turn c xs ds L hD hdep (by omega) (by omega) hL0 i x H1 hxi q⟩
          · rintro H1 ⟨ys, es, hE, hS1, hL1, hY, hls, hyl⟩
            rw [hxl, List.take_of_length_le (Nat.le_refl _)] at hls hS1
            refine ⟨_, rfl, a, b, n + cntA ds, 2, rfl, hS1, by omega, by decide, by decide, fun H2 x e2 s2 x0 x1 => ⟨rfl, _, rfl, ?_⟩⟩
            obtain ⟨f1, f2, f3⟩ := fin1 ds L ys es H1 H2 hL0 hE hS1 hL1 hY ⟨.ll hls, .lt hls⟩ hcn e2 s2
            refine dec_ite (fun _ => ?_) (fun _ => ?_)
            · exact ⟨_, rfl, f1⟩
            · exact ⟨_, rfl, L, ys, rfl, .inl ⟨f2, f3⟩⟩
      · cases hd with
        | tup hx hD =>
          rename_i c xs
          have hdep : PyData.depthAll ds < D := Nat.lt_of_succ_lt_succ hdp
          have hcn : cnt (.tuple ds) = cntA ds + 1 := rfl
          rw [hcn] at hn hc
          have hxl := dpa_len hD
          refine ⟨_, p, _, _, [.type "list", .type "tuple"], true, rfl, upd_same, .cons (.ty _) (.cons (.ty _) .nil), Or.inl (ty_t (ex_t (e1.trans hid_ex) hx)), seq_yes_t, true, rfl, ?_⟩
          refine iteT ?_
          refine Or.inr ⟨_, rfl, c, rfl, ⟨xs, ex_t (e1.trans hid_ex) hx⟩, fun L hL => ?_⟩
          have hL0 : H L = none := fresh_back (Ex.new hp) hL
          have la := hS.nea hL0
          have lb := hS.neb hL0
          refine lc_tup (xs := xs) (fun i H1 => ∃ (ys : List V) (es : List PyData), ExS a b H H1 ∧ SAt H1 a b (n + cntA (ds.take i)) ∧ H1 L = some (.lst ys) ∧ DpAll K (hid L L (nw H H1)) ys es ∧ LzA (ds.take i) es ∧ ys.length = i) ?_ ?_ ?_ ?_
          · exact ⟨[], [], ExS.own e1 hL0 la lb, s1.upd la lb, upd_same, .nil, .nil, rfl⟩
          · rintro i H1 _ ⟨ys, es, q⟩
            exact ex_t (q.1.trans hid_ex) hx
          · rintro i x H1 hxi q
            refine ⟨rfl, ?_⟩
            exact ⟨_, rfl, _, rfl, turn c xs ds L hD hdep (by omega) (by omega) hL0 i x H1 hxi q⟩
          · rintro H1 ⟨ys, es, hE, hS1, hL1, hY, hls, hyl⟩
            rw [hxl, List.take_of_length_le (Nat.le_refl _)] at hls hS1
            refine ⟨_, rfl, a, b, n + cntA ds, 2, rfl, hS1, by omega, by decide, by decide, fun H2 x e2 s2 x0 x1 => ⟨rfl, _, rfl, ?_⟩⟩
            obtain ⟨f1, f2, f3⟩ := fin1 ds L ys es H1 H2 hL0 hE hS1 hL1 hY ⟨.tl hls, .tt hls⟩ hcn e2 s2
            refine dec_ite (fun _ => ?_) (fun _ => ?_)
            · exact ⟨_, rfl, f1⟩
            · exact ⟨_, rfl, L, ys, rfl, .inl ⟨f2, f3⟩⟩
      · cases hd
end
end AA

set_option Elab.async false
set_option linter.all false
set_option maxRecDepth 100000
set_option maxHeartbeats 4000000
/-! lots. -/
namespace AA
open PySem PySem.Spec PyProof.Rows L2 Evl
section
variable {P : Program} {w : World} {K : PySem.W.Frag} {mg : Str → Option Value} {base : Heap}
def spLots (K : PySem.W.Frag) (C : Addr) : Sp := fun vs H Q _ => ∃ (x : Addr) (n : Int) (ss : List St5), vs = [.ref x] ∧ WebAt K C H x n ss ∧ n < 60 ∧ (∀ s ∈ ss, StOk n s) ∧ ss.length ≤ 1000 ∧
  ∀ (H' : Hp) (F : Addr) (rows : List (Addr × List Int)) (ps : List Int), Ex H H' → H F = none → H' F = some (.lst (rows.map fun r => V.ref r.1)) → LotsR ss ps (rows.map (·.2)) → (∀ r ∈ rows, H r.1 = none ∧ r.1 ≠ F ∧ H' r.1 = some (.lst (r.2.map V.int))) → rows.length < 64 → Q (.ref F) H'
abbrev nmLs : List Str := ["web", "lot", "_"]
theorem scLs : FnScope nmLs ["web"] (defScope sLots) := ⟨rfl, rfl, rfl, by decide +kernel, rfl, by decide +kernel, by decide +kernel⟩
theorem ok_lots {f gS C : Addr} {fd ddS : FuncData} (F : L2.Fun K "lots" "lots" sLots f fd) (T : WebTxt K mg C) (GS : FnOk P w K mg base CX0 1 gS ddS ["self"] (spSteps K C)) (bS : Binds K ddS ["self"] []) (mS : Meth K C "steps" gS)
    (cL : C8.Cal P w K mg base 3 "lots_of" (spLotsOf K) []) : FnOk P w K mg base CX0 4 f fd ["web"] (spLots K C) := by
  refine F.ok scLs (fun vs H Q E h => ?_) (fun cdv Ar outer s H vs Q E hr h => ?_)
  · obtain ⟨x, n, ss, rfl, _⟩ := h
    rfl
  · obtain ⟨x, n, ss, rfl, hw, hn, hok, hsz, kQ⟩ := h
    have hr1 : Room 1 _ := hr.mono (by decide)
    refine ⟨_, pss_one (ps_ret (pe_lc (own := [("lot", 1), ("_", 2)]) (g := gTup K 2 (gCons (gName 1) (gCons (gName 2) gNil))) (tt := tYes) (by rfl) scLs.nd (pi_list (C8.pe_c cL hr (by decide) (by rfl) (pa_cons (pe_meth0 (pv 0) T.cl mS GS hr1 bS .nil pass0) pa_nil))) (blkOk_by (N := nmLs) (sc := defScope sLots) (by decide +kernel))
        (fun _ _ _ _ _ => pg_tup (n := 2) rfl (pgs_cons (pg_name (i := 1) scLs.nd rfl (Or.inl rfl)) (pgs_cons (pg_name (i := 2) scLs.nd rfl (Or.inl rfl)) pgs_nil))) (fun _ _ _ _ _ => pts_nil) (fun _ _ _ _ _ => pv 1))), ?_⟩
    obtain ⟨dx, l, kd, ys, hx, h2, h3⟩ := id hw
    have no : (wf n l kd).lookup ("steps" : Str) = none := wf_no _ _ _ (by decide +kernel) (by decide +kernel) (by decide +kernel)
    refine ⟨_, rfl, x, dx, _, rfl, hx, no, x, n, ss, rfl, hw, fun p zs hp hzs => ?_⟩
    have y1 := Ex.new (o := .lst zs) hp
    have j1 : upd H p (.lst zs) p = some (.lst zs) := upd_same
    generalize upd H p (.lst zs) = G1 at y1 j1 ⊢
    refine ⟨p, zs, ss, plcs n, rfl, SqL.of j1, dpa_ex y1 _ _ hzs, hsz, fun s hs => ⟨plcs_mem.mpr ⟨(hok s hs).o0, (hok s hs).o1⟩, plcs_mem.mpr ⟨(hok s hs).t0, (hok s hs).t1⟩⟩, by rw [plcs_len]; omega, fun G2 L rows ps e2 hL0 hL LR hrows hrl => ?_⟩
    refine ⟨L, rfl, ⟨_, SqL.of hL⟩, fun D hD0 => ?_⟩
    refine lc_list (xs := rows.map fun r => V.ref r.t) (fun i G => Ex G2 G ∧ G D = some (.lst ((rows.take i).map fun r => V.ref r.a))) ⟨Ex.new hD0, upd_same⟩ (fun i G _ q => SqL.of (q.1 _ _ hL)) ?_ ?_
    · rintro i v G hv ⟨q1, q2⟩
      have il := (List.getElem?_eq_some_iff.mp hv).1
      rw [List.length_map] at il
      obtain ⟨r, hr', rfl⟩ : ∃ r, rows[i]? = some r ∧ v = V.ref r.t := by
        rw [List.getElem?_map] at hv
        cases e : rows[i]? with
        | none => rw [e] at hv; cases hv
        | some t => rw [e] at hv; exact ⟨t, rfl, (Option.some.inj hv).symm⟩
      have ro := hrows r (mem_of_get hr')
      refine ⟨r.t, _, rfl, SqT.of (q1 _ _ ro.ht), rfl, _, _, rfl, _, _, rfl, rfl, ?_⟩
      refine ⟨rfl, _, rfl, _, q2, by rw [List.length_map, List.length_take]; exact sz_m (by omega), q1.mut hD0, ?_⟩
      rw [upd_same, List.take_add_one, hr', List.map_append]
      rfl
    · rintro G ⟨q1, q2⟩
      rw [List.length_map, List.take_length] at q2
      have e02 := y1.trans e2
      have D0 := fresh_back e02 hD0
      refine kQ G D (rows.map fun r => (r.a, r.zs)) ps (e02.trans q1) D0 (by rw [q2, List.map_map]; rfl) (by rw [List.map_map]; exact LR) (fun r hr' => ?_) (by rw [List.length_map]; exact hrl)
      obtain ⟨r0, h1, rfl⟩ := List.mem_map.mp hr'
      have ro := hrows r0 h1
      exact ⟨fresh_back y1 ro.a0, ne_of_none ro.ha hD0, q1 _ _ ro.ha⟩
end
end AA

set_option Elab.async false
set_option linter.all false
set_option maxRecDepth 100000
set_option maxHeartbeats 4000000
/-! read_walk. -/
namespace AA
open PySem PySem.Spec PyProof.Rows L2 Evl
/-- the walk that things make, behind steps gone already -/
def rdWalk (n : Int) (ss : List St5) : List PyData → List St5 → Option (List St5)
  | [], acc => some acc
  | d :: r, acc => match rdStep n d with
    | none => none
    | some s => if s ∈ ss then (match acc.getLast? with
      | none => rdWalk n ss r (acc ++ [s])
      | some t => if t.other = s.one then rdWalk n ss r (acc ++ [s]) else none) else none
/-- what read_walk answers -/
def WkR (K : PySem.W.Frag) (H : Hp) (r : V) : Option (List St5) → Prop
  | none => r = .non
  | some ts => ∃ (p : Addr) (ys : List V), r = .ref p ∧ H p = some (.lst ys) ∧ DpAll K H ys (ts.map stD)
theorem for_seqA {K : PySem.W.Frag} {a : Addr} {xs : List V} {g : TG} {tb : TS} {D : Ends} {σ : L2.St} {H0 H : Hp} (hq : SqL K H0 a xs ∨ SqT K H0 a xs) (Pv : Nat → L2.St → Hp → Prop) (h0 : Pv 0 σ H) (he : ∀ i σ G, Pv i σ G → Ex H0 G)
    (hs : ∀ i x σ H, xs[i]? = some x → Pv i σ H → g x σ H fun σ2 H2 => tb { D with nx := Pv (i + 1), ct := Pv (i + 1), bk := D.nx } σ2 H2) (hd : ∀ σ H, Pv xs.length σ H → D.nx σ H) :
    ((∃ xs, SqL K H a xs) ∧ ∃ W : Nat → Nat → L2.St → Hp → Prop, (∃ m, W 0 m σ H) ∧ ∀ i m σ H, W i m σ H →
      ((Itl K a).stop i H ∧ D.nx σ H) ∨ ((Itl K a).go i H ∧ ∃ N : L2.St → Hp → Prop, (∀ σ' H', N σ' H' → ∃ m', m' < m ∧ W (i + 1) m' σ' H') ∧ ∀ x H', (Itl K a).yld i H x H' → g x σ H' fun σ2 H2 => tb { D with nx := N, ct := N, bk := D.nx } σ2 H2)) ∨
    ((∃ xs, SqT K H a xs) ∧ ∃ W : Nat → Nat → L2.St → Hp → Prop, (∃ m, W 0 m σ H) ∧ ∀ i m σ H, W i m σ H →
      ((Itt K a).stop i H ∧ D.nx σ H) ∨ ((Itt K a).go i H ∧ ∃ N : L2.St → Hp → Prop, (∀ σ' H', N σ' H' → ∃ m', m' < m ∧ W (i + 1) m' σ' H') ∧ ∀ x H', (Itt K a).yld i H x H' → g x σ H' fun σ2 H2 => tb { D with nx := N, ct := N, bk := D.nx } σ2 H2)) :=
  hq.imp (fun q => ⟨⟨xs, ex_l (he _ _ _ h0) q⟩, for_list Pv h0 (fun i σ G hi p => ex_l (he i σ G p) q) hs hd⟩) (fun q => ⟨⟨xs, ex_t (he _ _ _ h0) q⟩, for_tup Pv h0 (fun i σ G hi p => ex_t (he i σ G p) q) hs hd⟩)
theorem atI_last {α : Type} (xs : List α) (x : α) : atI (xs ++ [x]) (-1) = some x := by
  have e : ixN (xs ++ [x]).length (-1) = some xs.length := by
    rw [List.length_append]
    show ixN (xs.length + 1) (-1) = _
    unfold ixN
    rw [if_neg (by omega), if_pos (by omega)]
    congr 1
    omega
  unfold atI
  rw [e]
  show (xs ++ [x])[xs.length]? = some x
  simp
theorem drop_get {α : Type} : ∀ {l : List α} {i : Nat} {x : α}, l[i]? = some x → l.drop i = x :: l.drop (i + 1)
  | [], _, _, h => by simp at h
  | a :: l, 0, x, h => by
    cases (Option.some.inj h)
    rfl
  | a :: l, i + 1, x, h => drop_get (l := l) (i := i) (x := x) h
section
variable {P : Program} {w : World} {K : PySem.W.Frag} {mg : Str → Option Value} {base : Heap}
def spReadWalk (K : PySem.W.Frag) (C : Addr) : Sp := fun vs H Q _ => ∃ (x : Addr) (n : Int) (ss : List St5) (v : V), vs = [.ref x, v] ∧ WebAt K C H x n ss ∧ ss.Nodup ∧ ss.length ≤ 1000000 ∧
  ((Lk K H v false ∧ ∀ H', Ex H H' → Q .non H') ∨
    ∃ d, Dp K H v d ∧ isListD d = true ∧ (itemsD d).length ≤ 1000000 ∧ ∀ H' r, Ex H H' → WkR K H' r (rdWalk n ss (itemsD d) []) → Q r H')
theorem scReadWalk : FnScope ["web", "thing", "step", "known", "walk", "part"] ["web", "thing"] (defScope sReadWalk) := ⟨rfl, rfl, rfl, by decide +kernel, rfl, by decide +kernel, by decide +kernel⟩
theorem ok_readWalk {f C fP fS : Addr} {fd fdP fdS : FuncData} (F : L2.Fun K "read_walk" "read_walk" sReadWalk f fd) (B : Bn mg) (T : WebTxt K mg C) (cR : C8.Cal P w K mg base 3 "read_step" (spReadStep K) []) (cL : C8.Cal P w K mg base 1 "is_list" (spIsList K) [])
    (GP : FnOk P w K mg base CX0 1 fP fdP ["self"] (spPlaces K C)) (bP : Binds K fdP ["self"] []) (mP : Meth K C "places" fP) (GS : FnOk P w K mg base CX0 1 fS fdS ["self"] (spSteps K C)) (bS : Binds K fdS ["self"] []) (mS : Meth K C "steps" fS) :
    FnOk P w K mg base CX0 4 f fd ["web", "thing"] (spReadWalk K C) := by
  refine F.ok scReadWalk (fun vs H Q E h => ?_) (fun cdv A outer s H vs Q E hr h => ?_)
  · obtain ⟨x, n, ss, v, rfl, _⟩ := h
    rfl
  · obtain ⟨x, n, ss, v, rfl, hW, hnd, hsz, k⟩ := h
    have hun := hr.un
    have hu9 : (A.deeper (envOfC "read_walk" (defScope sReadWalk) s.heap.objs.size f cdv)).units + 9 < cLine := by omega
    have hu8 : (A.deeper (envOfC "read_walk" (defScope sReadWalk) s.heap.objs.size f cdv)).units + 8 < cLine := by omega
    have hr1 : Room 1 _ := hr.mono (by decide)
    refine ⟨_, pss_cons (ps_if (pt_not (pt_val (C8.pe_c cL hr (by decide) (by rfl) (pa_cons (pv 1) pa_nil)))) (pss_one (ps_ret pe_non)) pss_nil)
      (pss_cons (ps_setSc (i := 3) (own := [("step", 2)]) hu8 rfl scReadWalk.nd rfl rfl (sw_trueD rfl rfl rfl (by decide +kernel)) (pi_list (pe_meth0 (pv 0) T.cl mS GS hr1 bS .nil pass0)) (blkOk_by (N := ["web", "thing", "step", "known", "walk", "part"]) (sc := defScope sReadWalk) (by decide +kernel))
          (fun _ _ _ _ _ => pg_name (i := 2) scReadWalk.nd rfl (Or.inl rfl)) (fun _ _ _ _ _ => pv 2))
      (pss_cons (ps_set (i := 4) scReadWalk.nd rfl (Or.inl rfl) (pe_lst pa_nil))
      (pss_cons (ps_for PassesOwn.never rfl (pi_or (pi_list (pv 1)) (pi_tup (pv 1))) (pg_name (i := 5) scReadWalk.nd rfl (Or.inl rfl))
        (pss_cons (ps_set (i := 2) scReadWalk.nd rfl (Or.inl rfl) (C8.pe_c cR hr (by decide) (by rfl) (pa_cons (pe_meth0 (pv 0) T.cl mP GP hr1 bP .nil pass0) (pa_cons (pv 5) pa_nil))))
        (pss_cons (ps_if (pt_cmp (pc_snot hu9 (pv 2) (pv 3))) (pss_one (ps_ret pe_non)) pss_nil)
        (pss_cons (ps_if (PW.pt (pw_and (pt_truth (pv 4) (fun _ => rfl)) (pw_and1 (pt_cmpR op_ne (pe_ix ix_tup (pe_ix ix_list (pv 4) (pe_un un_neg pe_int) (fun _ _ => rfl)) pe_int (fun _ _ => rfl)) (pe_ix ix_tup (pv 2) pe_int (fun _ _ => rfl)) (nomark _))))) (pss_one (ps_ret pe_non)) pss_nil)
        (pss_one (ps_expr (pe_bm PySem.F.plainAttrs_list PySem.F.slot_list_append PySem.F.type_list_append mt_append (pv 4) (pa_cons (pv 2) pa_nil))))))))
      (pss_one (ps_ret (pv 4)))))), ?_⟩
    rcases k with ⟨hlk, k⟩ | ⟨d, hd, hl, hdz, k⟩
    · exact ⟨_, rfl, v, false, rfl, hlk, fun H1 e1 => ⟨_, rfl, iteT (k H1 e1)⟩⟩
    obtain ⟨a, xs, ds, rfl, hX, hs⟩ := dp_seq hd hl
    have hlen := dpa_len hX
    have hit : itemsD d = ds := by
      rcases hs with ⟨rfl, _⟩ | ⟨rfl, _⟩ <;> rfl
    rw [hit] at k hdz
    refine ⟨_, rfl, .ref a, true, rfl, by have := lk_dp hd; rw [hl] at this; exact this, fun H1 e1 => ⟨_, rfl, ?_⟩⟩
    refine iteF ?_
    obtain ⟨dx, l0, kd0, ys0, hx1, hl01, hys0⟩ := hW.ex e1
    refine ⟨_, rfl, x, dx, _, rfl, hx1, wf_no _ _ _ (by decide +kernel) (by decide +kernel) (by decide +kernel), x, n, ss, rfl, hW.ex e1, fun p ys hp hys => ⟨p, rfl, ⟨ys, SqL.of upd_same⟩, fun D hD => ?_⟩⟩
    have e2 : Ex H1 (upd H1 p (.lst ys)) := Ex.new hp
    have hys2 := dpa_ex e2 _ _ hys
    refine sc_list (xs := ys) (fun i G => Ex (upd H1 p (.lst ys)) G ∧ ∃ ks : List (St5 × Addr), G D = some (SD P w D ks) ∧ KsOk K G ks ∧ ks.map (·.1) = ss.take i) ⟨Ex.new hD, [], upd_same, KsOk.nil, by rw [List.take_zero]; rfl⟩ (fun i G _ q => ex_l q.1 (SqL.of upd_same)) ?_ ?_
    · rintro i y G hy ⟨q1, ks, q2, q3, q4⟩
      obtain ⟨t, b, ht, rfl, hb⟩ := sts_get hys2 hy
      have hb2 := dp_ex q1 _ _ hb
      have hkl : ks.length ≤ 1000000 := by
        have := congrArg List.length q4
        rw [List.length_map, List.length_take] at this
        omega
      refine ⟨rfl, _, rfl, ks, b, t, rfl, q2, q3, hb2, by rw [q4]; exact nodup_take hnd ht, sz_m hkl, Ex.mut q1 hD, ks ++ [(t, b)], upd_same, (ks_upd q2 q3).snoc (st_upd q2 hb2), ?_⟩
      rw [List.map_append, q4, List.take_succ, ht]
      rfl
    · rintro G ⟨q1, ks, q2, q3, q4⟩
      rw [sts_len hys, List.take_length] at q4
      refine ⟨Nat.zero_le _, fun l hl2 => ?_⟩
      have e3 : Ex H G := e1.trans (e2.trans q1)
      have hDl : D ≠ l := ne_of_none q2 hl2
      have hWG : WebAt K C G x n ss := hW.ex e3
      have kon : rdWalk n ss ds [] = none → ∀ G', Ex H G' → Q .non G' := fun z G' ez => k G' .non ez (by rw [z]; rfl)
      refine Or.imp (fun z => ⟨_, rfl, a, rfl, z.1, z.2⟩) (fun z => ⟨_, rfl, a, rfl, z.1, z.2⟩) (for_seqA (K := K) (a := a) (xs := xs) (H0 := H) (hs.imp And.right And.right)
        (fun i σ G' => ∃ (x2 x5 : Option V) (ts : List St5) (us : List V), σ = [some (.ref x), some (.ref a), x2, some (.ref D), some (.ref l), x5] ∧ Ex G G' ∧ G' l = some (.lst us) ∧ DpAll K G' us (ts.map stD) ∧ rdWalk n ss ds [] = rdWalk n ss (ds.drop i) ts ∧ ts.length = i) ?_ ?_ ?_ ?_)
      · exact ⟨none, none, [], [], rfl, Ex.new hl2, upd_same, .nil, by rw [List.drop_zero], rfl⟩
      · rintro i σ G' ⟨x2, x5, ts, us, rfl, r1, _⟩
        exact e3.trans r1
      · rintro i y σ G' hy ⟨x2, x5, ts, us, rfl, r1, r2, r3, r4, r5⟩
        obtain ⟨di, hdi, hyd⟩ := dpa_get hX hy
        have hil := (List.getElem?_eq_some_iff.mp hdi).1
        rw [drop_get hdi] at r4
        have hWG' := hWG.ex r1
        obtain ⟨dx', l', kd', ys', hx', hl', _⟩ := id hWG'
        refine ⟨_, rfl, x, dx', _, rfl, hx', wf_no _ _ _ (by decide +kernel) (by decide +kernel) (by decide +kernel), x, n, ss, rfl, hWG', _, rfl, n, y, rfl, .inr ⟨di, dp_ex (e3.trans r1) _ _ hyd, fun G3 r e4 hr3 => ?_⟩⟩
        have hG3 := r1.trans e4
        have hD3 : G3 D = some (SD P w D ks) := hG3 _ _ q2
        have hk3 : KsOk K G3 ks := q3.ex hG3
        have hL3 : G3 l = some (.lst us) := e4 _ _ r2
        have hU3 : DpAll K G3 us (ts.map stD) := dpa_ex e4 _ _ r3
        refine ⟨_, rfl, _, rfl, ?_⟩
        cases hrs : rdStep n di with
        | none =>
          rw [hrs] at hr3
          cases (show r = V.non from hr3)
          refine .inr ⟨⟨D, ks, rfl, rfl, hD3, hk3⟩, _, rfl, iteT (kon ?_ _ (e3.trans hG3))⟩
          rw [r4]
          unfold rdWalk
          rw [hrs]
        | some t =>
          rw [hrs] at hr3
          obtain ⟨b, c, rfl, hb1, hb2⟩ := stD_inv hr3
          refine .inl ⟨_, ⟨D, ks, b, t, rfl, rfl, hD3, hk3, hr3, rfl⟩, _, rfl, ?_⟩
          rw [q4]
          by_cases hmem : t ∈ ss
          · rw [decide_eq_true hmem]
            refine iteF ?_
            have hgo : (match ts.getLast? with | none => rdWalk n ss (ds.drop (i + 1)) (ts ++ [t]) | some u => if u.other = t.one then rdWalk n ss (ds.drop (i + 1)) (ts ++ [t]) else none) = rdWalk n ss ds [] := by
              rw [r4]
              conv => rhs; unfold rdWalk
              rw [hrs]
              show _ = if t ∈ ss then _ else none
              rw [if_pos hmem]
            have hul : us.length ≤ 1000000 := by
              have := sts_len hU3
              omega
            have fin : rdWalk n ss ds [] = rdWalk n ss (ds.drop (i + 1)) (ts ++ [t]) → ∃ (x2 x5 : Option V) (ts' : List St5) (us' : List V), [some (V.ref x), some (V.ref a), some (V.ref b), some (V.ref D), some (V.ref l), some y] = [some (V.ref x), some (V.ref a), x2, some (V.ref D), some (V.ref l), x5] ∧ Ex G (upd G3 l (.lst (us ++ [.ref b]))) ∧
                upd G3 l (.lst (us ++ [.ref b])) l = some (.lst us') ∧ DpAll K (upd G3 l (.lst (us ++ [.ref b]))) us' (ts'.map stD) ∧ rdWalk n ss ds [] = rdWalk n ss (ds.drop (i + 1)) ts' ∧ ts'.length = i + 1 := fun z => by
              refine ⟨_, _, ts ++ [t], us ++ [.ref b], rfl, Ex.mut hG3 hl2, upd_same, sts_upd (nt_lst hL3) ?_, z, by rw [List.length_append, r5]; rfl⟩
              rw [List.map_append]
              exact dpa_app hU3 (.cons hr3 .nil)
            refine ⟨_, rfl, !us.isEmpty, .inl ⟨us, SqL.of hL3, rfl⟩, ?_⟩
            rcases List.eq_nil_or_concat ts with h0 | ⟨tr, tl, h0⟩
            · subst h0
              have hu0 : us = [] := List.eq_nil_of_length_eq_zero (sts_len hU3)
              subst hu0
              refine iteF ?_
              refine iteF ?_
              exact ⟨_, rfl, .inl ⟨rfl, _, SqL.of hL3⟩, _, rfl, l, _, _, rfl, rfl, hL3, sz_m hul, fin hgo.symm⟩
            · rw [List.concat_eq_append] at h0
              subst h0
              have hlast : (tr ++ [tl]).getLast? = some tl := by simp
              rw [hlast] at hgo
              rcases List.eq_nil_or_concat us with h1 | ⟨ur, ul, h1⟩
              · subst h1
                have := sts_len hU3
                simp at this
              · rw [List.concat_eq_append] at h1
                subst h1
                have hne : (ur ++ [ul]).isEmpty = false := by simp
                rw [hne]
                refine iteT ?_
                have hlen2 : ur.length = tr.length := by
                  have := sts_len hU3
                  simp at this
                  exact this
                obtain ⟨t2, b2, g1, g2, g3⟩ := sts_get (i := ur.length) (y := ul) hU3 (by simp)
                rw [hlen2] at g1
                have et : t2 = tl := by
                  have : (tr ++ [tl])[tr.length]? = some tl := by simp
                  rw [this] at g1
                  exact (Option.some.inj g1).symm
                subst et
                subst g2
                obtain ⟨b3, c3, hb3, g4, g5⟩ := stD_inv g3
                cases hb3
                have hat : atI (ur ++ [V.ref b2]) (-1) = some (V.ref b2) := atI_last ur _
                refine ⟨_, rfl, _, rfl, l, _, _, _, rfl, rfl, SqL.of hL3, hat, b2, _, 1, .int t2.other, rfl, rfl, g4, rfl, _, rfl, b, _, 0, .int t.one, rfl, rfl, hb1, rfl, rfl, _, rfl, ?_⟩
                have hgo : (if t2.other = t.one then rdWalk n ss (ds.drop (i + 1)) (tr ++ [t2] ++ [t]) else none) = rdWalk n ss ds [] := hgo
                by_cases heq : t2.other = t.one
                · rw [if_pos heq] at hgo
                  rw [decide_eq_true (by rw [heq])]
                  refine iteF ?_
                  exact ⟨_, rfl, .inl ⟨rfl, _, SqL.of hL3⟩, _, rfl, l, _, _, rfl, rfl, hL3, sz_m hul, fin hgo.symm⟩
                · rw [if_neg heq] at hgo
                  rw [decide_eq_false (fun z => heq (V.int.inj z))]
                  exact iteT (kon hgo.symm _ (e3.trans hG3))
          · rw [decide_eq_false hmem]
            refine iteT (kon ?_ _ (e3.trans hG3))
            rw [r4]
            unfold rdWalk
            rw [hrs]
            show (if t ∈ ss then _ else none) = none
            rw [if_neg hmem]
      · rintro σ G' ⟨x2, x5, ts, us, rfl, r1, r2, r3, r4, r5⟩
        rw [hlen, List.drop_length] at r4
        refine ⟨_, rfl, k G' _ (e3.trans r1) ?_⟩
        rw [r4]
        exact ⟨l, us, rfl, r2, r3⟩
end
end AA

set_option Elab.async false
set_option linter.all false
set_option maxRecDepth 100000
set_option maxHeartbeats 4000000
/-! is_walk, checked_walk. -/
namespace AA
open PySem PySem.Spec PyProof.Rows L2 Evl
section
variable {P : Program} {w : World} {K : PySem.W.Frag} {mg : Str → Option Value} {base : Heap}
def spIsWalk (K : PySem.W.Frag) (C : Addr) : Sp := fun vs H Q _ => ∃ (x : Addr) (n : Int) (ss : List St5) (v : V), vs = [.ref x, v] ∧ WebAt K C H x n ss ∧ ss.Nodup ∧ ss.length ≤ 1000000 ∧
  ((Lk K H v false ∧ ∀ H', Ex H H' → Q (.bl false) H') ∨ ∃ d, Dp K H v d ∧ isListD d = true ∧ (itemsD d).length ≤ 1000000 ∧ ∀ H', Ex H H' → Q (.bl (rdWalk n ss (itemsD d) []).isSome) H')
theorem scIsWalk : FnScope ["web", "thing"] ["web", "thing"] (defScope sIsWalk) := ⟨rfl, rfl, rfl, by decide +kernel, rfl, by decide +kernel, by decide +kernel⟩
theorem ok_isWalk {f C : Addr} {fd : FuncData} (F : L2.Fun K "is_walk" "is_walk" sIsWalk f fd) (cR : C8.Cal P w K mg base 4 "read_walk" (spReadWalk K C) []) : FnOk P w K mg base CX0 5 f fd ["web", "thing"] (spIsWalk K C) := by
  refine F.ok scIsWalk (fun vs H Q E h => ?_) (fun cdv A outer s H vs Q E hr h => ?_)
  · obtain ⟨x, n, ss, v, rfl, _⟩ := h
    rfl
  · obtain ⟨x, n, ss, v, rfl, hw, nd, hz, h⟩ := h
    refine ⟨_, pss_one (ps_ret (pe_cmp (pc_notN (C8.pe_c cR hr (by decide) (by rfl) (pa_cons (pv 0) (pa_cons (pv 1) pa_nil)))))), ?_⟩
    refine ⟨_, rfl, _, rfl, x, n, ss, v, rfl, hw, nd, hz, ?_⟩
    rcases h with ⟨hl, k⟩ | ⟨d, hd, h1, h2, k⟩
    · exact .inl ⟨hl, fun H' e => k H' e⟩
    · refine .inr ⟨d, hd, h1, h2, fun H' r e hr' => ?_⟩
      have k1 := k H' e
      cases q : rdWalk n ss (itemsD d) [] with
      | none =>
        rw [q] at k1 hr'
        have : r = .non := hr'
        rw [this]
        exact k1
      | some ws =>
        rw [q] at k1 hr'
        obtain ⟨p, ys, rfl, _⟩ := hr'
        exact k1
/-- a thing that is no walk -/
def NoWlk (K : PySem.W.Frag) (n : Int) (ss : List St5) (H : Hp) (v : V) : Prop := Lk K H v false ∨ ∃ d, Dp K H v d ∧ isListD d = true ∧ (itemsD d).length ≤ 1000000 ∧ rdWalk n ss (itemsD d) [] = none
def spChk (K : PySem.W.Frag) (C CB : Addr) : Sp := fun vs H Q E => ∃ (x : Addr) (n : Int) (ss : List St5) (v : V), vs = [.ref x, v] ∧ WebAt K C H x n ss ∧ ss.Nodup ∧ ss.length ≤ 1000000 ∧
  ((NoWlk K n ss H v ∧ BadE CB "walk" H v E) ∨ ∃ d ws, Dp K H v d ∧ isListD d = true ∧ (itemsD d).length ≤ 1000000 ∧ rdWalk n ss (itemsD d) [] = some ws ∧ ∀ (H' : Hp) (p : Addr) (ys : List V), Ex H H' → H' p = some (.lst ys) → DpAll K H' ys (ws.map stD) → Q (.ref p) H')
theorem scChk : FnScope ["web", "thing", "walk"] ["web", "thing"] (defScope sCheckedWalk) := ⟨rfl, rfl, rfl, by decide +kernel, rfl, by decide +kernel, by decide +kernel⟩
theorem ok_chk {f C CB fB : Addr} {fd fdB : FuncData} (F : L2.Fun K "checked_walk" "checked_walk" sCheckedWalk f fd) (TB : ExT K mg "BadWalk" "walk" CB fB) (GB : FnOk P w K mg base CX0 1 fB fdB ["self", "walk"] (spExI CB "walk")) (bB : Binds K fdB ["self", "walk"] []) (cR : C8.Cal P w K mg base 4 "read_walk" (spReadWalk K C) []) : FnOk P w K mg base (L2.CX P w) 5 f fd ["web", "thing"] (spChk K C CB) := by
  refine F.okX scChk (fun vs H Q E h => ?_) (fun cdv A outer s H vs Q E hr h => ?_)
  · obtain ⟨x, n, ss, v, rfl, _⟩ := h
    rfl
  · obtain ⟨x, n, ss, v, rfl, hw, nd, hz, h⟩ := h
    refine ⟨_, pss_cons (ps_set (i := 2) scChk.nd rfl (Or.inl rfl) (C8.pe_c cR hr (by decide) (by rfl) (pa_cons (pv 0) (pa_cons (pv 1) pa_nil))))
      (pss_cons (ps_if (pt_cmp (pc_isN (pv 2))) (pss_one (ps_raise rfl (takes_of rfl rfl rfl rfl) (pmk_oex TB.ox TB.iC TB.tC GB (hr.mono (by decide)) bB .nil pass0 (by rfl) TB.gC (pa_cons (pv 1) pa_nil)))) pss_nil)
      (pss_one (ps_ret (pv 2)))), ?_⟩
    refine ⟨_, rfl, _, rfl, x, n, ss, v, rfl, hw, nd, hz, ?_⟩
    rcases h with ⟨hb, kb⟩ | ⟨d, ws, hd, h1, h2, h3, k⟩
    · rcases hb with hl | ⟨d, hd, h1, h2, h3⟩
      · refine .inl ⟨hl, fun H' e => ⟨_, rfl, _, rfl, iteT ?_⟩⟩
        exact ⟨_, rfl, by show 1 ≤ 1000; decide, raise_go (kb.ex e)⟩
      · refine .inr ⟨d, hd, h1, h2, fun H' r e hr' => ?_⟩
        rw [h3] at hr'
        obtain rfl : r = .non := hr'
        exact ⟨_, rfl, _, rfl, iteT ⟨_, rfl, by show 1 ≤ 1000; decide, raise_go (kb.ex e)⟩⟩
    · refine .inr ⟨d, hd, h1, h2, fun H' r e hr' => ?_⟩
      rw [h3] at hr'
      obtain ⟨p, ys, rfl, h4, h5⟩ := hr'
      exact ⟨_, rfl, _, rfl, iteF ⟨_, rfl, k H' p ys e h4 h5⟩⟩
end
end AA

set_option Elab.async false
set_option linter.all false
set_option maxRecDepth 100000
set_option maxHeartbeats 4000000
/-! row_along. -/
namespace AA
open PySem PySem.Spec PyProof.Rows L2 Evl
theorem get_len {α : Type} {l : List α} {i : Nat} {x : α} (h : l[i]? = some x) : i < l.length := (List.getElem?_eq_some_iff.mp h).1
section
variable {P : Program} {w : World} {K : PySem.W.Frag} {mg : Str → Option Value} {base : Heap}
def sumI (f : St5 → Int) (ws : List St5) : Int := (ws.map f).sum
def spRowA (K : PySem.W.Frag) : Sp := fun vs H Q _ => ∃ (p : Addr) (ys : List V) (ws : List St5), vs = [.ref p] ∧ SqL K H p ys ∧ DpAll K H ys (ws.map stD) ∧ ws.length ≤ 1000000 ∧
  ∀ (H' : Hp) (q : Addr), Ex H H' → H q = none → H' q = some (.tup [.int (sumI (·.p) ws), .int (sumI (·.q) ws), .int (sumI (·.ticks) ws)]) → Q (.ref q) H'
abbrev nmRA : List Str := ["walk", "first", "second", "step"]
theorem scRA : FnScope nmRA ["walk"] (defScope sRowAlong) := ⟨rfl, rfl, rfl, by decide +kernel, rfl, by decide +kernel, by decide +kernel⟩
theorem ok_rowA {f : Addr} {fd : FuncData} (F : L2.Fun K "row_along" "row_along" sRowAlong f fd) (B : Bn mg) : FnOk P w K mg base CX0 1 f fd ["walk"] (spRowA K) := by
  refine F.ok scRA (fun vs H Q E h => ?_) (fun cdv Ar outer s H vs Q E hr h => ?_)
  · obtain ⟨p, ys, ws, rfl, _⟩ := h
    rfl
  · obtain ⟨p, ys, ws, rfl, hp, hD, hz, kQ⟩ := h
    refine ⟨_, Evl.pss_cut (ps_set (i := 1) scRA.nd rfl (Or.inl rfl) (pe_callB (r := rSum K) (cr_sum (by rfl)) (by rfl) B.sum boot_sum (pa_cons (pe_lc (own := [("step", 3)]) (g := gName 3) (tt := tYes) (by rfl) scRA.nd (pi_list (pv 0)) (blkOk_by (N := nmRA) (sc := defScope sRowAlong) (by decide +kernel)) (fun _ _ _ _ _ => pg_name (i := 3) scRA.nd rfl (Or.inl rfl)) (fun _ _ _ _ _ => pts_nil)
          (fun _ _ _ _ _ => pe_ix (r := rIxT K) ix_tup (pe_ix (r := rIxT K) ix_tup (pv 3) pe_int (fun _ _ => rfl)) pe_int (fun _ _ => rfl))) pa_nil)))
      (Evl.pss_cut (ps_set (i := 2) scRA.nd rfl (Or.inl rfl) (pe_callB (r := rSum K) (cr_sum (by rfl)) (by rfl) B.sum boot_sum (pa_cons (pe_lc (own := [("step", 3)]) (g := gName 3) (tt := tYes) (by rfl) scRA.nd (pi_list (pv 0)) (blkOk_by (N := nmRA) (sc := defScope sRowAlong) (by decide +kernel)) (fun _ _ _ _ _ => pg_name (i := 3) scRA.nd rfl (Or.inl rfl)) (fun _ _ _ _ _ => pts_nil)
          (fun _ _ _ _ _ => pe_ix (r := rIxT K) ix_tup (pe_ix (r := rIxT K) ix_tup (pv 3) pe_int (fun _ _ => rfl)) pe_int (fun _ _ => rfl))) pa_nil)))
      (pss_one (ps_ret (pe_tup (pa_cons (pv 1) (pa_cons (pv 2) (pa_cons (pe_callB (r := rSum K) (cr_sum (by rfl)) (by rfl) B.sum boot_sum (pa_cons (pe_lc (own := [("step", 3)]) (g := gName 3) (tt := tYes) (by rfl) scRA.nd (pi_list (pv 0)) (blkOk_by (N := nmRA) (sc := defScope sRowAlong) (by decide +kernel)) (fun _ _ _ _ _ => pg_name (i := 3) scRA.nd rfl (Or.inl rfl)) (fun _ _ _ _ _ => pts_nil)
          (fun _ _ _ _ _ => pe_ix (r := rIxT K) ix_tup (pv 3) pe_int (fun _ _ => rfl))) pa_nil)) pa_nil))))))), ?_⟩
    have hyl := sts_len hD
    have tkm : ∀ (f : St5 → Int) (i : Nat) (s : St5), ws[i]? = some s → ((ws.take i).map f).map V.int ++ [V.int (f s)] = ((ws.take (i + 1)).map f).map V.int := fun f i s hs => by
      rw [List.take_add_one, hs, List.map_append, List.map_append]
      rfl
    have szm : ∀ (f : St5 → Int) (i : Nat), i < ys.length → (((ws.take i).map f).map V.int).length < sizeLine := fun f i hi => by
      rw [List.length_map, List.length_map, List.length_take]
      exact sz_m (by omega)
    refine ⟨fun σ G => σ = [some (.ref p), some (.int (sumI (·.p) ws)), none, none] ∧ Ex H G, ?_, ?_⟩
    · refine ⟨_, rfl, p, rfl, ⟨_, hp⟩, fun D hD0 => ?_⟩
      refine lc_list (xs := ys) (fun i G => Ex H G ∧ G D = some (.lst (((ws.take i).map (·.p)).map V.int))) ⟨Ex.new hD0, upd_same⟩ (fun i G _ q => ex_l q.1 hp) ?_ ?_
      · rintro i x G hx ⟨q1, q2⟩
        obtain ⟨s, t, hs, rfl, ht⟩ := sts_get hD hx
        obtain ⟨_, u, e, p1, p2⟩ := stD_inv (dp_ex q1 _ _ ht)
        cases e
        refine ⟨rfl, _, rfl, t, _, 2, .ref u, rfl, rfl, p1, rfl, u, _, 0, .int s.p, rfl, rfl, p2, rfl, _, q2, szm _ i (get_len hx), q1.mut hD0, ?_⟩
        rw [upd_same, tkm (·.p) i s hs]
      · rintro G ⟨q1, q2⟩
        rw [hyl, List.take_length] at q2
        exact ⟨D, _, rfl, SqL.of q2, rfl, q1⟩
    rintro σ G1 ⟨rfl, e1⟩
    refine ⟨fun σ G => σ = [some (.ref p), some (.int (sumI (·.p) ws)), some (.int (sumI (·.q) ws)), none] ∧ Ex H G, ?_, ?_⟩
    · refine ⟨_, rfl, p, rfl, ⟨_, ex_l e1 hp⟩, fun D hD0 => ?_⟩
      refine lc_list (xs := ys) (fun i G => Ex G1 G ∧ G D = some (.lst (((ws.take i).map (·.q)).map V.int))) ⟨Ex.new hD0, upd_same⟩ (fun i G _ q => ex_l (e1.trans q.1) hp) ?_ ?_
      · rintro i x G hx ⟨q1, q2⟩
        obtain ⟨s, t, hs, rfl, ht⟩ := sts_get hD hx
        obtain ⟨_, u, e, p1, p2⟩ := stD_inv (dp_ex (e1.trans q1) _ _ ht)
        cases e
        refine ⟨rfl, _, rfl, t, _, 2, .ref u, rfl, rfl, p1, rfl, u, _, 1, .int s.q, rfl, rfl, p2, rfl, _, q2, szm _ i (get_len hx), q1.mut hD0, ?_⟩
        rw [upd_same, tkm (·.q) i s hs]
      · rintro G ⟨q1, q2⟩
        rw [hyl, List.take_length] at q2
        exact ⟨D, _, rfl, SqL.of q2, rfl, e1.trans q1⟩
    rintro σ G2 ⟨rfl, e2⟩
    refine ⟨_, rfl, _, rfl, _, rfl, p, rfl, ⟨_, ex_l e2 hp⟩, fun D hD0 => ?_⟩
    refine lc_list (xs := ys) (fun i G => Ex G2 G ∧ G D = some (.lst (((ws.take i).map (·.ticks)).map V.int))) ⟨Ex.new hD0, upd_same⟩ (fun i G _ q => ex_l (e2.trans q.1) hp) ?_ ?_
    · rintro i x G hx ⟨q1, q2⟩
      obtain ⟨s, t, hs, rfl, ht⟩ := sts_get hD hx
      obtain ⟨_, u, e, p1, p2⟩ := stD_inv (dp_ex (e2.trans q1) _ _ ht)
      cases e
      refine ⟨rfl, _, rfl, t, _, 3, .int s.ticks, rfl, rfl, p1, rfl, _, q2, szm _ i (get_len hx), q1.mut hD0, ?_⟩
      rw [upd_same, tkm (·.ticks) i s hs]
    · rintro G ⟨q1, q2⟩
      rw [hyl, List.take_length] at q2
      refine ⟨D, _, rfl, SqL.of q2, by show 3 ≤ sizeLine; decide, fun q hq => ?_⟩
      exact kQ _ q ((e2.trans q1).trans (Ex.new hq)) (fresh_back (e2.trans q1) hq) upd_same
end
end AA

set_option Elab.async false
set_option linter.all false
set_option maxRecDepth 100000
set_option maxHeartbeats 4000000
/-! sum_of. -/
namespace AA
open PySem PySem.Spec PyProof.Rows L2 Evl
section
variable {P : Program} {w : World} {K : PySem.W.Frag} {mg : Str → Option Value} {base : Heap}
def spSumOf (K : PySem.W.Frag) (C CB : Addr) : Sp := fun vs H Q E => ∃ (x : Addr) (n : Int) (ss : List St5) (v : V), vs = [.ref x, v] ∧ WebAt K C H x n ss ∧ ss.Nodup ∧ ss.length ≤ 1000000 ∧
  ((NoWlk K n ss H v ∧ BadE CB "walk" H v E) ∨ ∃ d ws, Dp K H v d ∧ isListD d = true ∧ (itemsD d).length ≤ 1000000 ∧ rdWalk n ss (itemsD d) [] = some ws ∧ ws.length ≤ 1000000 ∧
    ∀ (H' : Hp) (q t : Addr), Ex H H' → H q = none → H' t = some (.tup [.int (sumI (·.p) ws), .int (sumI (·.q) ws)]) → H' q = some (.tup [.ref t, .int (sumI (·.ticks) ws), .int (sumI (·.change) ws)]) → Q (.ref q) H')
abbrev nmSO : List Str := ["web", "walk", "steps", "first", "second", "ticks", "step"]
theorem scSO : FnScope nmSO ["web", "walk"] (defScope sSumOf) := ⟨rfl, rfl, rfl, by decide +kernel, rfl, by decide +kernel, by decide +kernel⟩
theorem ok_sumOf {f C CB fC : Addr} {fd ddC : FuncData} (F : L2.Fun K "sum_of" "sum_of" sSumOf f fd) (B : Bn mg) (GC : FnOk P w K mg base (L2.CX P w) 5 fC ddC ["web", "thing"] (spChk K C CB)) (mC : mg "checked_walk" = some (.ref fC)) (kC : PySem.W.keepIn K (.ref fC) = true) (bC : Binds K ddC ["web", "thing"] [])
    (cR : C8.Cal P w K mg base 1 "row_along" (spRowA K) []) : FnOk P w K mg base (L2.CX P w) 6 f fd ["web", "walk"] (spSumOf K C CB) := by
  refine F.okX scSO (fun vs H Q E h => ?_) (fun cdv Ar outer s H vs Q E hr h => ?_)
  · obtain ⟨x, n, ss, v, rfl, _⟩ := h
    rfl
  · obtain ⟨x, n, ss, v, rfl, hw, nd, hz, h⟩ := h
    refine ⟨_, pss_cons (ps_set (i := 2) scSO.nd rfl (Or.inl rfl) (pe_callS (E := WE fun cls d _ H => E cls d H) GC hr (by rfl) mC kC bC (fun σ => passAt (takes_of rfl rfl rfl rfl) σ) (pa_cons (pv 0) (pa_cons (pv 1) pa_nil))))
      (pss_cons (ps_asg (C8.pe_c cR hr (by decide) (by rfl) (pa_cons (pv 2) pa_nil)) (pg_tup (n := 3) rfl (pgs_cons (pg_name (i := 3) scSO.nd rfl (Or.inl rfl)) (pgs_cons (pg_name (i := 4) scSO.nd rfl (Or.inl rfl)) (pgs_cons (pg_name (i := 5) scSO.nd rfl (Or.inl rfl)) pgs_nil)))))
      (pss_one (ps_ret (pe_tup (pa_cons (pe_tup (pa_cons (pv 3) (pa_cons (pv 4) pa_nil))) (pa_cons (pv 5) (pa_cons (pe_callB (r := rSum K) (cr_sum (by rfl)) (by rfl) B.sum boot_sum (pa_cons (pe_lc (own := [("step", 6)]) (g := gName 6) (tt := tYes) (by rfl) scSO.nd (pi_list (pv 2)) (blkOk_by (N := nmSO) (sc := defScope sSumOf) (by decide +kernel)) (fun _ _ _ _ _ => pg_name (i := 6) scSO.nd rfl (Or.inl rfl)) (fun _ _ _ _ _ => pts_nil)
          (fun _ _ _ _ _ => pe_ix (r := rIxT K) ix_tup (pv 6) pe_int (fun _ _ => rfl))) pa_nil)) pa_nil))))))), ?_⟩
    rcases h with ⟨hb, kb⟩ | ⟨d, ws, hd, h1, h2, h3, hwz, kQ⟩
    · exact ⟨_, rfl, _, rfl, x, n, ss, v, rfl, hw, nd, hz, .inl ⟨hb, kb⟩⟩
    refine ⟨_, rfl, _, rfl, x, n, ss, v, rfl, hw, nd, hz, .inr ⟨d, ws, hd, h1, h2, h3, fun G1 p ys e1 hp hD => ?_⟩⟩
    refine ⟨_, rfl, p, ys, ws, rfl, SqL.of hp, hD, hwz, fun G2 q e2 q0 hq => ?_⟩
    refine ⟨q, _, rfl, SqT.of hq, rfl, _, _, rfl, _, _, rfl, _, _, rfl, rfl, ?_⟩
    refine ⟨_, rfl, _, rfl, by show 2 ≤ sizeLine; decide, fun t ht => ?_⟩
    have y3 := Ex.new (o := .tup [V.int (sumI (·.p) ws), V.int (sumI (·.q) ws)]) ht
    have j3 : upd G2 t (.tup [V.int (sumI (·.p) ws), V.int (sumI (·.q) ws)]) t = some (.tup [V.int (sumI (·.p) ws), V.int (sumI (·.q) ws)]) := upd_same
    generalize upd G2 t (.tup [V.int (sumI (·.p) ws), V.int (sumI (·.q) ws)]) = G3 at y3 j3 ⊢
    have e13 := e2.trans y3
    have hyl := sts_len hD
    refine ⟨_, rfl, _, rfl, p, rfl, ⟨_, SqL.of (e13 _ _ hp)⟩, fun D hD0 => ?_⟩
    refine lc_list (xs := ys) (fun i G => Ex G3 G ∧ G D = some (.lst (((ws.take i).map (·.change)).map V.int))) ⟨Ex.new hD0, upd_same⟩ (fun i G _ q => SqL.of ((e13.trans q.1) _ _ hp)) ?_ ?_
    · rintro i x G hx ⟨q1, q2⟩
      have il := get_len hx
      obtain ⟨s, t, hs, rfl, ht⟩ := sts_get hD hx
      obtain ⟨_, u, e, p1, p2⟩ := stD_inv (dp_ex (e13.trans q1) _ _ ht)
      cases e
      refine ⟨rfl, _, rfl, t, _, 4, .int s.change, rfl, rfl, p1, rfl, _, q2, by rw [List.length_map, List.length_map, List.length_take]; exact sz_m (by omega), q1.mut hD0, ?_⟩
      rw [upd_same, List.take_add_one, hs, List.map_append, List.map_append]
      rfl
    · rintro G ⟨q1, q2⟩
      rw [hyl, List.take_length] at q2
      refine ⟨D, _, rfl, SqL.of q2, by show 3 ≤ sizeLine; decide, fun r hr => ?_⟩
      exact kQ _ r t ((e1.trans e13).trans (q1.trans (Ex.new hr))) (fresh_back ((e1.trans e13).trans q1) hr) ((q1.trans (Ex.new hr)) _ _ j3) upd_same
end
end AA

set_option Elab.async false
set_option linter.all false
set_option maxRecDepth 100000
set_option maxHeartbeats 4000000
/-! is_ring. -/
namespace AA
open PySem PySem.Spec PyProof.Rows L2 Evl
/-- a walk that was read is a ring -/
def ringB : Option (List St5) → Bool
  | none => false
  | some ws => match ws.head?, ws.getLast? with
    | some s, some t => decide (s.one = t.other) && decide ((ws.map (·.other)).Nodup)
    | _, _ => false
section
variable {K : PySem.W.Frag}
theorem last_at {H : Hp} {xs : List V} {u : List St5} {t : St5} (h : DpAll K H xs (u.map stD)) (hl : u.getLast? = some t) : ∃ b, atI xs (-1) = some (V.ref b) ∧ Dp K H (.ref b) (stD t) := by
  have hlen := sts_len h
  rw [List.getLast?_eq_getElem?] at hl
  have lt := (List.getElem?_eq_some_iff.mp hl).1
  obtain ⟨x, hx⟩ : ∃ x, xs[u.length - 1]? = some x := ⟨_, List.getElem?_eq_getElem (by omega)⟩
  obtain ⟨t', b, ht, rfl, hb⟩ := sts_get h hx
  rw [hl] at ht
  cases ht
  refine ⟨b, ?_, hb⟩
  unfold atI
  have e : ixN xs.length (-1) = some (u.length - 1) := by
    rw [hlen]
    unfold ixN
    rw [if_neg (by omega), if_pos (by omega)]
    congr 1
    omega
  rw [e]
  exact hx
end
section
variable {P : Program} {w : World} {K : PySem.W.Frag} {mg : Str → Option Value} {base : Heap}
def spIsRing (K : PySem.W.Frag) (C : Addr) : Sp := fun vs H Q _ => ∃ (x : Addr) (n : Int) (ss : List St5) (v : V), vs = [.ref x, v] ∧ WebAt K C H x n ss ∧ ss.Nodup ∧ ss.length ≤ 1000000 ∧
  ((Lk K H v false ∧ ∀ H', Ex H H' → Q (.bl false) H') ∨ ∃ d, Dp K H v d ∧ isListD d = true ∧ (itemsD d).length ≤ 1000000 ∧ (∀ ws, rdWalk n ss (itemsD d) [] = some ws → ws.length ≤ 1000000) ∧ ∀ H', Ex H H' → Q (.bl (ringB (rdWalk n ss (itemsD d) []))) H')
abbrev nmRg : List Str := ["web", "thing", "walk", "ends", "step"]
theorem scRg : FnScope nmRg ["web", "thing"] (defScope sIsRing) := ⟨rfl, rfl, rfl, by decide +kernel, rfl, by decide +kernel, by decide +kernel⟩
theorem ok_isRing {f C : Addr} {fd : FuncData} (F : L2.Fun K "is_ring" "is_ring" sIsRing f fd) (B : Bn mg) (cR : C8.Cal P w K mg base 4 "read_walk" (spReadWalk K C) []) : FnOk P w K mg base CX0 5 f fd ["web", "thing"] (spIsRing K C) := by
  refine F.ok scRg (fun vs H Q E h => ?_) (fun cdv Ar outer s H vs Q E hr h => ?_)
  · obtain ⟨x, n, ss, v, rfl, _⟩ := h
    rfl
  · obtain ⟨x, n, ss, v, rfl, hw, nd, hz, h⟩ := h
    refine ⟨_, pss_cons (ps_set (i := 2) scRg.nd rfl (Or.inl rfl) (C8.pe_c cR hr (by decide) (by rfl) (pa_cons (pv 0) (pa_cons (pv 1) pa_nil))))
      (pss_cons (ps_if (pt_not (pt_truth (pv 2) (fun _ => rfl))) (pss_one (ps_ret pe_bl)) pss_nil)
      (Evl.pss_cut (ps_setDc (i := 3) (own := [("step", 4)]) (g := gName 4) (tt := tYes) (by rfl) scRg.nd rfl rfl (sw_trueD rfl rfl rfl (by decide +kernel)) (pi_list (pv 2)) (blkOk_by (N := nmRg) (sc := defScope sIsRing) (by decide +kernel))
          (fun _ _ _ _ _ => pg_name (i := 4) scRg.nd rfl (Or.inl rfl)) (fun _ _ _ _ _ => pts_nil) (fun _ _ _ _ _ => pe_ix (r := rIxT K) ix_tup (pv 4) pe_int (fun _ _ => rfl)) (fun _ _ _ _ _ => pe_bl))
      (pss_one (ps_ret (pe_and (pe_cmpR op_eq (pe_ix ix_tup (pe_ix ix_list (pv 2) pe_int (fun _ _ => rfl)) pe_int (fun _ _ => rfl)) (pe_ix ix_tup (pe_ix ix_list (pv 2) (pe_un un_neg pe_int) (fun _ _ => rfl)) pe_int (fun _ _ => rfl)) (nomark _))
        (pe_one (pe_cmpR op_eq (pe_callB call_lenD (by rfl) B.len PySem.boot_len (pa_cons (pv 3) pa_nil)) (pe_callB call_len_seq (by rfl) B.len PySem.boot_len (pa_cons (pv 2) pa_nil)) (nomark _)))))))), ?_⟩
    refine ⟨_, rfl, _, rfl, x, n, ss, v, rfl, hw, nd, hz, ?_⟩
    rcases h with ⟨hl, k⟩ | ⟨d, hd, h1, h2, hwz, k⟩
    · exact .inl ⟨hl, fun H' e => ⟨_, rfl, false, rfl, iteT (k H' e)⟩⟩
    refine .inr ⟨d, hd, h1, h2, fun H1 r e1 hr' => ?_⟩
    cases q : rdWalk n ss (itemsD d) [] with
    | none =>
      rw [q] at hr' k
      obtain rfl : r = .non := hr'
      exact ⟨_, rfl, false, rfl, iteT (k H1 e1)⟩
    | some ws =>
      rw [q] at hr' k
      obtain ⟨p, ys, rfl, hp, hD⟩ := hr'
      have hyl := sts_len hD
      have hwz := hwz ws q
      refine ⟨_, rfl, _, .inl ⟨_, SqL.of hp, rfl⟩, ?_⟩
      cases hws : ws with
      | nil =>
        rw [hws] at hyl k
        obtain rfl : ys = [] := List.length_eq_zero_iff.mp hyl
        exact iteT (k H1 e1)
      | cons s0 wr =>
        rw [hws] at hyl
        cases hys : ys with
        | nil =>
          rw [hys] at hyl
          cases hyl
        | cons y0 yr =>
        refine iteF ?_
        rw [← hws] at hyl
        rw [hys] at hp hD hyl
        refine ⟨fun σ G => ∃ (D : Addr) (l : List Int), σ = [some (.ref x), some v, some (.ref p), some (.ref D), none] ∧ Ex H1 G ∧ G D = some (.dK (seenK l)) ∧ (l.length = ws.length ↔ (ws.map (·.other)).Nodup), ?_, ?_⟩
        · refine ⟨_, rfl, p, rfl, ⟨_, SqL.of hp⟩, fun D hD0 => ?_⟩
          refine dc_list (xs := y0 :: yr) (fun i G => Ex H1 G ∧ ∃ l, G D = some (.dK (seenK l)) ∧ l.length ≤ i ∧ (∀ v, v ∈ l ↔ v ∈ (ws.take i).map (·.other)) ∧ (l.length = i ↔ ((ws.take i).map (·.other)).Nodup)) ⟨Ex.new hD0, [], upd_same, Nat.le_refl _, (fun v => by simp), by simp⟩ (fun i G _ q => SqL.of (q.1 _ _ hp)) ?_ ?_
          · rintro i x' G hx ⟨q1, l, q2, q3, q4, q5⟩
            have il := get_len hx
            obtain ⟨s, t, hs, rfl, ht⟩ := sts_get hD hx
            obtain ⟨_, u, e, p1, p2⟩ := stD_inv (dp_ex q1 _ _ ht)
            cases e
            have tk : (ws.take (i + 1)).map (·.other) = (ws.take i).map (·.other) ++ [s.other] := by
              rw [List.take_add_one, hs, List.map_append]
              rfl
            refine ⟨rfl, _, rfl, t, _, 1, .int s.other, rfl, rfl, p1, rfl, seenK l, Sum.inl s.other, rfl, q2, by unfold seenK; rw [List.length_map]; exact sz_m (by omega), q1.mut hD0, ?_⟩
            rw [tk]
            by_cases hin : s.other ∈ l
            · rw [seenK_old hin]
              refine ⟨l, upd_same, by omega, fun v => ?_, ⟨fun z => by omega, fun z => ?_⟩⟩
              · rw [List.mem_append, q4 v, List.mem_singleton]
                exact ⟨.inl, fun z => z.elim id fun e => by rw [e]; exact (q4 _).mp hin⟩
              · exact absurd rfl ((List.nodup_append.mp z).2.2 s.other ((q4 _).mp hin) s.other (by simp))
            · rw [seenK_new hin]
              refine ⟨l ++ [s.other], upd_same, by rw [List.length_append]; exact Nat.succ_le_succ q3, fun v => by rw [List.mem_append, List.mem_append, q4 v], ?_⟩
              rw [List.length_append, List.length_singleton]
              constructor
              · intro z
                exact List.nodup_append.mpr ⟨q5.mp (by omega), by simp, fun x hx y hy e => hin ((q4 _).mpr (by rw [List.mem_singleton.mp hy] at e; exact e ▸ hx))⟩
              · intro z
                have := q5.mpr (List.nodup_append.mp z).1
                omega
          · rintro G ⟨q1, l, q2, q3, q4, q5⟩
            rw [hyl, List.take_length] at q5
            exact ⟨D, l, rfl, q1, q2, q5⟩
        rintro σ G ⟨D, l, rfl, e2, hD2, hnd⟩
        have hp2 := e2 _ _ hp
        have e1e2 := e1.trans e2
        have hDG := dpa_ex e2 _ _ hD
        have hs0 : ws[0]? = some s0 := by rw [hws]; rfl
        obtain ⟨tL, htL⟩ : ∃ t, ws.getLast? = some t := ⟨_, List.getLast?_eq_some_getLast (by rw [hws]; simp)⟩
        obtain ⟨tb, htb, htD⟩ := last_at hDG htL
        obtain ⟨t0, b0, ht0, rfl, hb0⟩ := sts_get hDG (i := 0) (y := y0) rfl
        rw [hs0] at ht0
        cases ht0
        obtain ⟨_, u0, ez0, p1, _⟩ := stD_inv hb0
        cases ez0
        obtain ⟨_, uL, ezL, pl, _⟩ := stD_inv htD
        cases ezL
        have hrg : ringB (some ws) = (decide (s0.one = tL.other) && decide ((ws.map (·.other)).Nodup)) := by
          have : ws.head? = some s0 := by rw [hws]; rfl
          show (match ws.head?, ws.getLast? with
            | some s, some t => decide (s.one = t.other) && decide ((ws.map St5.other).Nodup)
            | _, _ => false) = _
          rw [this, htL]
        have k3 := k G e1e2
        rw [hrg] at k3
        refine ⟨_, rfl, p, _, 0, _, rfl, rfl, SqL.of hp2, atI_nat (j := 0) rfl, _, _, 0, .int s0.one, rfl, rfl, p1, rfl, _, rfl, _, rfl, p, _, (-1 : Int), _, rfl, rfl, SqL.of hp2, htb, _, _, 1, .int tL.other, rfl, rfl, pl, rfl, rfl, _, rfl, ?_⟩
        cases ha : decide (s0.one = tL.other) with
        | false =>
          rw [ha] at k3
          rw [dec_int, ha]
          exact iteF k3
        | true =>
          rw [ha] at k3
          rw [dec_int, ha]
          refine iteT ?_
          refine ⟨_, rfl, D, seenK l, rfl, hD2, _, rfl, p, _, rfl, .inl (SqL.of hp2), rfl, ?_⟩
          rw [dec_int]
          have hc : decide (((seenK l).length : Int) = ((V.ref b0 :: yr).length : Int)) = decide ((ws.map (·.other)).Nodup) := by
            rw [hyl, show (seenK l).length = l.length from List.length_map .., Bool.eq_iff_iff]
            simp only [decide_eq_true_eq]
            exact ⟨fun z => hnd.mp (by omega), fun z => by rw [hnd.mpr z]⟩
          rw [hc]
          exact k3
end
end AA

set_option Elab.async false
set_option linter.all false
set_option maxRecDepth 100000
set_option maxHeartbeats 4000000
/-! _law_reached. -/
namespace AA
open PySem PySem.Spec PyProof.Rows L2 Evl
def inD (ks : List Int) : PyData := .list (ks.map PyData.int)
theorem ints_lay : ∀ ks : List Int, PyData.depthAll (ks.map PyData.int) ≤ 1
  | [] => Nat.zero_le _
  | k :: ks => by
    show max (PyData.depth (.int k)) (PyData.depthAll (ks.map PyData.int)) ≤ 1
    have := ints_lay ks
    have h : PyData.depth (.int k) = 0 := rfl
    omega
theorem ints_can : ∀ ks : List Int, PyData.canLayAll0 (ks.map PyData.int) = true
  | [] => rfl
  | k :: ks => by
    show (PyData.canLay0 (.int k) && PyData.canLayAll0 (ks.map PyData.int)) = true
    rw [ints_can ks]
    rfl
theorem ints_shaped (ks : List Int) : SeqAt.shaped (inD ks) = true := by
  have h : PyData.depth (inD ks) ≤ 64 := by
    have := ints_lay ks
    show PyData.depthAll (ks.map PyData.int) + 1 ≤ 64
    omega
  show (PyData.canLayAll0 (ks.map PyData.int) && decide (PyData.depth (inD ks) ≤ 64)) = true
  rw [ints_can, decide_eq_true h]
  rfl
theorem dpa_ints {K : PySem.W.Frag} {H : Hp} : ∀ ks : List Int, DpAll K H (ks.map V.int) (ks.map PyData.int)
  | [] => .nil
  | k :: ks => .cons (.int k) (dpa_ints ks)
theorem dp_inD {K : PySem.W.Frag} {H : Hp} {p : Addr} {ks : List Int} (h : SqL K H p (ks.map V.int)) : Dp K H (.ref p) (inD ks) := .lst h (dpa_ints ks)
theorem inD_nil : ∀ ks : List Int, PyData.eqv (inD ks) (.list []) = ks.isEmpty
  | [] => rfl
  | _ :: _ => rfl
theorem any_int (ks : List Int) (c : Int) : ((ks.map PyData.int).any fun z => PyData.eqv z (.int c)) = decide (c ∈ ks) := by
  induction ks with
  | nil => rfl
  | cons k ks ih =>
    rw [List.map_cons, List.any_cons, ih]
    have h : PyData.eqv (.int k) (.int c) = (k == c) := rfl
    rw [h, Bool.eq_iff_iff]
    simp only [Bool.or_eq_true, beq_iff_eq, decide_eq_true_eq, List.mem_cons]
    exact ⟨fun z => z.imp (fun e => e.symm) id, fun z => z.imp (fun e => e.symm) id⟩
section
variable {P : Program} {w : World} {K : PySem.W.Frag} {mg : Str → Option Value} {base : Heap}
def spLRch (K : PySem.W.Frag) : Sp := fun vs H Q _ => ∃ (l : Addr) (i : Int) (us : List V) (ss : List St5) (U : List Int), vs = [.ref l, .int i] ∧ SqL K H l us ∧ DpAll K H us (ss.map stD) ∧ ss.length < 64 ∧ i ∈ U ∧ (∀ s ∈ ss, s.other ∈ U) ∧ U.length < 64 ∧
  ∀ (H' : Hp) (p : Addr) (zs : List Int), Ex H H' → H p = none → H' p = some (.lst (zs.map V.int)) → zs.Nodup → zs.Pairwise (· ≤ ·) → (∀ v, v ∈ zs ↔ Rch (edg ss) [i] v) → Q (.ref p) H'
abbrev nmLR : List Str := ["_law_steps", "_law_place", "_law_found", "_law_waiting", "_law_here", "_law_more", "_law_step_here"]
theorem scLR : FnScope nmLR ["_law_steps", "_law_place"] (defScope sLReached) := ⟨rfl, rfl, rfl, by decide +kernel, rfl, by decide +kernel, by decide +kernel⟩
theorem ok_lreached {f : Addr} {fd : FuncData} (F : L2.Fun K "_law_reached" "_law_reached" sLReached f fd) (B : Bn mg) (hset : mg "set" = none) : FnOk P w K mg base CX0 1 f fd ["_law_steps", "_law_place"] (spLRch K) := by
  refine F.ok scLR (fun vs H Q E h => ?_) (fun cdv A outer s H vs Q E hr h => ?_)
  · obtain ⟨l, i, us, ss, U, rfl, _⟩ := h
    rfl
  · obtain ⟨l, i, us, ss, U, rfl, hl, hD, hsz, hi, hEU, hU, k⟩ := h
    refine ⟨_, Evl.pss_cut (ps_asg (pe_tup (pa_cons (pe_lst (pa_cons (pv 1) pa_nil)) (pa_cons (pe_lst (pa_cons (pv 1) pa_nil)) pa_nil))) (pg_tup (n := 2) rfl (pgs_cons (pg_name (i := 2) scLR.nd rfl (Or.inr rfl)) (pgs_cons (pg_name (i := 3) scLR.nd rfl (Or.inl rfl)) pgs_nil))))
      (Evl.pss_cut (ps_while PassesOwn.never (pt_cmpR (op_neD hr.units) (pv 3) (pe_lst pa_nil) (nomark _))
          (pss_cons (ps_set (i := 4) scLR.nd rfl (Or.inr rfl) (pe_bm0 PySem.F.plainAttrs_list PySem.F.slot_list_pop PySem.F.type_list_pop mt_pop (pv 3)))
          (pss_cons (ps_set (i := 5) scLR.nd rfl (Or.inl rfl) (pe_callB (r := rSortedSet w) (cr_sortedSet (by rfl)) (by rfl) B.sorted boot_sorted (pa_cons (pe_callTy (r := rSetOfI K w) (cr_setOfI (by rfl)) (by rfl) hset boot_set (pa_cons
              (pe_lc (own := [("_law_step_here", 6)]) (g := gName 6) (by rfl) scLR.nd (pi_list (pv 0)) (blkOk_by (N := nmLR) (sc := defScope sLReached) (by decide +kernel)) (fun _ _ _ _ _ => pg_name (i := 6) scLR.nd rfl (Or.inl rfl))
                (fun _ _ _ _ _ => pts_one (PW.pt (pw_and (pt_cmpR op_eq (pe_ix (r := rIxT K) ix_tup (pv 6) pe_int (fun _ _ => rfl)) (pv 4) (nomark _)) (pw_and1 (pt_cmpR (r := rNotInD K) (op_notInD (Room.u65 hr)) (pe_ix (r := rIxT K) ix_tup (pv 6) pe_int (fun _ _ => rfl)) (pv 2) (by rfl))))))
                (fun _ _ _ _ _ => pe_ix (r := rIxT K) ix_tup (pv 6) pe_int (fun _ _ => rfl))) pa_nil)) pa_nil)))
          (pss_cons (ps_expr (pe_bm PySem.F.plainAttrs_list PySem.F.slot_list_extend PySem.F.type_list_extend mt_extend (pv 2) (pa_cons (pv 5) pa_nil)))
          (pss_one (ps_expr (pe_bm PySem.F.plainAttrs_list PySem.F.slot_list_extend PySem.F.type_list_extend mt_extend (pv 3) (pa_cons (pv 5) pa_nil))))))))
      (pss_one (ps_ret (pe_callB (r := rSorted K) cr_sorted (by rfl) B.sorted boot_sorted (pa_cons (pv 2) pa_nil))))), ?_⟩
    have shI : ∀ ks : List Int, SeqAt.shaped (inD ks) = true := ints_shaped
    -- found, waiting
    refine ⟨fun σ G => ∃ Fo Wa, σ = [some (.ref l), some (.int i), some (.ref Fo), some (.ref Wa), none, none, none] ∧ Ex H G ∧ H Fo = none ∧ H Wa = none ∧ Wa ≠ Fo ∧ G Fo = some (.lst [.int i]) ∧ G Wa = some (.lst [.int i]), ?_, ?_⟩
    · refine ⟨_, rfl, by show 1 ≤ sizeLine; decide, fun Fo hFo => ⟨_, rfl, by show 1 ≤ sizeLine; decide, fun Wa hWa => ⟨by show 2 ≤ sizeLine; decide, fun T hT => ⟨T, _, rfl, SqT.of upd_same, rfl, _, _, rfl, _, _, rfl, rfl, ?_⟩⟩⟩⟩
      have y1 := Ex.new (o := .lst [V.int i]) hFo
      have j1 : upd H Fo (.lst [V.int i]) Fo = some (.lst [V.int i]) := upd_same
      have ne : Wa ≠ Fo := (ne_of_none j1 hWa).symm
      have y2 := Ex.new (o := .lst [V.int i]) hWa
      have y3 := Ex.new (o := .tup [V.ref Fo, V.ref Wa]) hT
      exact ⟨Fo, Wa, rfl, y1.trans (y2.trans y3), hFo, fresh_back y1 hWa, ne, (y2.trans y3) _ _ j1, y3 _ _ upd_same⟩
    rintro σ G0 ⟨Fo, Wa, rfl, e0, hFo, hWa, nWF, hF0, hW0⟩
    have hRU : ∀ v, Rch (edg ss) [i] v → v ∈ U := fun v h => h.in (fun x hx => by rw [List.mem_singleton.mp hx]; exact hi) fun a b hab => by
      obtain ⟨s, h1, h2, h3⟩ := edg_mem.mp hab
      rw [← h3]
      exact hEU s h1
    refine ⟨fun σ G => ∃ (x4 x5 : Option V) (fs : List Int), σ = [some (.ref l), some (.int i), some (.ref Fo), some (.ref Wa), x4, x5, none] ∧ Ex H G ∧ G Fo = some (.lst (fs.map V.int)) ∧ fs.Nodup ∧ ∀ v, v ∈ fs ↔ Rch (edg ss) [i] v, ?_, ?_⟩
    · refine ⟨fun mm σ G => ∃ (x4 x5 : Option V) (fs ws : List Int), σ = [some (.ref l), some (.int i), some (.ref Fo), some (.ref Wa), x4, x5, none] ∧ 2 * (U.length - fs.length) + ws.length = mm ∧ mm ≤ 2 * U.length + 1 ∧ Ex H G ∧ G Fo = some (.lst (fs.map V.int)) ∧ G Wa = some (.lst (ws.map V.int)) ∧ fs.Nodup ∧ i ∈ fs ∧ (∀ v ∈ ws, v ∈ fs) ∧ (∀ v ∈ fs, Rch (edg ss) [i] v) ∧ (∀ a ∈ fs, a ∉ ws → ∀ b, (a, b) ∈ edg ss → b ∈ fs),
        ⟨_, none, none, [i], [i], rfl, rfl, by show 2 * (U.length - 1) + 1 ≤ _; omega, e0, hF0, hW0, by simp, by simp, (fun v h => h), (fun v h => .base h), fun a ha hn => absurd ha hn⟩, ?_⟩
      rintro mm σ G ⟨x4, x5, fs, ws, rfl, rfl, hmm, e, hF, hW, fnd, hif, hwf, hfr, hcl⟩
      refine ⟨_, rfl, Nat.zero_le _, fun q0 hq0 => ?_⟩
      have y1 := Ex.new (o := .lst []) hq0
      have j1 : upd G q0 (.lst []) q0 = some (.lst []) := upd_same
      generalize upd G q0 (.lst []) = G1 at y1 j1 ⊢
      have e1 := e.trans y1
      have hF1 := y1 _ _ hF
      have hW1 := y1 _ _ hW
      refine ⟨inD ws, .list [], dp_inD (SqL.of hW1), .lst (SqL.of j1) .nil, shI ws, rfl, _, rfl, ?_⟩
      rw [inD_nil]
      cases hwz : ws with
      | nil => exact iteF ⟨x4, x5, fs, rfl, e1, hF1, fnd, fun v => ⟨hfr v, fun h => h.closed (fun x hx => by rw [List.mem_singleton.mp hx]; exact hif) fun a ha b hab => hcl a ha (by rw [hwz]; simp) b hab⟩⟩
      | cons w0 wr =>
        obtain ⟨ps, c, ep⟩ : ∃ ps c, ws = ps ++ [c] := ⟨ws.dropLast, ws.getLast (by rw [hwz]; simp), (List.dropLast_concat_getLast _).symm⟩
        refine iteT ?_
        rw [← hwz, ep]
        rw [ep] at hW1 hwf hcl hmm
        have hW1' : G1 Wa = some (.lst (ps.map V.int ++ [V.int c])) := by
          rw [hW1, List.map_append]
          rfl
        have hc : c ∈ fs := hwf c (by simp)
        refine ⟨fun σ G => ∃ (x4 x5 : Option V) (fs' ws' : List Int), σ = [some (.ref l), some (.int i), some (.ref Fo), some (.ref Wa), x4, x5, none] ∧ 2 * (U.length - fs'.length) + ws'.length < 2 * (U.length - fs.length) + (ps ++ [c]).length ∧ Ex H G ∧ G Fo = some (.lst (fs'.map V.int)) ∧ G Wa = some (.lst (ws'.map V.int)) ∧ fs'.Nodup ∧ i ∈ fs' ∧ (∀ v ∈ ws', v ∈ fs') ∧ (∀ v ∈ fs', Rch (edg ss) [i] v) ∧ (∀ a ∈ fs', a ∉ ws' → ∀ b, (a, b) ∈ edg ss → b ∈ fs'), ?_, ?_⟩
        · rintro σ' G' ⟨x4, x5, fs', ws', e', lt, r⟩
          exact ⟨_, lt, x4, x5, fs', ws', e', rfl, by omega, r⟩
        refine ⟨_, rfl, .inl ⟨rfl, _, SqL.of hW1'⟩, Wa, _, .int c, rfl, rfl, hW1', by simp, ?_⟩
        rw [List.dropLast_concat]
        have e2 := e1.mut (o := .lst (ps.map V.int)) hWa
        have hF2 : upd G1 Wa (.lst (ps.map V.int)) Fo = some (.lst (fs.map V.int)) := by rw [upd_ne nWF.symm]; exact hF1
        have hW2 : upd G1 Wa (.lst (ps.map V.int)) Wa = some (.lst (ps.map V.int)) := upd_same
        generalize upd G1 Wa (.lst (ps.map V.int)) = G2 at e2 hF2 hW2 ⊢
        refine ⟨_, rfl, l, rfl, ⟨_, ex_l e2 hl⟩, fun D hD0 => ?_⟩
        have hul := sts_len hD
        refine lc_list (xs := us) (fun j G => Ex G2 G ∧ ∃ ks : List Int, G D = some (.lst (ks.map V.int)) ∧ (∀ x, x ∈ ks ↔ ∃ s ∈ ss.take j, s.one = c ∧ s.other = x ∧ x ∉ fs) ∧ ks.length ≤ j) ⟨Ex.new hD0, [], upd_same, (fun x => by simp), Nat.le_refl _⟩ (fun j G _ q => ex_l (e2.trans q.1) hl) ?_ ?_
        · rintro j x G3 hx ⟨q1, ks, q2, q3, q4⟩
          have jl := (List.getElem?_eq_some_iff.mp hx).1
          obtain ⟨s, t, hs, rfl, ht⟩ := sts_get hD hx
          obtain ⟨_, u, e, p1, p2⟩ := stD_inv (dp_ex (e2.trans q1) _ _ ht)
          cases e
          have tk : ss.take (j + 1) = ss.take j ++ [s] := by rw [List.take_add_one, hs]; rfl
          have skip : (¬ (s.one = c ∧ s.other ∉ fs)) → Ex G2 G3 ∧ ∃ ks : List Int, G3 D = some (.lst (ks.map V.int)) ∧ (∀ x, x ∈ ks ↔ ∃ s ∈ ss.take (j + 1), s.one = c ∧ s.other = x ∧ x ∉ fs) ∧ ks.length ≤ j + 1 := fun hn => ⟨q1, ks, q2, fun x => by
            rw [q3 x, tk]
            refine ⟨fun ⟨s', h1, h2⟩ => ⟨s', List.mem_append_left _ h1, h2⟩, fun ⟨s', h1, h2, h3, h4⟩ => ?_⟩
            rcases List.mem_append.mp h1 with h1 | h1
            · exact ⟨s', h1, h2, h3, h4⟩
            · obtain rfl := List.mem_singleton.mp h1
              rw [← h3] at h4
              exact absurd ⟨h2, h4⟩ hn, by omega⟩
          refine ⟨rfl, _, rfl, t, _, 0, .int s.one, rfl, rfl, p1, rfl, _, rfl, rfl, _, rfl, ?_⟩
          refine dec_ite (fun z1 => ?_) (fun z1 => skip fun z2 => z1 (by rw [z2.1]))
          have hone : s.one = c := V.int.inj z1
          refine ⟨_, rfl, t, _, 1, .int s.other, rfl, rfl, p1, rfl, _, rfl, .int s.other, fs.map PyData.int, .int _, dp_inD (SqL.of (q1 _ _ hF2)), rfl, shI fs, _, rfl, ?_⟩
          rw [any_int]
          by_cases hin : s.other ∈ fs
          · rw [decide_eq_true hin]
            exact iteF (skip fun z => z.2 hin)
          · rw [decide_eq_false hin]
            refine iteT ?_
            refine ⟨_, rfl, t, _, 1, .int s.other, rfl, rfl, p1, rfl, ks.map V.int, q2, by rw [List.length_map]; exact sz_m (by omega), q1.mut hD0, ks ++ [s.other], ?_, fun x => ?_, by rw [List.length_append]; exact Nat.succ_le_succ q4⟩
            · rw [List.map_append]
              exact upd_same
            · rw [List.mem_append, q3 x, tk, List.mem_singleton]
              constructor
              · rintro (⟨s', h1, h2⟩ | h)
                · exact ⟨s', List.mem_append_left _ h1, h2⟩
                · exact ⟨s, List.mem_append_right _ List.mem_cons_self, hone, h.symm, by rw [h]; exact hin⟩
              · rintro ⟨s', h1, h2, h3, h4⟩
                rcases List.mem_append.mp h1 with h1 | h1
                · exact .inl ⟨s', h1, h2, h3, h4⟩
                · rw [List.mem_singleton.mp h1] at h3
                  exact .inr h3.symm
        · rintro G3 ⟨q1, ks, q2, q3, q4⟩
          rw [hul] at q4
          rw [hul, List.take_length] at q3
          refine ⟨D, ks, rfl, SqL.of q2, by omega, fun a m ha hm => ?_⟩
          have y4 := Ex.new (o := SetO w a (fun j => decide (j ∈ ks)) m) ha
          have j4 : upd G3 a (SetO w a (fun j => decide (j ∈ ks)) m) a = some (SetO w a (fun j => decide (j ∈ ks)) m) := upd_same
          generalize upd G3 a (SetO w a (fun j => decide (j ∈ ks)) m) = G4 at y4 j4 ⊢
          refine ⟨a, _, m, rfl, j4, by omega, fun ns p so hmem _ hp => ?_⟩
          have y5 := Ex.new (o := .lst (ns.map V.int)) hp
          have j5 : upd G4 p (.lst (ns.map V.int)) p = some (.lst (ns.map V.int)) := upd_same
          have e25 : Ex G2 (upd G4 p (.lst (ns.map V.int))) := q1.trans (y4.trans y5)
          have pF : p ≠ Fo := (ne_of_none ((q1.trans y4) _ _ hF2) hp).symm
          have pW : p ≠ Wa := (ne_of_none ((q1.trans y4) _ _ hW2) hp).symm
          generalize upd G4 p (.lst (ns.map V.int)) = G5 at j5 e25 ⊢
          have hns : ∀ x, x ∈ ns ↔ (c, x) ∈ edg ss ∧ x ∉ fs := fun x => by
            rw [hmem x, decide_eq_true_eq, q3 x, edg_mem]
            exact ⟨fun ⟨s, h1, h2, h3, h4⟩ => ⟨⟨s, h1, h2, h3⟩, h4⟩, fun ⟨⟨s, h1, h2, h3⟩, h4⟩ => ⟨s, h1, h2, h3, h4⟩⟩
          have nsn : ns.Nodup := List.Pairwise.imp (fun h => by omega) so
          have nd2 : (fs ++ ns).Nodup := List.nodup_append.mpr ⟨fnd, nsn, fun x hx y hy q => ((hns y).mp hy).2 (q ▸ hx)⟩
          have rn : ∀ x ∈ ns, Rch (edg ss) [i] x := fun x hx => .step (hfr c hc) ((hns x).mp hx).1
          have hz := nd_len (fs ++ ns) U nd2 fun v hv => (List.mem_append.mp hv).elim (fun q => hRU v (hfr v q)) fun q => hRU v (rn v q)
          rw [List.length_append] at hz
          rw [List.length_append, List.length_singleton] at hmm
          have hF5 := e25 _ _ hF2
          have hW5 := e25 _ _ hW2
          refine ⟨_, rfl, .inl ⟨rfl, _, SqL.of hF5⟩, _, rfl, Fo, p, _, _, rfl, rfl, hF5, j5, sz_le (by rw [List.length_map, List.length_map]; omega), ?_⟩
          rw [← List.map_append]
          have e6 := (e2.trans e25).mut (o := .lst ((fs ++ ns).map V.int)) hFo
          have hF6 : upd G5 Fo (.lst ((fs ++ ns).map V.int)) Fo = some (.lst ((fs ++ ns).map V.int)) := upd_same
          have hW6 : upd G5 Fo (.lst ((fs ++ ns).map V.int)) Wa = some (.lst (ps.map V.int)) := by rw [upd_ne nWF]; exact hW5
          have hp6 : upd G5 Fo (.lst ((fs ++ ns).map V.int)) p = some (.lst (ns.map V.int)) := by rw [upd_ne pF]; exact j5
          generalize upd G5 Fo (.lst ((fs ++ ns).map V.int)) = G6 at e6 hF6 hW6 hp6 ⊢
          refine ⟨_, rfl, .inl ⟨rfl, _, SqL.of hW6⟩, _, rfl, Wa, p, _, _, rfl, rfl, hW6, hp6, sz_le (by rw [List.length_map, List.length_map]; omega), ?_⟩
          rw [← List.map_append]
          refine ⟨_, _, fs ++ ns, ps ++ ns, rfl, by rw [List.length_append, List.length_append, List.length_append, List.length_singleton]; omega, e6.mut hWa, by rw [upd_ne nWF.symm]; exact hF6, upd_same, nd2, List.mem_append_left _ hif, fun v h => ?_, fun v h => ?_, fun a ha hn b hab => ?_⟩
          · exact (List.mem_append.mp h).elim (fun q => List.mem_append_left _ (hwf v (List.mem_append_left _ q))) fun q => List.mem_append_right _ q
          · exact (List.mem_append.mp h).elim (hfr v) (rn v)
          · rcases List.mem_append.mp ha with ha | ha
            · by_cases q : a = c
              · rw [q] at hab
                by_cases hb : b ∈ fs
                · exact List.mem_append_left _ hb
                · exact List.mem_append_right _ ((hns b).mpr ⟨hab, hb⟩)
              · exact List.mem_append_left _ (hcl a ha (fun z => (List.mem_append.mp z).elim (fun y => hn (List.mem_append_left _ y)) fun y => q (List.mem_singleton.mp y)) b hab)
            · exact absurd (List.mem_append_right _ ha) hn
    rintro σ G7 ⟨x4, x5, fs, rfl, e7, hF7, fnd, hfm⟩
    refine ⟨_, rfl, Fo, fs, rfl, SqL.of hF7, Nat.lt_of_le_of_lt (nd_len fs U fnd fun v hv => hRU v ((hfm v).mp hv)) hU, fun ys p pm so hp => ?_⟩
    exact k _ p ys (e7.trans (Ex.new hp)) (fresh_back e7 hp) upd_same (pm.symm.nodup fnd) so fun v => by rw [pm.mem_iff, hfm v]
end
end AA

set_option Elab.async false
set_option linter.all false
set_option maxRecDepth 100000
set_option maxHeartbeats 4000000
/-! _law_rings. -/
namespace AA
open PySem PySem.Spec PyProof.Rows L2 Evl
theorem six_len {l : List Int} (hn : l.Nodup) (h : ∀ x ∈ l, 0 ≤ x ∧ x < 6) : l.length ≤ 6 :=
  nd_len l [0, 1, 2, 3, 4, 5] hn fun x hx => by
    have := h x hx
    simp only [List.mem_cons, List.not_mem_nil, or_false]
    omega
/-- the places that a walk comes to -/
def metL (w : List St5) (t : St5) : List Int := w.map (·.one) ++ [t.other]
/-- a walk on its way round from f -/
structure RWay (ss : List St5) (f : Int) (w : List St5) (t : St5) : Prop where
  last : w.getLast? = some t
  sub : ∀ s ∈ w, s ∈ ss
  nd : (w.map (·.one)).Nodup
  nx : t.other = f ∨ t.other ∉ w.map (·.one)
/-- a walk that is told -/
structure RgOk (ss w : List St5) : Prop where
  len : w.length ≤ 6
  sub : ∀ s ∈ w, s ∈ ss
theorem RWay.ok {c f : Int} {ss w : List St5} {t : St5} (h : RWay ss f w t) (hc : c ≤ 6) (hok : ∀ s ∈ ss, StOk c s) : RgOk ss w := by
  refine ⟨?_, h.sub⟩
  have := six_len h.nd fun x hx => by
    obtain ⟨s, hs, rfl⟩ := List.mem_map.mp hx
    have o := hok s (h.sub s hs)
    exact ⟨o.o0, by have := o.o1; omega⟩
  rw [List.length_map] at this
  exact this
theorem RWay.more {f : Int} {ss w : List St5} {t s : St5} (h : RWay ss f w t) (hf : t.other ≠ f) (hs : s ∈ ss) (e : s.one = t.other) (hn : s.other = f ∨ s.other ∉ metL w t) : RWay ss f (w ++ [s]) s := by
  have em : (w ++ [s]).map (·.one) = metL w t := by
    unfold metL
    rw [List.map_append, ← e]
    rfl
  refine ⟨by rw [List.getLast?_append]; rfl, fun x hx => (List.mem_append.mp hx).elim (h.sub x) (fun z => (List.mem_singleton.mp z) ▸ hs), ?_, by rw [em]; exact hn⟩
  rw [em]
  unfold metL
  refine List.nodup_append.mpr ⟨h.nd, by simp, fun x hx y hy z => ?_⟩
  obtain rfl := List.mem_singleton.mp hy
  exact (h.nx.resolve_left hf) (z ▸ hx)
/-- the steps that begin where a walk has not been -/
def rest (ss w : List St5) : Nat := (ss.filter fun s => decide (s.one ∉ w.map (·.one))).length
def deg (ss : List St5) (p : Int) : Nat := (ss.filter fun s => decide (s.one = p)).length
theorem rest_deg {w : List St5} {p : Int} {s : St5} (hp : p ∉ w.map (·.one)) (e : s.one = p) : ∀ ss : List St5, rest ss (w ++ [s]) + deg ss p = rest ss w
  | [] => rfl
  | x :: ss => by
    have ih := rest_deg hp e ss
    unfold rest deg at ih ⊢
    have em : (w ++ [s]).map (·.one) = w.map (·.one) ++ [p] := by rw [List.map_append, ← e]; rfl
    rw [em] at ih ⊢
    by_cases h1 : x.one = p
    · have h2 : ¬ (x.one ∉ w.map (·.one) ++ [p]) := by rw [h1]; simp
      have h3 : x.one ∉ w.map (·.one) := by rw [h1]; exact hp
      rw [List.filter_cons_of_neg (by simpa using h2), List.filter_cons_of_pos (by simpa using h1), List.filter_cons_of_pos (by simpa using h3), List.length_cons, List.length_cons]
      omega
    · rw [List.filter_cons_of_neg (a := x) (p := fun s => decide (s.one = p)) (by simpa using h1)]
      by_cases h3 : x.one ∈ w.map (·.one)
      · have h2 : ¬ (x.one ∉ w.map (·.one) ++ [p]) := fun z => z (List.mem_append_left _ h3)
        rw [List.filter_cons_of_neg (by simpa using h2), List.filter_cons_of_neg (by simpa using h3)]
        exact ih
      · have h2 : x.one ∉ w.map (·.one) ++ [p] := fun z => (List.mem_append.mp z).elim h3 fun y => h1 (List.mem_singleton.mp y)
        rw [List.filter_cons_of_pos (by simpa using h2), List.filter_cons_of_pos (by simpa using h3), List.length_cons, List.length_cons]
        omega
theorem rest_nil (ss : List St5) : rest ss [] = ss.length := by
  unfold rest
  rw [List.filter_eq_self.mpr fun x _ => by simp]
def mzR (ss w : List St5) : Nat := 2 ^ rest ss w
def mzS (ss : List St5) (ws : List (List St5)) : Nat := (ws.map (mzR ss)).sum
theorem mzR_pos (ss w : List St5) : 1 ≤ mzR ss w := Nat.one_le_pow _ _ (by decide)
theorem mzS_len (ss : List St5) : ∀ ws : List (List St5), ws.length ≤ mzS ss ws
  | [] => Nat.zero_le _
  | w :: r => by
    have h1 := mzR_pos ss w
    have h2 := mzS_len ss r
    show r.length + 1 ≤ mzR ss w + mzS ss r
    omega
theorem mzS_app (ss : List St5) (xs ys : List (List St5)) : mzS ss (xs ++ ys) = mzS ss xs + mzS ss ys := by
  unfold mzS
  rw [List.map_append, List.sum_append]
theorem mzS_le {ss : List St5} {n : Nat} : ∀ ws : List (List St5), (∀ w ∈ ws, mzR ss w ≤ n) → mzS ss ws ≤ ws.length * n
  | [], _ => Nat.zero_le _
  | w :: r, h => by
    have h1 := h w List.mem_cons_self
    have h2 := mzS_le r fun x hx => h x (List.mem_cons_of_mem _ hx)
    show mzR ss w + mzS ss r ≤ (r.length + 1) * n
    rw [Nat.succ_mul]
    omega
/-- all that goes on from a walk weighs less than it -/
theorem mzS_lt {ss u : List St5} {p : Int} {news : List (List St5)} (hp : p ∉ u.map (·.one)) (hn : ∀ w ∈ news, ∃ s : St5, w = u ++ [s] ∧ s.one = p) (hl : news.length ≤ deg ss p) : mzS ss news < mzR ss u := by
  cases news with
  | nil => exact mzR_pos ss u
  | cons w0 r =>
    obtain ⟨s0, _, e0⟩ := hn w0 List.mem_cons_self
    have hr := rest_deg hp e0 ss
    have hle := mzS_le (ss := ss) (n := 2 ^ rest ss (u ++ [s0])) (w0 :: r) fun w hw => by
      obtain ⟨s, ew, es⟩ := hn w hw
      have h2 := rest_deg hp es ss
      unfold mzR
      rw [ew]
      exact Nat.pow_le_pow_right (by decide) (by omega)
    have h1 : (w0 :: r).length * 2 ^ rest ss (u ++ [s0]) < 2 ^ deg ss p * 2 ^ rest ss (u ++ [s0]) := Nat.mul_lt_mul_of_pos_right (Nat.lt_of_le_of_lt hl Nat.lt_two_pow_self) (Nat.one_le_pow _ _ (by decide))
    have h2 : mzR ss u = 2 ^ deg ss p * 2 ^ rest ss (u ++ [s0]) := by
      unfold mzR
      rw [← hr, Nat.pow_add, Nat.mul_comm]
    omega
theorem deg_take {ss : List St5} {p : Int} (i : Nat) : deg (ss.take i) p ≤ deg ss p := by
  unfold deg
  exact (List.Sublist.filter _ (List.take_sublist i ss)).length_le
theorem deg_le {ss : List St5} {p : Int} : deg ss p ≤ ss.length := List.length_filter_le _ _
/-- a walk as a list on the heap, beside some addresses -/
def WyAt (K : PySem.W.Frag) (H : Hp) (X : List Addr) (G : Hp) (o : V) (w : List St5) : Prop := ∃ q xs, o = V.ref q ∧ H q = none ∧ q ∉ X ∧ G q = some (.lst xs) ∧ DpAll K H xs (w.map stD)
inductive WyL (K : PySem.W.Frag) (H : Hp) (X : List Addr) (G : Hp) : List V → List (List St5) → Prop
  | nil : WyL K H X G [] []
  | cons {o : V} {w : List St5} {os : List V} {ws : List (List St5)} (h : WyAt K H X G o w) (t : WyL K H X G os ws) : WyL K H X G (o :: os) (w :: ws)
section
variable {K : PySem.W.Frag} {H : Hp}
theorem WyAt.go {X : List Addr} {G G' : Hp} {o : V} {w : List St5} (h : WyAt K H X G o w) (e : ∀ q u, q ∉ X → G q = some u → G' q = some u) : WyAt K H X G' o w := by
  obtain ⟨q, xs, h1, h0, h2, h3, h4⟩ := h
  exact ⟨q, xs, h1, h0, h2, e _ _ h2 h3, h4⟩
theorem WyL.go {X : List Addr} {G G' : Hp} (e : ∀ q u, q ∉ X → G q = some u → G' q = some u) : ∀ {os : List V} {ws : List (List St5)}, WyL K H X G os ws → WyL K H X G' os ws
  | _, _, .nil => .nil
  | _, _, .cons h t => .cons (h.go e) (WyL.go e t)
theorem WyL.sub {X Y : List Addr} {G : Hp} (hs : ∀ x ∈ Y, x ∈ X) : ∀ {os : List V} {ws : List (List St5)}, WyL K H X G os ws → WyL K H Y G os ws
  | _, _, .nil => .nil
  | _, _, .cons ⟨q, xs, h1, h0, h2, h3⟩ t => .cons ⟨q, xs, h1, h0, fun z => h2 (hs q z), h3⟩ (WyL.sub hs t)
theorem WyL.add {X : List Addr} {G : Hp} {D : Addr} (h : G D = none) : ∀ {os : List V} {ws : List (List St5)}, WyL K H X G os ws → WyL K H (X ++ [D]) G os ws
  | _, _, .nil => .nil
  | _, _, .cons ⟨q, xs, h1, h0, h2, h3, h4⟩ t => .cons ⟨q, xs, h1, h0, fun z => (List.mem_append.mp z).elim h2 (fun y => ne_of_none h3 h (List.mem_singleton.mp y)), h3, h4⟩ (WyL.add h t)
theorem WyL.app {X : List Addr} {G : Hp} : ∀ {os ps : List V} {ws us : List (List St5)}, WyL K H X G os ws → WyL K H X G ps us → WyL K H X G (os ++ ps) (ws ++ us)
  | _, _, _, _, .nil, k => k
  | _, _, _, _, .cons h t, k => .cons h (WyL.app t k)
theorem WyL.len {X : List Addr} {G : Hp} : ∀ {os : List V} {ws : List (List St5)}, WyL K H X G os ws → os.length = ws.length
  | _, _, .nil => rfl
  | _, _, .cons h t => by rw [List.length_cons, List.length_cons, WyL.len t]
theorem WyL.snoc {X : List Addr} {G : Hp} : ∀ {os : List V} {ws : List (List St5)}, WyL K H X G os ws → ws ≠ [] → ∃ ps p us u, os = ps ++ [p] ∧ ws = us ++ [u] ∧ WyL K H X G ps us ∧ WyAt K H X G p u
  | _, _, .nil, h => absurd rfl h
  | _, _, .cons h .nil, _ => ⟨[], _, [], _, rfl, rfl, .nil, h⟩
  | _, _, .cons h (.cons h2 t), _ => by
    obtain ⟨ps, p, us, u, e1, e2, k1, k2⟩ := WyL.snoc (.cons h2 t) (by simp)
    exact ⟨_ :: ps, p, _ :: us, u, by rw [e1]; rfl, by rw [e2]; rfl, .cons h k1, k2⟩
/-- as data -/
def wkD (w : List St5) : PyData := .list (w.map stD)
theorem WyL.dpa {X : List Addr} {G : Hp} (e : Ex H G) : ∀ {os : List V} {ws : List (List St5)}, WyL K H X G os ws → DpAll K G os (ws.map wkD)
  | _, _, .nil => .nil
  | _, _, .cons ⟨q, xs, h1, h0, h2, h3, h4⟩ t => by
    subst h1
    exact .cons (.lst (SqL.of h3) (dpa_ex e _ _ h4)) (WyL.dpa e t)
theorem wkDs_lay : ∀ ws : List (List St5), PyData.canLayAll0 (ws.map wkD) = true
  | [] => rfl
  | s :: r => by
    show (PyData.canLayAll0 (s.map stD) && PyData.canLayAll0 (r.map wkD)) = true
    rw [wkDs_lay r, stDs_lay]
    rfl
theorem wkDs_depth : ∀ ws : List (List St5), PyData.depthAll (ws.map wkD) ≤ 3
  | [] => by decide
  | s :: r => by
    have h1 := wkDs_depth r
    have h2 := stDs_depth s
    show max (PyData.depthAll (s.map stD) + 1) (PyData.depthAll (r.map wkD)) ≤ 3
    omega
theorem wkDs_shaped (ws : List (List St5)) : SeqAt.shaped (.list (ws.map wkD)) = true := by
  have h : PyData.depth (.list (ws.map wkD)) ≤ 64 := by
    have := wkDs_depth ws
    show PyData.depthAll (ws.map wkD) + 1 ≤ 64
    omega
  show (PyData.canLayAll0 (ws.map wkD) && decide (PyData.depth (.list (ws.map wkD)) ≤ 64)) = true
  rw [wkDs_lay, decide_eq_true h]
  rfl
theorem eqv_wks_nil : ∀ ws : List (List St5), PyData.eqv (.list (ws.map wkD)) (.list []) = ws.isEmpty
  | [] => rfl
  | _ :: _ => rfl
end
section
variable {P : Program} {w : World} {K : PySem.W.Frag} {mg : Str → Option Value} {base : Heap}
def spLRings (K : PySem.W.Frag) : Sp := fun vs H Q _ => ∃ (g : Addr) (us : List V) (ss : List St5) (c : Int), vs = [.ref g] ∧ SqL K H g us ∧ DpAll K H us (ss.map stD) ∧ c ≤ 6 ∧ (∀ s ∈ ss, StOk c s) ∧ ss.length ≤ 14 ∧
  ∀ (H' : Hp) (F : Addr) (os : List V) (ws : List (List St5)), Ex H H' → H F = none → H' F = some (.lst os) → WyL K H [F] H' os ws → (∀ w ∈ ws, RgOk ss w) → ws.length ≤ 900000 → Q (.ref F) H'
abbrev nmRn : List Str := ["_law_steps", "_law_found", "_law_first", "_law_ways", "_law_way", "_law_met", "_law_more", "_law_step_here"]
theorem scRn : FnScope nmRn ["_law_steps"] (defScope sLRings) := ⟨rfl, rfl, rfl, by decide +kernel, rfl, by decide +kernel, by decide +kernel⟩
theorem ok_lrings {f : Addr} {fd : FuncData} (F : L2.Fun K "_law_rings" "_law_rings" sLRings f fd) (B : Bn mg) (hset : mg "set" = none) : FnOk P w K mg base CX0 1 f fd ["_law_steps"] (spLRings K) := by
  refine F.ok scRn (fun vs H Q E h => ?_) (fun cdv A outer s H vs Q E hr h => ?_)
  · obtain ⟨g, us, ss, c, rfl, _⟩ := h
    rfl
  · obtain ⟨g, us, ss, c, rfl, hg, hD, hc6, hok, hsz, k⟩ := h
    refine ⟨_, pss_cons (ps_set (i := 1) scRn.nd rfl (Or.inl rfl) (pe_lst pa_nil))
      (Evl.pss_cut (ps_for PassesOwn.never rfl (pi_list (pe_callB (r := rSortedSet w) (cr_sortedSet (by rfl)) (by rfl) B.sorted boot_sorted (pa_cons (pe_callTy (r := rSetOfI K w) (cr_setOfI (by rfl)) (by rfl) hset boot_set (pa_cons
              (pe_lc (own := [("_law_step_here", 7)]) (g := gName 7) (tt := tYes) (by rfl) scRn.nd (pi_list (pv 0)) (blkOk_by (N := nmRn) (sc := defScope sLRings) (by decide +kernel)) (fun _ _ _ _ _ => pg_name (i := 7) scRn.nd rfl (Or.inl rfl)) (fun _ _ _ _ _ => pts_nil)
                (fun _ _ _ _ _ => pe_ix (r := rIxT K) ix_tup (pv 7) pe_int (fun _ _ => rfl))) pa_nil)) pa_nil))) (pg_name (i := 2) scRn.nd rfl (Or.inr rfl))
        (Evl.pss_cut (ps_setLc (i := 3) (own := [("_law_step_here", 7)]) (g := gName 7) (by rfl) scRn.nd rfl rfl (sw_true rfl rfl rfl (by decide +kernel)) (pi_list (pv 0)) (blkOk_by (N := nmRn) (sc := defScope sLRings) (by decide +kernel)) (fun _ _ _ _ _ => pg_name (i := 7) scRn.nd rfl (Or.inl rfl))
            (fun _ _ _ _ _ => pts_one (PW.pt (pw_and (pt_cmpR op_eq (pe_ix (r := rIxT K) ix_tup (pv 7) pe_int (fun _ _ => rfl)) (pv 2) (nomark _)) (pw_and1 (pt_cmpR op_ge (pe_ix (r := rIxT K) ix_tup (pv 7) pe_int (fun _ _ => rfl)) (pv 2) (nomark _))))))
            (fun _ _ _ _ _ => pe_lst (pa_cons (pv 7) pa_nil)))
        (pss_one (ps_while PassesOwn.never (pt_cmpR (op_neD hr.units) (pv 3) (pe_lst pa_nil) (nomark _))
          (pss_cons (ps_set (i := 4) scRn.nd rfl (Or.inr rfl) (pe_bm0 PySem.F.plainAttrs_list PySem.F.slot_list_pop PySem.F.type_list_pop mt_pop (pv 3)))
          (pss_one (ps_if (pt_cmpR op_eq (pe_ix (r := rIxT K) ix_tup (pe_ix (r := rIxL K) ix_list (pv 4) (pe_un un_neg pe_int) (fun _ _ => rfl)) pe_int (fun _ _ => rfl)) (pv 2) (nomark _))
            (pss_one (ps_expr (pe_bm PySem.F.plainAttrs_list PySem.F.slot_list_append PySem.F.type_list_append mt_append (pv 1) (pa_cons (pv 4) pa_nil))))
            (pss_cons (ps_set (i := 5) scRn.nd rfl (Or.inr rfl) (pe_op op_cat (pe_lc (own := [("_law_step_here", 7)]) (g := gName 7) (tt := tYes) (by rfl) scRn.nd (pi_list (pv 4)) (blkOk_by (N := nmRn) (sc := defScope sLRings) (by decide +kernel))
                (fun _ _ _ _ _ => pg_name (i := 7) scRn.nd rfl (Or.inl rfl)) (fun _ _ _ _ _ => pts_nil) (fun _ _ _ _ _ => pe_ix (r := rIxT K) ix_tup (pv 7) pe_int (fun _ _ => rfl)))
                (pe_lst (pa_cons (pe_ix (r := rIxT K) ix_tup (pe_ix (r := rIxL K) ix_list (pv 4) (pe_un un_neg pe_int) (fun _ _ => rfl)) pe_int (fun _ _ => rfl)) pa_nil))))
            (pss_cons (ps_setLc (i := 6) (own := [("_law_step_here", 7)]) (g := gName 7) (by rfl) scRn.nd rfl rfl (sw_true rfl rfl rfl (by decide +kernel)) (pi_list (pv 0)) (blkOk_by (N := nmRn) (sc := defScope sLRings) (by decide +kernel)) (fun _ _ _ _ _ => pg_name (i := 7) scRn.nd rfl (Or.inl rfl))
                (fun _ _ _ _ _ => pts_one (PW.pt (pw_and (pt_cmpR op_eq (pe_ix (r := rIxT K) ix_tup (pv 7) pe_int (fun _ _ => rfl)) (pe_ix (r := rIxT K) ix_tup (pe_ix (r := rIxL K) ix_list (pv 4) (pe_un un_neg pe_int) (fun _ _ => rfl)) pe_int (fun _ _ => rfl)) (nomark _)) (pw_and1 (pt_cmpR op_ge (pe_ix (r := rIxT K) ix_tup (pv 7) pe_int (fun _ _ => rfl)) (pv 2) (nomark _))))))
                (fun _ _ _ _ _ => pv 7))
            (pss_one (ps_expr (pe_bm PySem.F.plainAttrs_list PySem.F.slot_list_extend PySem.F.type_list_extend mt_extend (pv 3) (pa_cons (pe_lc (own := [("_law_step_here", 7)]) (g := gName 7) (by rfl) scRn.nd (pi_list (pv 6)) (blkOk_by (N := nmRn) (sc := defScope sLRings) (by decide +kernel))
                (fun _ _ _ _ _ => pg_name (i := 7) scRn.nd rfl (Or.inl rfl)) (fun _ _ _ _ _ => pts_one (PW.pt (pw_or (pt_cmpR op_eq (pe_ix (r := rIxT K) ix_tup (pv 7) pe_int (fun _ _ => rfl)) (pv 2) (nomark _))
                  (pw_or1 (pt_cmpR (r := rNotInD K) (op_notInD (Room.u65 hr)) (pe_ix (r := rIxT K) ix_tup (pv 7) pe_int (fun _ _ => rfl)) (pv 5) (by rfl))))))
                (fun _ _ _ _ _ => pe_op op_cat (pv 4) (pe_lst (pa_cons (pv 7) pa_nil)))) pa_nil)))))))))))))
      (pss_one (ps_ret (pv 1)))), ?_⟩
    have ixs : ∀ {G : Hp} {b : Addr} {s : St5}, Dp K G (.ref b) (stD s) → ∃ u, SqT K G b [.int s.one, .int s.other, .ref u, .int s.ticks, .int s.change] := fun h => by
      obtain ⟨t, u, e, h1, _⟩ := stD_inv h
      cases e
      exact ⟨u, h1⟩
    have hul := sts_len hD
    refine ⟨Nat.zero_le _, fun Fo hFo => ?_⟩
    have y1 := Ex.new (o := .lst []) hFo
    have f1 : upd H Fo (.lst []) Fo = some (.lst []) := upd_same
    generalize upd H Fo (.lst []) = G1 at y1 f1 ⊢
    refine ⟨fun σ G => ∃ (x2 x3 x4 x5 x6 : Option V) (fs : List V) (found : List (List St5)), σ = [some (.ref g), some (.ref Fo), x2, x3, x4, x5, x6, none] ∧ Ex H G ∧ G Fo = some (.lst fs) ∧ WyL K H [Fo] G fs found ∧ (∀ w ∈ found, RgOk ss w) ∧ found.length ≤ 900000, ?_, ?_⟩
    case refine_2 =>
      rintro σ G ⟨x2, x3, x4, x5, x6, fs, found, rfl, q1, q2, q3, q4, q5⟩
      exact ⟨_, rfl, k G Fo fs found q1 hFo q2 q3 q4 q5⟩
    refine ⟨_, rfl, g, rfl, ⟨us, ex_l y1 hg⟩, fun D hD0 => ?_⟩
    refine lc_list (xs := us) (fun i G => Ex G1 G ∧ G D = some (.lst (((ss.take i).map (·.one)).map V.int))) ⟨Ex.new hD0, upd_same⟩ (fun i G _ q => ex_l (y1.trans q.1) hg) ?_ ?_
    · rintro i x G hx ⟨q1, q2⟩
      obtain ⟨s, b, hs, rfl, hb⟩ := sts_get hD hx
      have il := (List.getElem?_eq_some_iff.mp hs).1
      obtain ⟨u, p1⟩ := ixs (dp_ex (y1.trans q1) _ _ hb)
      refine ⟨rfl, _, rfl, b, _, 0, .int s.one, rfl, rfl, p1, rfl, _, q2, by rw [List.length_map, List.length_map, List.length_take]; exact sz_m (by omega), q1.mut hD0, ?_⟩
      rw [upd_same, List.take_add_one, hs, List.map_append, List.map_append]
      rfl
    rintro G2 ⟨q1, q2⟩
    rw [hul, List.take_length] at q2
    refine ⟨D, ss.map (·.one), rfl, SqL.of q2, by rw [List.length_map]; omega, fun a m ha hm => ?_⟩
    rw [List.length_map] at hm
    have y3 := Ex.new (o := SetO w a (fun j => decide (j ∈ ss.map (·.one))) m) ha
    have j3 : upd G2 a (SetO w a (fun j => decide (j ∈ ss.map (·.one))) m) a = some (SetO w a (fun j => decide (j ∈ ss.map (·.one))) m) := upd_same
    generalize upd G2 a (SetO w a (fun j => decide (j ∈ ss.map (·.one))) m) = G3 at y3 j3 ⊢
    refine ⟨a, _, m, rfl, j3, by omega, fun ns Pq so hmem hnl hPq => ?_⟩
    have y4 := Ex.new (o := .lst (ns.map V.int)) hPq
    have j4 : upd G3 Pq (.lst (ns.map V.int)) Pq = some (.lst (ns.map V.int)) := upd_same
    have e14 : Ex G1 (upd G3 Pq (.lst (ns.map V.int))) := q1.trans (y3.trans y4)
    have PF : Pq ≠ Fo := (ne_of_none ((q1.trans y3) _ _ f1) hPq).symm
    generalize upd G3 Pq (.lst (ns.map V.int)) = G4 at j4 e14 ⊢
    have hns14 : ns.length ≤ 14 := by omega
    -- what stands beside the list of what is found
    have hBF : hid Fo Fo G4 Fo = none := by
      unfold hid
      rw [if_pos (.inl rfl)]
    have hBP : hid Fo Fo G4 Pq = some (.lst (ns.map V.int)) := by
      rw [hid_ne PF PF]
      exact j4
    have eHB : Ex H (hid Fo Fo G4) := fun x o h => by
      have n := ne_of_none h hFo
      rw [hid_ne n n]
      exact (y1.trans e14) _ _ h
    have eB4 : Ex (hid Fo Fo G4) G4 := hid_ex
    have hF4 := e14 _ _ f1
    generalize hid Fo Fo G4 = B0 at hBF hBP eHB eB4
    refine ⟨Pq, rfl, ⟨_, SqL.of j4⟩, ?_⟩
    refine for_list (K := K) (a := Pq) (xs := ns.map V.int) (fun i σ G => ∃ (x2 x3 x4 x5 x6 : Option V) (fs : List V) (found : List (List St5)), σ = [some (.ref g), some (.ref Fo), x2, x3, x4, x5, x6, none] ∧ Ex B0 G ∧ G Fo = some (.lst fs) ∧ WyL K H [Fo] G fs found ∧ (∀ w ∈ found, RgOk ss w) ∧ found.length ≤ i * 16384)
      ⟨none, none, none, none, none, [], [], rfl, eB4, hF4, .nil, (fun w h => absurd h (by simp)), Nat.zero_le _⟩ (fun i σ G _ ⟨_, _, _, _, _, _, _, _, e, _⟩ => SqL.of (e _ _ hBP)) ?_ ?_
    case refine_2 =>
      rintro σ G ⟨x2, x3, x4, x5, x6, fs, found, rfl, e, q2, q3, q4, q5⟩
      rw [List.length_map] at q5
      refine ⟨x2, x3, x4, x5, x6, fs, found, rfl, eHB.trans e, q2, q3, q4, ?_⟩
      have := Nat.mul_le_mul_right 16384 hns14
      omega
    rintro it v σ G0 hv ⟨x2, x3, x4, x5, x6, fs0, found0, rfl, e0, hF0, hf0, hfo0, hfl0⟩
    obtain ⟨bg, hbg, rfl⟩ := get_ints hv
    have itl : it < 14 := by
      have := (List.getElem?_eq_some_iff.mp hbg).1
      omega
    -- the walks of one step
    refine ⟨fun σ G => ∃ (W : Addr) (qs : List V) (ways : List (List St5)), σ = [some (.ref g), some (.ref Fo), some (.int bg), some (.ref W), x4, x5, x6, none] ∧ Ex B0 G ∧ B0 W = none ∧ Fo ≠ W ∧ G Fo = some (.lst fs0) ∧ WyL K H [Fo, W] G fs0 found0 ∧ G W = some (.lst qs) ∧ WyL K H [Fo, W] G qs ways ∧ (∀ w ∈ ways, ∃ t, RWay ss bg w t) ∧ mzS ss ways ≤ 16384, ?_, ?_⟩
    · refine ⟨_, rfl, g, rfl, ⟨us, ex_l (eHB.trans e0) hg⟩, fun D hD0 => ?_⟩
      have FD : Fo ≠ D := ne_of_none hF0 hD0
      refine lc_list (xs := us) (fun i G => Ex G0 G ∧ ∃ qs ways, G D = some (.lst qs) ∧ WyL K H [Fo, D] G qs ways ∧ (∀ w ∈ ways, ∃ t, w = [] ++ [t] ∧ t.one = bg ∧ RWay ss bg w t) ∧ ways.length ≤ deg (ss.take i) bg) ⟨Ex.new hD0, [], [], upd_same, .nil, (fun w hw => absurd hw (by simp)), Nat.zero_le _⟩ (fun i G _ q => ex_l (eHB.trans (e0.trans q.1)) hg) ?_ ?_
      · rintro i x G hx ⟨q1, qs, ways, q2, q3, q4, q5⟩
        obtain ⟨s, b, hs, rfl, hb⟩ := sts_get hD hx
        have e1 := eHB.trans (e0.trans q1)
        obtain ⟨u, p1⟩ := ixs (dp_ex e1 _ _ hb)
        have tk : ss.take (i + 1) = ss.take i ++ [s] := by rw [List.take_add_one, hs]; rfl
        have dg : deg (ss.take (i + 1)) bg = deg (ss.take i) bg + (if s.one = bg then 1 else 0) := by
          unfold deg
          rw [tk, List.filter_append, List.length_append]
          by_cases z : s.one = bg
          · rw [if_pos z, List.filter_cons_of_pos (by simpa using z)]
            rfl
          · rw [if_neg z, List.filter_cons_of_neg (by simpa using z)]
            rfl
        have skip : Ex G0 G ∧ ∃ qs ways, G D = some (.lst qs) ∧ WyL K H [Fo, D] G qs ways ∧ (∀ w ∈ ways, ∃ t, w = [] ++ [t] ∧ t.one = bg ∧ RWay ss bg w t) ∧ ways.length ≤ deg (ss.take (i + 1)) bg := ⟨q1, qs, ways, q2, q3, q4, by omega⟩
        refine ⟨rfl, _, rfl, b, _, 0, .int s.one, rfl, rfl, p1, rfl, _, rfl, rfl, _, rfl, ?_⟩
        rw [dec_int]
        by_cases h1 : s.one = bg
        case neg =>
          rw [decide_eq_false h1]
          exact iteF skip
        rw [decide_eq_true h1]
        refine iteT ?_
        rw [if_pos h1] at dg
        refine ⟨_, rfl, b, _, 1, .int s.other, rfl, rfl, p1, rfl, _, rfl, _, _, rfl, rfl, _, rfl, ?_⟩
        by_cases h2 : bg ≤ s.other
        case neg =>
          rw [decide_eq_false h2]
          exact iteF skip
        rw [decide_eq_true h2]
        refine iteT ?_
        refine ⟨_, rfl, by show 1 ≤ sizeLine; decide, fun q hq => ?_⟩
        have qD : q ≠ D := (ne_of_none q2 hq).symm
        have qF : q ≠ Fo := (ne_of_none (q1 _ _ hF0) hq).symm
        have yq := Ex.new (o := .lst [V.ref b]) hq
        have hdl : deg (ss.take i) bg ≤ 14 := by
          have h1 := deg_take (ss := ss) (p := bg) i
          have h2 := deg_le (ss := ss) (p := bg)
          omega
        refine ⟨qs, yq _ _ q2, ?_, (q1.trans yq).mut hD0, qs ++ [.ref q], ways ++ [[s]], upd_same, ?_, fun w hw => ?_, by rw [List.length_append, List.length_singleton]; omega⟩
        · rw [q3.len]
          exact sz_m (by omega)
        · refine WyL.app (WyL.go (fun z o hz hz2 => ?_) q3) (.cons ⟨q, [.ref b], rfl, fresh_back e1 hq, by simp [qD, qF], ?_, .cons hb .nil⟩ .nil)
          · have : z ≠ D := fun e => hz (by rw [e]; simp)
            rw [upd_ne this]
            exact yq _ _ hz2
          · rw [upd_ne qD]
            exact upd_same
        · rcases List.mem_append.mp hw with hw | hw
          · exact q4 w hw
          · obtain rfl := List.mem_singleton.mp hw
            refine ⟨s, rfl, h1, rfl, fun x hx => (List.mem_singleton.mp hx) ▸ mem_of_get hs, by simp, ?_⟩
            by_cases h3 : s.other = bg
            · exact .inl h3
            · refine .inr fun z => h3 ?_
              have z' : s.other = s.one := by simpa using z
              rw [z', h1]
      · rintro G ⟨q1, qs, ways, q2, q3, q4, q5⟩
        rw [hul, List.take_length] at q5
        refine ⟨D, qs, ways, rfl, e0.trans q1, fresh_back e0 hD0, FD, q1 _ _ hF0, ?_, q2, q3, fun w hw => (q4 w hw).imp fun t h => h.2.2, ?_⟩
        · exact WyL.go (fun z o _ hz => q1 _ _ hz) (WyL.add hD0 hf0)
        · have h1 : mzS ss ways < mzR ss [] := mzS_lt (p := bg) (by simp) (fun w hw => (q4 w hw).imp fun t h => ⟨h.1, h.2.1⟩) q5
          have h2 : mzR ss [] ≤ 16384 := by
            unfold mzR
            rw [rest_nil]
            exact Nat.pow_le_pow_right (by decide) hsz
          omega
    rintro σ G0' ⟨W, qs0, ways0, rfl, e0', hW, nFW, hF0', hf0', hW0, hw0, hwo0, hmz0⟩
    have nFW' : W ≠ Fo := nFW.symm
    have hFo := hBF
    refine ⟨fun mm σ G => ∃ (x4 x5 x6 : Option V) (fs qs : List V) (found ways : List (List St5)), σ = [some (.ref g), some (.ref Fo), some (.int bg), some (.ref W), x4, x5, x6, none] ∧ mzS ss ways = mm ∧ Ex B0 G ∧ G Fo = some (.lst fs) ∧ G W = some (.lst qs) ∧ WyL K H [Fo, W] G fs found ∧ WyL K H [Fo, W] G qs ways ∧ (∀ w ∈ found, RgOk ss w) ∧ (∀ w ∈ ways, ∃ t, RWay ss bg w t) ∧ mzS ss ways + found.length ≤ (it + 1) * 16384,
      ⟨mzS ss ways0, _, _, _, fs0, qs0, found0, ways0, rfl, rfl, e0', hF0', hW0, hf0', hw0, hfo0, hwo0, by omega⟩, ?_⟩
    rintro mm σ G ⟨x4, x5, x6, fs, qs, found, ways, rfl, rfl, e1, hF, hQ, hf, hw, hfo, hwo, hmz⟩
    have hcap : (it + 1) * 16384 ≤ 14 * 16384 := Nat.mul_le_mul_right _ (by omega)
    refine ⟨_, rfl, Nat.zero_le _, fun l hl => ?_⟩
    have yl := Ex.new (o := .lst []) hl
    have fl : upd G l (.lst []) l = some (.lst []) := upd_same
    generalize upd G l (.lst []) = G1 at yl fl ⊢
    have keep1 : ∀ {os ws}, WyL K H [Fo, W] G os ws → WyL K H [Fo, W] G1 os ws := fun h => WyL.go (fun z o _ hz => yl _ _ hz) h
    have e2 := e1.trans yl
    refine ⟨.list (ways.map wkD), .list [], .lst (SqL.of (yl _ _ hQ)) (WyL.dpa (eHB.trans e2) (keep1 hw)), .lst (SqL.of fl) .nil, wkDs_shaped _, rfl, _, rfl, ?_⟩
    rw [eqv_wks_nil]
    have hF1 := yl _ _ hF
    have hQ1 := yl _ _ hQ
    have hf1 := keep1 hf
    have hw1 := keep1 hw
    cases hwz : ways with
    | nil => exact iteF ⟨_, _, _, _, _, fs, found, rfl, e2, hF1, WyL.sub (by simp) hf1, hfo, by omega⟩
    | cons w0 wr =>
      refine iteT ?_
      obtain ⟨ps, p, us', u, rfl, ew, hps, hp⟩ := hw1.snoc (by rw [hwz]; simp)
      rw [← hwz, ew]
      rw [ew] at hwo hmz
      obtain ⟨t, hwt⟩ := hwo u (by simp)
      have hwo' : ∀ w ∈ us', ∃ t, RWay ss bg w t := fun w hw => hwo w (by simp [hw])
      have hmzE : mzS ss (us' ++ [u]) = mzS ss us' + mzR ss u := mzS_app ss us' [u]
      rw [hmzE] at hmz
      refine ⟨fun σ G => ∃ (x4 x5 x6 : Option V) (fs qs : List V) (found ways : List (List St5)), σ = [some (.ref g), some (.ref Fo), some (.int bg), some (.ref W), x4, x5, x6, none] ∧ mzS ss ways < mzS ss (us' ++ [u]) ∧ Ex B0 G ∧ G Fo = some (.lst fs) ∧ G W = some (.lst qs) ∧ WyL K H [Fo, W] G fs found ∧ WyL K H [Fo, W] G qs ways ∧ (∀ w ∈ found, RgOk ss w) ∧ (∀ w ∈ ways, ∃ t, RWay ss bg w t) ∧ mzS ss ways + found.length ≤ (it + 1) * 16384, ?_, ?_⟩
      · rintro σ' G' ⟨x4, x5, x6, fs, qs, found, ways, e, lt, r⟩
        exact ⟨mzS ss ways, lt, x4, x5, x6, fs, qs, found, ways, e, rfl, r⟩
      -- pop
      refine ⟨_, rfl, .inl ⟨rfl, _, SqL.of hQ1⟩, W, _, p, rfl, rfl, hQ1, by simp, ?_⟩
      rw [List.dropLast_concat]
      obtain ⟨q, xs, rfl, hq0, hqX, hq, hqd⟩ := hp
      have qF : q ≠ Fo := fun e => hqX (by rw [e]; simp)
      have qW : q ≠ W := fun e => hqX (by rw [e]; simp)
      have e3 : Ex B0 (upd G1 W (.lst ps)) := e2.mut hW
      have hF2 : upd G1 W (.lst ps) Fo = some (.lst fs) := by rw [upd_ne nFW]; exact hF1
      have hW2 : upd G1 W (.lst ps) W = some (.lst ps) := upd_same
      have keep2 : ∀ {os ws}, WyL K H [Fo, W] G1 os ws → WyL K H [Fo, W] (upd G1 W (.lst ps)) os ws := fun h => WyL.go (fun z o hz hz2 => by
        have : z ≠ W := fun e => hz (by rw [e]; simp)
        rw [upd_ne this]
        exact hz2) h
      have hf2 := keep2 hf1
      have hw2 := keep2 hps
      have hq2 : upd G1 W (.lst ps) q = some (.lst xs) := by rw [upd_ne qW]; exact hq
      generalize upd G1 W (.lst ps) = G2 at e3 hF2 hW2 hf2 hw2 hq2 ⊢
      obtain ⟨tb, htb, htD⟩ := last_at hqd hwt.last
      have lastI : ∀ {G : Hp}, Ex G2 G → ∃ u', SqT K G tb [.int t.one, .int t.other, .ref u', .int t.ticks, .int t.change] := fun e => ixs (dp_ex (eHB.trans (e3.trans e)) _ _ htD)
      obtain ⟨tu, htu⟩ := lastI (Ex.refl G2)
      have hrg := hwt.ok hc6 hok
      have ul := hrg.len
      have hml := mzS_len ss us'
      refine ⟨_, rfl, _, rfl, q, _, (-1 : Int), _, rfl, rfl, SqL.of hq2, htb, tb, _, 1, .int t.other, rfl, rfl, htu, rfl, _, rfl, rfl, _, rfl, ?_⟩
      rw [dec_int]
      by_cases hte : t.other = bg
      · rw [decide_eq_true hte]
        refine iteT ?_
        refine ⟨_, rfl, .inl ⟨rfl, _, SqL.of hF2⟩, _, rfl, Fo, fs, _, rfl, rfl, hF2, ?_, ?_⟩
        · rw [hf2.len]
          exact sz_m (by omega)
        · have kp : ∀ {os ws}, WyL K H [Fo, W] G2 os ws → WyL K H [Fo, W] (upd G2 Fo (.lst (fs ++ [.ref q]))) os ws := fun h => WyL.go (fun z o hz hz2 => by
            have : z ≠ Fo := fun e => hz (by rw [e]; simp)
            rw [upd_ne this]
            exact hz2) h
          refine ⟨_, _, _, fs ++ [.ref q], ps, found ++ [u], us', rfl, ?_, e3.mut hFo, upd_same, by rw [upd_ne nFW']; exact hW2, WyL.app (kp hf2) (.cons ⟨q, xs, rfl, hq0, hqX, by rw [upd_ne qF]; exact hq2, hqd⟩ .nil), kp hw2, fun w hw => ?_, hwo', ?_⟩
          · have := mzR_pos ss u
            omega
          · rcases List.mem_append.mp hw with hw | hw
            · exact hfo w hw
            · obtain rfl := List.mem_singleton.mp hw
              exact hrg
          · have := mzR_pos ss u
            rw [List.length_append, List.length_singleton]
            omega
      rw [decide_eq_false hte]
      refine iteF ?_
      have hnx := hwt.nx.resolve_left hte
      -- met
      refine ⟨_, rfl, q, rfl, ⟨_, SqL.of hq2⟩, fun D hD0 => ?_⟩
      refine lc_list (xs := xs) (fun i G => Ex G2 G ∧ G D = some (.lst (((u.take i).map (·.one)).map V.int))) ⟨Ex.new hD0, upd_same⟩ (fun i G _ q' => SqL.of (q'.1 _ _ hq2)) ?_ ?_
      · rintro i x G hx ⟨q1, q2⟩
        obtain ⟨s, b, hs, rfl, hb⟩ := sts_get hqd hx
        have il := (List.getElem?_eq_some_iff.mp hs).1
        obtain ⟨_, p1⟩ := ixs (dp_ex (eHB.trans (e3.trans q1)) _ _ hb)
        refine ⟨rfl, _, rfl, b, _, 0, .int s.one, rfl, rfl, p1, rfl, _, q2, ?_, q1.mut hD0, ?_⟩
        · rw [List.length_map, List.length_map, List.length_take]
          exact sz_m (by omega)
        · rw [upd_same, List.take_add_one, hs, List.map_append, List.map_append]
          rfl
      rintro G3 ⟨y3, hD3⟩
      rw [sts_len hqd, List.take_length] at hD3
      obtain ⟨_, htu3⟩ := lastI y3
      refine ⟨_, rfl, _, rfl, q, _, (-1 : Int), _, rfl, rfl, SqL.of (y3 _ _ hq2), htb, tb, _, 1, .int t.other, rfl, rfl, htu3, rfl, by show 1 ≤ sizeLine; decide, fun l1 hl1 => ?_⟩
      have y4 := Ex.new (o := .lst [V.int t.other]) hl1
      have f4 : upd G3 l1 (.lst [V.int t.other]) l1 = some (.lst [V.int t.other]) := upd_same
      generalize upd G3 l1 (.lst [V.int t.other]) = G4 at y4 f4 ⊢
      refine ⟨D, l1, _, _, rfl, rfl, y4 _ _ hD3, f4, sz_le (by rw [List.length_map, List.length_map]; show _ + 1 ≤ _; omega), fun M hM => ?_⟩
      have em : (u.map (·.one)).map V.int ++ [V.int t.other] = (metL u t).map V.int := by
        unfold metL
        rw [List.map_append]
        rfl
      rw [em]
      have y5 := Ex.new (o := .lst ((metL u t).map V.int)) hM
      have f5 : upd G4 M (.lst ((metL u t).map V.int)) M = some (.lst ((metL u t).map V.int)) := upd_same
      generalize upd G4 M (.lst ((metL u t).map V.int)) = G5 at y5 f5 ⊢
      have y25 := y3.trans (y4.trans y5)
      have e5 := e3.trans y25
      -- more
      refine ⟨_, rfl, g, rfl, ⟨us, ex_l (eHB.trans e5) hg⟩, fun D2 hD2 => ?_⟩
      refine lc_list (xs := us) (fun i G => Ex G5 G ∧ ∃ ys ms, G D2 = some (.lst ys) ∧ DpAll K H ys (List.map stD ms) ∧ (∀ s ∈ ms, s ∈ ss ∧ s.one = t.other) ∧ ms.length ≤ deg (ss.take i) t.other) ⟨Ex.new hD2, [], [], upd_same, .nil, (fun w hw => absurd hw (by simp)), Nat.zero_le _⟩ (fun i G _ q' => ex_l (eHB.trans (e5.trans q'.1)) hg) ?_ ?_
      · rintro i x G hx ⟨q1, ys, ms, q2, q3, q4, q5⟩
        obtain ⟨s, b, hs, rfl, hb⟩ := sts_get hD hx
        obtain ⟨_, p1⟩ := ixs (dp_ex (eHB.trans (e5.trans q1)) _ _ hb)
        obtain ⟨_, htu5⟩ := lastI (y25.trans q1)
        have hqG := (y25.trans q1) _ _ hq2
        have tk : ss.take (i + 1) = ss.take i ++ [s] := by rw [List.take_add_one, hs]; rfl
        have dg : deg (ss.take (i + 1)) t.other = deg (ss.take i) t.other + (if s.one = t.other then 1 else 0) := by
          unfold deg
          rw [tk, List.filter_append, List.length_append]
          by_cases z : s.one = t.other
          · rw [if_pos z, List.filter_cons_of_pos (by simpa using z)]
            rfl
          · rw [if_neg z, List.filter_cons_of_neg (by simpa using z)]
            rfl
        have skip : Ex G5 G ∧ ∃ ys ms, G D2 = some (.lst ys) ∧ DpAll K H ys (List.map stD ms) ∧ (∀ s ∈ ms, s ∈ ss ∧ s.one = t.other) ∧ ms.length ≤ deg (ss.take (i + 1)) t.other := ⟨q1, ys, ms, q2, q3, q4, by omega⟩
        refine ⟨rfl, _, rfl, b, _, 0, .int s.one, rfl, rfl, p1, rfl, _, rfl, _, rfl, q, _, (-1 : Int), _, rfl, rfl, SqL.of hqG, htb, tb, _, 1, .int t.other, rfl, rfl, htu5, rfl, rfl, _, rfl, ?_⟩
        rw [dec_int]
        by_cases h1 : s.one = t.other
        case neg =>
          rw [decide_eq_false h1]
          exact iteF skip
        rw [decide_eq_true h1]
        refine iteT ?_
        rw [if_pos h1] at dg
        refine ⟨_, rfl, b, _, 1, .int s.other, rfl, rfl, p1, rfl, _, rfl, _, _, rfl, rfl, _, rfl, ?_⟩
        by_cases h2 : bg ≤ s.other
        case neg =>
          rw [decide_eq_false h2]
          exact iteF skip
        rw [decide_eq_true h2]
        refine iteT ?_
        have hyl := sts_len q3
        have hdl : deg (ss.take i) t.other ≤ 14 := by
          have h1 := deg_take (ss := ss) (p := t.other) i
          have h2 := deg_le (ss := ss) (p := t.other)
          omega
        refine ⟨_, rfl, ys, q2, sz_m (by omega), q1.mut hD2, ys ++ [.ref b], ms ++ [s], upd_same, by rw [List.map_append]; exact dpa_app q3 (.cons hb .nil), fun z hz => ?_, by rw [List.length_append, List.length_singleton]; omega⟩
        rcases List.mem_append.mp hz with hz | hz
        · exact q4 z hz
        · rw [List.mem_singleton.mp hz]
          exact ⟨mem_of_get hs, h1⟩
      rintro G6 ⟨y6, ys, ms, hD26, hms, hmo, hmd⟩
      rw [hul, List.take_length] at hmd
      have hyl := sts_len hms
      have hdl := deg_le (ss := ss) (p := t.other)
      have y26 := y25.trans y6
      have e6 := e5.trans y6
      have f6 := y6 _ _ f5
      -- what goes on
      refine ⟨_, rfl, .inl ⟨rfl, _, SqL.of (y26 _ _ hW2)⟩, _, rfl, D2, rfl, ⟨ys, SqL.of hD26⟩, fun D3 hD3 => ?_⟩
      have D3F : D3 ≠ Fo := (ne_of_none (y26 _ _ hF2) hD3).symm
      have D3W : D3 ≠ W := (ne_of_none (y26 _ _ hW2) hD3).symm
      refine lc_list (xs := ys) (fun i G => Ex G6 G ∧ ∃ acc news, G D3 = some (.lst acc) ∧ WyL K H [Fo, W, D3] G acc news ∧ (∀ w ∈ news, ∃ s, w = u ++ [s] ∧ s.one = t.other ∧ RWay ss bg w s) ∧ news.length ≤ i) ⟨Ex.new hD3, [], [], upd_same, .nil, (fun w hw => absurd hw (by simp)), Nat.le_refl _⟩ (fun i G _ q' => SqL.of (q'.1 _ _ hD26)) ?_ ?_
      · rintro i x G hx ⟨q1, acc, news, q2, q3, q4, q5⟩
        have il := (List.getElem?_eq_some_iff.mp hx).1
        obtain ⟨s, b, hs, rfl, hb⟩ := sts_get hms hx
        obtain ⟨hss, hso⟩ := hmo s (mem_of_get hs)
        obtain ⟨_, p1⟩ := ixs (dp_ex (eHB.trans (e6.trans q1)) _ _ hb)
        have hqG := (y26.trans q1) _ _ hq2
        have put : (s.other = bg ∨ s.other ∉ metL u t) → tOp rCat (tVar 4) (tLst (tCons (tVar 7) tNil)) ([some (V.ref g), some (V.ref Fo), some (V.int bg), some (V.ref W), some (V.ref q), some (V.ref M), some (V.ref D2), some (V.ref b)]) G fun y H4 => ∃ acc, H4 D3 = some (HO.lst acc) ∧ acc.length < sizeLine ∧ Ex G6 (upd H4 D3 (HO.lst (acc ++ [y]))) ∧ ∃ acc_1 news, upd H4 D3 (HO.lst (acc ++ [y])) D3 = some (HO.lst acc_1) ∧ WyL K H [Fo, W, D3] (upd H4 D3 (HO.lst (acc ++ [y]))) acc_1 news ∧ (∀ w ∈ news, ∃ s, w = u ++ [s] ∧ s.one = t.other ∧ RWay ss bg w s) ∧ news.length ≤ i + 1 := fun h2 => by
          refine ⟨_, rfl, _, rfl, by show 1 ≤ sizeLine; decide, fun l2 hl2 => ?_⟩
          have z1 := Ex.new (o := .lst [V.ref b]) hl2
          have g1 : upd G l2 (.lst [V.ref b]) l2 = some (.lst [V.ref b]) := upd_same
          generalize upd G l2 (.lst [V.ref b]) = G7 at z1 g1 ⊢
          have hxl := sts_len hqd
          refine ⟨q, l2, xs, _, rfl, rfl, z1 _ _ hqG, g1, sz_le (by show _ + 1 ≤ _; omega), fun q' hq' => ?_⟩
          have z2 := Ex.new (o := .lst (xs ++ [V.ref b])) hq'
          have z12 := z1.trans z2
          have q'D : q' ≠ D3 := (ne_of_none (z1 _ _ q2) hq').symm
          have q'F : q' ≠ Fo := (ne_of_none ((y26.trans (q1.trans z1)) _ _ hF2) hq').symm
          have q'W : q' ≠ W := (ne_of_none ((y26.trans (q1.trans z1)) _ _ hW2) hq').symm
          refine ⟨acc, z12 _ _ q2, ?_, (q1.trans z12).mut hD3, acc ++ [.ref q'], news ++ [u ++ [s]], upd_same, ?_, fun w hw => ?_, by rw [List.length_append]; exact Nat.succ_le_succ q5⟩
          · rw [q3.len]
            exact sz_m (by omega)
          · refine WyL.app (WyL.go (fun z o hz hz2 => ?_) q3) (.cons ⟨q', xs ++ [.ref b], rfl, fresh_back (eHB.trans (e6.trans (q1.trans z1))) hq', by simp [q'D, q'F, q'W], ?_, ?_⟩ .nil)
            · have : z ≠ D3 := fun e => hz (by rw [e]; simp)
              rw [upd_ne this]
              exact z12 _ _ hz2
            · rw [upd_ne q'D]
              exact upd_same
            · rw [List.map_append]
              exact dpa_app hqd (.cons hb .nil)
          · rcases List.mem_append.mp hw with hw | hw
            · exact q4 w hw
            · obtain rfl := List.mem_singleton.mp hw
              exact ⟨s, rfl, hso, hwt.more hte hss hso h2⟩
        refine ⟨rfl, _, rfl, b, _, 1, .int s.other, rfl, rfl, p1, rfl, _, rfl, rfl, _, rfl, ?_⟩
        rw [dec_int]
        by_cases h1 : s.other = bg
        · rw [decide_eq_true h1]
          exact iteT (put (.inl h1))
        rw [decide_eq_false h1]
        refine iteF ?_
        refine ⟨_, rfl, b, _, 1, .int s.other, rfl, rfl, p1, rfl, _, rfl, .int s.other, (metL u t).map PyData.int, .int _, .lst (SqL.of (q1 _ _ f6)) (dp_ints _), rfl, shaped_ints _, _, rfl, ?_⟩
        rw [any_int]
        by_cases h2 : s.other ∈ metL u t
        · rw [decide_eq_true h2]
          exact ⟨q1, acc, news, q2, q3, q4, by omega⟩
        rw [decide_eq_false h2]
        exact put (.inr h2)
      rintro G7 ⟨y7, acc, news, hD7, hn7, hno, hnl⟩
      have y27 := y26.trans y7
      have hW7 := y27 _ _ hW2
      have hpl := hw2.len
      refine ⟨W, D3, ps, acc, rfl, rfl, hW7, hD7, ?_, ?_⟩
      · rw [hpl, hn7.len]
        exact sz_le (by omega)
      have kp : ∀ {os ws}, WyL K H [Fo, W] G7 os ws → WyL K H [Fo, W] (upd G7 W (.lst (ps ++ acc))) os ws := fun h => WyL.go (fun z o hz hz2 => by
        have : z ≠ W := fun e => hz (by rw [e]; simp)
        rw [upd_ne this]
        exact hz2) h
      have k27 : ∀ {os ws}, WyL K H [Fo, W] G2 os ws → WyL K H [Fo, W] G7 os ws := fun h => WyL.go (fun z o _ hz2 => y27 _ _ hz2) h
      have hlt : mzS ss news < mzR ss u := mzS_lt (p := t.other) hnx (fun w hw => (hno w hw).imp fun s h => ⟨h.1, h.2.1⟩) (by omega)
      refine ⟨_, _, _, fs, ps ++ acc, found, us' ++ news, rfl, ?_, (e3.trans y27).mut hW, by rw [upd_ne nFW]; exact y27 _ _ hF2, upd_same, kp (k27 hf2), kp (WyL.app (k27 hw2) (WyL.sub (by simp) hn7)), hfo, fun w hw => ?_, ?_⟩
      · rw [mzS_app]
        omega
      · rcases List.mem_append.mp hw with hw | hw
        · exact hwo' w hw
        · obtain ⟨s, _, _, h⟩ := hno w hw
          exact ⟨s, h⟩
      · rw [mzS_app]
        omega
end
end AA

set_option Elab.async false
set_option linter.all false
set_option maxRecDepth 100000
set_option maxHeartbeats 4000000
/-! _law_walk_of. -/
namespace AA
open PySem PySem.Spec PyProof.Rows L2 Evl
theorem dok_items {d : PyData} (h : dOk d = true) (l : isListD d = true) : (itemsD d).length ≤ 1000000 ∧ dOkA (itemsD d) = true := by
  cases d with
  | list xs =>
    have h : (decide (xs.length ≤ 1000000) && dOkA xs) = true := h
    rw [Bool.and_eq_true] at h
    exact ⟨of_decide_eq_true h.1, h.2⟩
  | tuple xs =>
    have h : (decide (xs.length ≤ 1000000) && dOkA xs) = true := h
    rw [Bool.and_eq_true] at h
    exact ⟨of_decide_eq_true h.1, h.2⟩
  | _ => cases l
theorem doka_get : ∀ {ds : List PyData} {i : Nat} {d : PyData}, dOkA ds = true → ds[i]? = some d → dOk d = true
  | [], _, _, _, e => by simp at e
  | x :: xs, 0, d, h, e => by
    cases (Option.some.inj e)
    exact (Bool.and_eq_true_iff.mp (show (dOk x && dOkA xs) = true from h)).1
  | x :: xs, i + 1, d, h, e => doka_get (i := i) (Bool.and_eq_true_iff.mp (show (dOk x && dOkA xs) = true from h)).2 e
/-- the walk that things make, by the law -/
def lwGo (ss : List St5) : List PyData → List St5 → Option (List St5)
  | [], acc => some acc
  | d :: r, acc => match stepOf d with
    | none => none
    | some s => if s ∈ ss then (match acc.getLast? with
      | none => lwGo ss r (acc ++ [s])
      | some t => if t.other = s.one then lwGo ss r (acc ++ [s]) else none) else none
theorem lw_rd {n : Int} {ss : List St5} (hok : ∀ s ∈ ss, StOk n s) : ∀ (ds : List PyData) (acc : List St5), rdWalk n ss ds acc = lwGo ss ds acc
  | [], _ => rfl
  | d :: r, acc => by
    unfold rdWalk lwGo
    cases hs : stepOf d with
    | none => rw [rd_no hs]
    | some s =>
      rw [rd_so hs]
      by_cases hm : s ∈ ss
      · have o := hok s hm
        rw [if_pos ⟨o.o0, o.o1, o.t0, o.t1, o.k⟩]
        simp only [if_pos hm]
        cases acc.getLast? with
        | none => exact lw_rd hok r _
        | some t =>
          show (if t.other = s.one then rdWalk n ss r (acc ++ [s]) else none) = (if t.other = s.one then lwGo ss r (acc ++ [s]) else none)
          rw [lw_rd hok r]
      · simp only [if_neg hm]
        by_cases q : 0 ≤ s.one ∧ s.one < n ∧ 0 ≤ s.other ∧ s.other < n ∧ 1 ≤ s.ticks
        · rw [if_pos q]
          simp only [if_neg hm]
        · rw [if_neg q]
theorem lw_sub {ss : List St5} : ∀ {ds : List PyData} {acc ws : List St5}, lwGo ss ds acc = some ws → (∀ s ∈ acc, s ∈ ss) → ∀ s ∈ ws, s ∈ ss
  | [], acc, ws, h, ha => by
    cases (show some acc = some ws from h)
    exact ha
  | d :: r, acc, ws, h, ha => by
    unfold lwGo at h
    cases hs : stepOf d with
    | none => rw [hs] at h; cases h
    | some s =>
      rw [hs] at h
      by_cases hm : s ∈ ss
      · simp only [if_pos hm] at h
        have ha' : ∀ z ∈ acc ++ [s], z ∈ ss := fun z hz => (List.mem_append.mp hz).elim (ha z) fun y => by rw [List.mem_singleton.mp y]; exact hm
        cases e : acc.getLast? with
        | none =>
          rw [e] at h
          exact lw_sub h ha'
        | some t =>
          rw [e] at h
          have h : (if t.other = s.one then lwGo ss r (acc ++ [s]) else none) = some ws := h
          by_cases q : t.other = s.one
          · rw [if_pos q] at h
            exact lw_sub h ha'
          · rw [if_neg q] at h
            cases h
      · simp only [if_neg hm] at h
        cases h
theorem lw_len {ss : List St5} : ∀ {ds : List PyData} {acc ws : List St5}, lwGo ss ds acc = some ws → ws.length = acc.length + ds.length
  | [], acc, ws, h => by
    cases (show some acc = some ws from h)
    rfl
  | d :: r, acc, ws, h => by
    unfold lwGo at h
    cases hs : stepOf d with
    | none => rw [hs] at h; cases h
    | some s =>
      rw [hs] at h
      have fin : lwGo ss r (acc ++ [s]) = some ws → ws.length = acc.length + (d :: r).length := fun z => by
        have := lw_len z
        rw [List.length_append, List.length_singleton] at this
        rw [List.length_cons]
        omega
      by_cases hm : s ∈ ss
      · simp only [if_pos hm] at h
        cases e : acc.getLast? with
        | none =>
          rw [e] at h
          exact fin h
        | some t =>
          rw [e] at h
          have h : (if t.other = s.one then lwGo ss r (acc ++ [s]) else none) = some ws := h
          by_cases q : t.other = s.one
          · rw [if_pos q] at h
            exact fin h
          · rw [if_neg q] at h
            cases h
      · simp only [if_neg hm] at h
        cases h
/-- each step begins where the one ahead ends -/
def Lnk : List St5 → Prop
  | s :: t :: r => s.other = t.one ∧ Lnk (t :: r)
  | _ => True
theorem lnk_snoc : ∀ {ws : List St5} {s t : St5}, Lnk ws → ws.getLast? = some t → t.other = s.one → Lnk (ws ++ [s])
  | [], _, _, _, h, _ => by cases h
  | [x], s, t, _, h, e => by
    cases (show some x = some t from h)
    exact ⟨e, True.intro⟩
  | x :: y :: r, s, t, h, hl, e => ⟨h.1, lnk_snoc (ws := y :: r) h.2 (by rw [List.getLast?_cons_cons] at hl; exact hl) e⟩
theorem lw_lnk {ss : List St5} : ∀ {ds : List PyData} {acc ws : List St5}, lwGo ss ds acc = some ws → Lnk acc → Lnk ws
  | [], acc, ws, h, ha => by
    cases (show some acc = some ws from h)
    exact ha
  | d :: r, acc, ws, h, ha => by
    unfold lwGo at h
    cases hs : stepOf d with
    | none => rw [hs] at h; cases h
    | some s =>
      rw [hs] at h
      by_cases hm : s ∈ ss
      · simp only [if_pos hm] at h
        cases e : acc.getLast? with
        | none =>
          rw [e] at h
          have : acc = [] := List.getLast?_eq_none_iff.mp e
          subst this
          exact lw_lnk (acc := [s]) h True.intro
        | some t =>
          rw [e] at h
          have h : (if t.other = s.one then lwGo ss r (acc ++ [s]) else none) = some ws := h
          by_cases q : t.other = s.one
          · rw [if_pos q] at h
            exact lw_lnk h (lnk_snoc ha e q)
          · rw [if_neg q] at h
            cases h
      · simp only [if_neg hm] at h
        cases h
/-- what the law reads of a thing -/
def lawW (ss : List St5) (d : PyData) : Option (List St5) := if isListD d = true then lwGo ss (itemsD d) [] else none
def LwR (K : PySem.W.Frag) (H0 H : Hp) (L : Addr) : Option (List St5) → Prop
  | none => H L = some (.lst [])
  | some ws => ∃ q ys, H L = some (.lst [.ref q]) ∧ H q = some (.lst ys) ∧ DpAll K H ys (ws.map stD) ∧ H0 q = none
theorem rd_ne {G : Hp} {p t : Addr} {xs : List V} {o : HO} (h : Rd G t (.tup xs)) (ys : List V) (hp : G p = some (.lst ys)) : Rd (L2.upd G p o) t (.tup xs) := by
  have n : t ≠ p := fun z => by
    rw [z] at h
    rcases h with h | ⟨o, h⟩ <;> rw [hp] at h <;> cases h
  rcases h with h | ⟨o, h⟩
  · exact .inl (by rw [upd_ne n]; exact h)
  · exact .inr ⟨o, by rw [upd_ne n]; exact h⟩
theorem sqt_ne {K : PySem.W.Frag} {G : Hp} {p t : Addr} {xs ys : List V} {o : HO} (h : SqT K G t xs) (hp : G p = some (.lst ys)) : SqT K (L2.upd G p o) t xs := h.imp (fun z => rd_ne z ys hp) id
theorem st_ne {K : PySem.W.Frag} {G : Hp} {p : Addr} {v : V} {s : St5} {ys : List V} {o : HO} (h : Dp K G v (stD s)) (hp : G p = some (.lst ys)) : Dp K (L2.upd G p o) v (stD s) := by
  obtain ⟨t, u, rfl, h1, h2⟩ := stD_inv h
  exact stD_mk (sqt_ne h1 hp) (sqt_ne h2 hp)
theorem sts_ne {K : PySem.W.Frag} {G : Hp} {p : Addr} {ys : List V} {o : HO} (hp : G p = some (.lst ys)) : ∀ {vs : List V} {ss : List St5}, DpAll K G vs (ss.map stD) → DpAll K (L2.upd G p o) vs (ss.map stD)
  | _, [], h => by
    cases h
    exact .nil
  | _, s :: ss, h => by
    cases h with
    | cons h1 h2 => exact .cons (st_ne h1 hp) (sts_ne hp h2)
section
variable {P : Program} {w : World} {K : PySem.W.Frag} {mg : Str → Option Value} {base : Heap}
def spLWalk (K : PySem.W.Frag) : Sp := fun vs H Q _ => ∃ (g : Addr) (us : List V) (ss : List St5) (v : V), vs = [.ref g, v] ∧ SqL K H g us ∧ DpAll K H us (ss.map stD) ∧
  ((Lk K H v false ∧ ∀ H' L, Ex H H' → H L = none → H' L = some (.lst []) → Q (.ref L) H') ∨ ∃ d, Dp K H v d ∧ dOk d = true ∧ ∀ H' L, Ex H H' → H L = none → LwR K H H' L (lawW ss d) → Q (.ref L) H')
abbrev nmLW : List Str := ["_law_steps", "_law_thing", "_law_found", "_law_part", "_law_step_here"]
theorem scLW : FnScope nmLW ["_law_steps", "_law_thing"] (defScope sWalkOf) := ⟨rfl, rfl, rfl, by decide +kernel, rfl, by decide +kernel, by decide +kernel⟩
theorem ok_lwalk {f : Addr} {fd : FuncData} (F : L2.Fun K "_law_walk_of" "_law_walk_of" sWalkOf f fd) (T : Bn mg) (cS : C8.Cal P w K mg base 2 "_law_step_of" (spStepOf K) []) : FnOk P w K mg base CX0 3 f fd ["_law_steps", "_law_thing"] (spLWalk K) := by
  refine F.ok scLW (fun vs H Q E h => ?_) (fun cdv A outer s H vs Q E hr h => ?_)
  · obtain ⟨g, us, ss, v, rfl, _⟩ := h
    rfl
  · obtain ⟨g, us, ss, v, rfl, hg, hD, h⟩ := h
    refine ⟨_, pss_cons (ps_if (pt_not (pt_val (pe_callB call_isN (by rfl) T.isinstance boot_isinstance (pa_cons (pv 1) (pa_cons (pe_tup (pa_cons (pe_bltn (v := .ty "list") (by rfl) T.list boot_list rfl) (pa_cons (pe_bltn (v := .ty "tuple") (by rfl) T.tuple boot_tuple rfl) pa_nil))) pa_nil)))))
        (pss_one (ps_ret (pe_lst pa_nil))) pss_nil)
      (pss_cons (ps_set (i := 2) scLW.nd rfl (Or.inl rfl) (pe_lst pa_nil))
      (pss_cons (ps_for PassesOwn.never rfl (pi_or (pi_list (pv 1)) (pi_tup (pv 1))) (pg_name (i := 3) scLW.nd rfl (Or.inl rfl))
        (pss_cons (ps_set (i := 4) scLW.nd rfl (Or.inl rfl) (C8.pe_c cS hr (by decide) (by rfl) (pa_cons (pv 3) pa_nil)))
        (pss_cons (ps_if (PW.pt (pw_or (pt_cmpR (op_eqD hr.units) (pv 4) (pe_lst pa_nil) (nomark _)) (pw_or (pt_cmpR (op_notInD (Room.u65 hr)) (pe_ix ix_list (pv 4) pe_int (fun _ _ => rfl)) (pv 0) (by rfl))
            (pw_or1 (PW.pt (pw_and (pt_cmpR (op_neD hr.units) (pv 2) (pe_lst pa_nil) (nomark _)) (pw_and1 (pt_cmpR op_ne (pe_ix ix_tup (pe_ix ix_list (pv 2) (pe_un un_neg pe_int) (fun _ _ => rfl)) pe_int (fun _ _ => rfl)) (pe_ix ix_tup (pe_ix ix_list (pv 4) pe_int (fun _ _ => rfl)) pe_int (fun _ _ => rfl)) (nomark _)))))))))
          (pss_one (ps_ret (pe_lst pa_nil))) pss_nil)
        (pss_one (ps_expr (pe_bm PySem.F.plainAttrs_list PySem.F.slot_list_extend PySem.F.type_list_extend mt_extend (pv 2) (pa_cons (pv 4) pa_nil)))))))
      (pss_one (ps_ret (pe_lst (pa_cons (pv 2) pa_nil)))))), ?_⟩
    refine ⟨_, rfl, by show 2 ≤ sizeLine; decide, fun p hp => ?_⟩
    have e1 := Ex.new (o := .tup [.ty "list", .ty "tuple"]) hp
    rcases h with ⟨⟨t, hty, hk⟩, k⟩ | ⟨d, hd, hok, k⟩
    · refine ⟨v, p, _, t, [.type "list", .type "tuple"], false, rfl, upd_same, .cons (.ty _) (.cons (.ty _) .nil), hty _ (nt_le.trans e1), hk, _, rfl, ?_⟩
      exact iteT ⟨Nat.zero_le _, fun L hL => k _ L (e1.trans (Ex.new hL)) (fresh_back e1 hL) upd_same⟩
    refine ⟨v, p, _, _, [.type "list", .type "tuple"], isListD d, rfl, upd_same, .cons (.ty _) (.cons (.ty _) .nil), ty_dp (dp_ex e1 _ _ hd), kd_seq d, _, rfl, ?_⟩
    generalize upd H p (.tup [.ty "list", .ty "tuple"]) = G1 at e1 ⊢
    have kn : lawW ss d = none → ∀ {G : Hp}, Ex H G → ∀ L, G L = none → Q (.ref L) (upd G L (.lst [])) := fun z G e L hL => k _ L (e.trans (Ex.new hL)) (fresh_back e hL) (by rw [z]; exact upd_same)
    by_cases hl : isListD d = true
    case neg =>
      have hf : isListD d = false := by simpa using hl
      rw [hf]
      refine iteT ⟨Nat.zero_le _, fun L hL => kn ?_ e1 L hL⟩
      unfold lawW
      rw [if_neg hl]
    rw [hl]
    refine iteF ?_
    obtain ⟨c, xs, ds, rfl, hX, hs⟩ := dp_seq hd hl
    have hlen := dpa_len hX
    have hit : itemsD d = ds := by
      rcases hs with ⟨rfl, _⟩ | ⟨rfl, _⟩ <;> rfl
    obtain ⟨hz, hokA⟩ := dok_items hok hl
    have hkb : lawW ss d = lwGo ss ds [] := by
      unfold lawW
      rw [if_pos hl, hit]
    rw [hit] at hz hokA
    rw [hkb] at k kn
    have hS : SqL K H c xs ∨ SqT K H c xs := hs.imp And.right And.right
    refine ⟨Nat.zero_le _, fun Fo hFo1 => ?_⟩
    have hFo := fresh_back e1 hFo1
    have e2 := e1.trans (Ex.new (o := .lst []) hFo1)
    have f2 : upd G1 Fo (.lst []) Fo = some (.lst []) := upd_same
    generalize upd G1 Fo (.lst []) = G2 at e2 f2 ⊢
    refine Or.imp (fun z => ⟨_, rfl, c, rfl, z.1, z.2⟩) (fun z => ⟨_, rfl, c, rfl, z.1, z.2⟩) (for_seqA (K := K) (a := c) (xs := xs) (H0 := H) hS
      (fun i σ G => ∃ (x3 x4 : Option V) (ts : List St5) (ys : List V), σ = [some (.ref g), some (.ref c), some (.ref Fo), x3, x4] ∧ Ex H G ∧ G Fo = some (.lst ys) ∧ DpAll K G ys (ts.map stD) ∧ lwGo ss ds [] = lwGo ss (ds.drop i) ts ∧ ts.length ≤ i) ?_ ?_ ?_ ?_)
    · exact ⟨none, none, [], [], rfl, e2, f2, .nil, by rw [List.drop_zero], Nat.le_refl _⟩
    · rintro i σ G ⟨x3, x4, ts, ys, rfl, q1, _⟩
      exact q1
    · rintro i x σ G hx ⟨x3, x4, ts, ys, rfl, q1, qF, qD, q2, qn⟩
      have il := (List.getElem?_eq_some_iff.mp hx).1
      obtain ⟨di, hdi, hxd⟩ := dpa_get hX hx
      rw [drop_get hdi] at q2
      have hyl := sts_len qD
      refine ⟨_, rfl, x, di, rfl, dp_ex q1 _ _ hxd, doka_get hokA hdi, fun G2 L e2 hL0 hso => ?_⟩
      have e02 := q1.trans e2
      cases hst : stepOf di with
      | none =>
        rw [hst] at hso
        have q3 : lwGo ss ds [] = none := by
          rw [q2]
          unfold lwGo
          rw [hst]
        have hso : G2 L = some (.lst []) := hso
        refine ⟨_, rfl, Nat.zero_le _, fun l2 hl2 => ?_⟩
        have e3 := Ex.new (o := .lst []) hl2
        refine ⟨.list [], .list [], .lst (SqL.of (e3 _ _ hso)) .nil, .lst (SqL.of upd_same) .nil, rfl, rfl, _, rfl, ?_⟩
        exact iteT (iteT ⟨Nat.zero_le _, fun L hL => kn q3 (e02.trans e3) L hL⟩)
      | some s =>
        rw [hst] at hso
        have q3 : lwGo ss ds [] = if s ∈ ss then (match ts.getLast? with | none => lwGo ss (ds.drop (i + 1)) (ts ++ [s]) | some t => if t.other = s.one then lwGo ss (ds.drop (i + 1)) (ts ++ [s]) else none) else none := by
          rw [q2]
          conv => lhs; unfold lwGo
          rw [hst]
        obtain ⟨t, hL, ht⟩ := hso
        refine ⟨_, rfl, Nat.zero_le _, fun l2 hl2 => ?_⟩
        have e3 := Ex.new (o := .lst []) hl2
        refine ⟨.list [stD s], .list [], .lst (SqL.of (e3 _ _ hL)) (.cons (dp_ex e3 _ _ ht) .nil), .lst (SqL.of upd_same) .nil, stDs_shaped [s], rfl, _, rfl, ?_⟩
        refine iteF ?_
        have hL3 := e3 _ _ hL
        have ht3 := dp_ex e3 _ _ ht
        have e03 := e02.trans e3
        have qF3 := (e2.trans e3) _ _ qF
        have qD3 := dpa_ex (e2.trans e3) _ _ qD
        have LFo : L ≠ Fo := (ne_of_none qF hL0).symm
        generalize upd G2 l2 (.lst []) = G3 at hL3 ht3 e03 qF3 qD3 ⊢
        refine ⟨_, rfl, L, _, 0, _, rfl, rfl, SqL.of hL3, rfl, _, rfl, stD s, ss.map stD, ht3, .lst (ex_l e03 hg) (dpa_ex e03 _ _ hD), stD_shaped s, stDs_shaped ss, _, rfl, ?_⟩
        rw [any_eqv]
        by_cases hm : s ∈ ss
        case neg =>
          rw [decide_eq_false hm]
          rw [if_neg hm] at q3
          exact iteT (iteT ⟨Nat.zero_le _, fun L hL => kn q3 e03 L hL⟩)
        rw [decide_eq_true hm]
        rw [if_pos hm] at q3
        refine iteF ?_
        -- it goes on
        have fin : ∀ {G4 : Hp}, Ex G3 G4 → lwGo ss ds [] = lwGo ss (ds.drop (i + 1)) (ts ++ [s]) → ∃ (x3 x4 : Option V) (ts : List St5) (ys' : List V), [some (V.ref g), some (.ref c), some (.ref Fo), some x, some (.ref L)] = [some (.ref g), some (.ref c), some (.ref Fo), x3, x4] ∧ Ex H (upd G4 Fo (.lst (ys ++ [.ref t]))) ∧ upd G4 Fo (.lst (ys ++ [.ref t])) Fo = some (.lst ys') ∧ DpAll K (upd G4 Fo (.lst (ys ++ [.ref t]))) ys' (ts.map stD) ∧ lwGo ss ds [] = lwGo ss (ds.drop (i + 1)) ts ∧ ts.length ≤ i + 1 := fun {G4} e4 q4 => by
          refine ⟨_, _, ts ++ [s], ys ++ [.ref t], rfl, (e03.trans e4).mut hFo, upd_same, ?_, q4, by rw [List.length_append]; exact Nat.succ_le_succ qn⟩
          rw [List.map_append]
          have h0 := e4 _ _ qF3
          exact dpa_app (sts_ne h0 (dpa_ex e4 _ _ qD3)) (.cons (st_ne (dp_ex e4 _ _ ht3) h0) .nil)
        have sz : (ys ++ [V.ref t]).length ≤ sizeLine := sz_le (by rw [List.length_append, List.length_singleton]; omega)
        have szA : ys.length + [V.ref t].length ≤ sizeLine := by
          rw [List.length_append] at sz
          exact sz
        refine ⟨_, rfl, Nat.zero_le _, fun l3 hl3 => ?_⟩
        have e4 := Ex.new (o := .lst []) hl3
        refine ⟨.list (ts.map stD), .list [], .lst (SqL.of (e4 _ _ qF3)) (dpa_ex e4 _ _ qD3), .lst (SqL.of upd_same) .nil, stDs_shaped ts, rfl, _, rfl, ?_⟩
        generalize upd G3 l3 (.lst []) = G4 at e4 ⊢
        cases hlast : ts.getLast? with
        | none =>
          rw [hlast] at q3
          have : ts = [] := List.getLast?_eq_none_iff.mp hlast
          rw [this]
          refine iteF (iteF ?_)
          exact ⟨_, rfl, .inl ⟨rfl, _, SqL.of (e4 _ _ qF3)⟩, _, rfl, Fo, L, _, _, rfl, rfl, e4 _ _ qF3, e4 _ _ hL3, szA, fin e4 q3⟩
        | some t0 =>
          rw [hlast] at q3
          have hne : PyData.eqv (.list (ts.map stD)) (.list []) = false := by
            cases ts with
            | nil => cases hlast
            | cons => rfl
          rw [hne]
          refine iteT ?_
          obtain ⟨tb, htb, htD⟩ := last_at qD3 hlast
          obtain ⟨tb', tu, et, tp1, _⟩ := stD_inv (dp_ex e4 _ _ htD)
          cases et
          obtain ⟨t', u, et, p1, p2⟩ := stD_inv (dp_ex e4 _ _ ht3)
          cases et
          refine ⟨_, rfl, _, rfl, Fo, _, (-1 : Int), _, rfl, rfl, SqL.of (e4 _ _ qF3), htb, tb, _, 1, .int t0.other, rfl, rfl, tp1, rfl, _, rfl, L, _, 0, _, rfl, rfl, SqL.of (e4 _ _ hL3), rfl, t, _, 0, .int s.one, rfl, rfl, p1, rfl, rfl, _, rfl, ?_⟩
          rw [dec_int]
          have q3 : lwGo ss ds [] = if t0.other = s.one then lwGo ss (ds.drop (i + 1)) (ts ++ [s]) else none := q3
          by_cases e : t0.other = s.one
          · rw [decide_eq_true e]
            rw [if_pos e] at q3
            refine iteF ?_
            exact ⟨_, rfl, .inl ⟨rfl, _, SqL.of (e4 _ _ qF3)⟩, _, rfl, Fo, L, _, _, rfl, rfl, e4 _ _ qF3, e4 _ _ hL3, szA, fin e4 q3⟩
          · rw [decide_eq_false e]
            rw [if_neg e] at q3
            exact iteT ⟨Nat.zero_le _, fun L hL => kn q3 (e03.trans e4) L hL⟩
    · rintro σ G ⟨x3, x4, ts, ys, rfl, q1, qF, qD, q2, qn⟩
      rw [hlen, List.drop_length] at q2
      have q2 : lwGo ss ds [] = some ts := q2
      refine ⟨_, rfl, by show 1 ≤ sizeLine; decide, fun L hL => ?_⟩
      have y := Ex.new (o := .lst [V.ref Fo]) hL
      refine k _ L (q1.trans y) (fresh_back q1 hL) ?_
      rw [q2]
      exact ⟨Fo, ys, upd_same, y _ _ qF, dpa_ex y _ _ qD, hFo⟩
end
end AA

set_option Elab.async false
set_option linter.all false
set_option maxRecDepth 100000
set_option maxHeartbeats 4000000
/-! len(set(xs)), _law_sum, _law_is_ring. -/
namespace AA
open PySem PySem.Spec PyProof.Rows L2 Evl
theorem met_len (ns : List Int) : ∀ i, i ≤ ns.length → (firstMet (fun i => ns.getD i 0) i).length ≤ i ∧ (∀ v, v ∈ firstMet (fun i => ns.getD i 0) i ↔ v ∈ ns.take i) ∧ ((firstMet (fun i => ns.getD i 0) i).length = i ↔ (ns.take i).Nodup)
  | 0, _ => ⟨Nat.le_refl _, fun v => by rw [List.take_zero]; exact Iff.rfl, by rw [List.take_zero]; exact ⟨fun _ => List.nodup_nil, fun _ => rfl⟩⟩
  | i + 1, hi => by
    have hlt : i < ns.length := hi
    have e1 : ns.getD i 0 = ns[i] := by
      rw [List.getD_eq_getElem?_getD, List.getElem?_eq_getElem hlt] <;> rfl
    have e2 : ns.take (i + 1) = ns.take i ++ [ns[i]] := by
      rw [List.take_add_one, List.getElem?_eq_getElem hlt] <;> rfl
    obtain ⟨h1, h2, h3⟩ := met_len ns i (Nat.le_of_lt hlt)
    rw [firstMet_succ, e2]
    generalize firstMet (fun i => ns.getD i 0) i = F at h1 h2 h3 ⊢
    show (if F.any (· == ns.getD i 0) then F else F ++ [ns.getD i 0]).length ≤ i + 1 ∧ (∀ v, v ∈ (if F.any (· == ns.getD i 0) then F else F ++ [ns.getD i 0]) ↔ _) ∧ ((if F.any (· == ns.getD i 0) then F else F ++ [ns.getD i 0]).length = i + 1 ↔ _)
    rw [e1]
    by_cases hin : ns[i] ∈ F
    · have ha : F.any (· == ns[i]) = true := List.any_eq_true.mpr ⟨_, hin, by simp⟩
      rw [if_pos ha]
      refine ⟨by omega, fun v => ?_, ⟨fun z => by omega, fun z => ?_⟩⟩
      · rw [h2 v, List.mem_append, List.mem_singleton]
        exact ⟨.inl, fun z => z.elim id fun e => by rw [e]; exact (h2 _).mp hin⟩
      · exact absurd rfl ((List.nodup_append.mp z).2.2 _ ((h2 _).mp hin) _ (by simp))
    · have ha : ¬ (F.any (· == ns[i]) = true) := fun z => by
        obtain ⟨y, hy, ey⟩ := List.any_eq_true.mp z
        exact hin ((eq_of_beq ey : y = ns[i]) ▸ hy)
      rw [if_neg ha, List.length_append, List.length_singleton]
      refine ⟨by omega, fun v => by rw [List.mem_append, List.mem_append, h2 v], ⟨fun z => ?_, fun z => ?_⟩⟩
      · exact List.nodup_append.mpr ⟨h3.mp (by omega), by simp, fun x hx y hy e => hin ((h2 _).mpr (by rw [List.mem_singleton.mp hy] at e; exact e ▸ hx))⟩
      · have := h3.mpr (List.nodup_append.mp z).1
        omega
theorem intsAre_vs : ∀ {ns : List Int} {us : List Value}, Vals (ns.map V.int) us → PyProof.Rows.IntsAre us ns
  | [], _, .nil => .nil
  | n :: ns, _, .cons r t => by
    obtain ⟨k, rfl⟩ := r
    exact .cons n k (intsAre_vs t)
def tLenSetA (K : PySem.W.Frag) (ta : TE) : TE := fun σ H Q => ta σ H fun x H1 => ∃ (l : Addr) (ns : List Int), x = .ref l ∧ SqL K H1 l (ns.map V.int) ∧ ns.length ≤ 4000 ∧ ∀ m : Nat, (m = ns.length ↔ ns.Nodup) → Q (.int m) H1
theorem pe_lenSetA {X : Cx} {a : Expr} {ta : TE} {p p2 q pos : Pos} (hg : Gl X "len") (hm : X.mg "len" = none) (hg2 : Gl X "set") (hm2 : X.mg "set" = none) (ha : PE X a ta) (hc : X.calm = true := by rfl)
    (na : starEach [a] X.env = (false, eval a X.env) :: starEach [] X.env := by rfl) : PE X (.Call (.Name "len" p) [.Call (.Name "set" p2) [a] [] q] [] pos) (tLenSetA X.K ta) := by
  refine ⟨fun pins s σ H Q I h => ?_⟩
  refine Call_ (ld_blt I hg hm PySem.boot_len ?_)
  refine PyProof.Rows.callWith_builtin1 (PyProof.Rows.args_cons ?_ rfl) rfl rfl
  refine Call_ (ld_blt I hg2 hm2 PyProof.Rows.boot_set ?_)
  refine PyProof.Rows.callWith_type1 (PyProof.Rows.args_cons (thn (ha.run pins s σ H _ I h) fun v s1 ⟨x, H1, I1, r1, q1⟩ => PyProof.Rows.args_nil ?_) na) na rfl
  obtain ⟨l, ns, rfl, hq, hl, q1⟩ := q1
  cases r1
  obtain ⟨its, r, pl, hz⟩ := I1.list hq
  have hlen : its.toArray.size = ns.length := by rw [List.size_toArray, ← r.length, List.length_map]
  refine call_set_list (I1.ok.hd hc) pl.isList (by simpa using intsAre_vs r) (by rw [hlen]; unfold scanBound; omega) fun h' tk hS hk => ?_
  refine PyProof.Rows.args_nil ?_
  rw [hlen] at hS
  obtain ⟨m1, m2, m3⟩ := met_len ns ns.length (Nat.le_refl _)
  rw [List.take_length] at m3
  obtain ⟨o, es, ep, t, ho, hex, hd, _, _, _, hf, hn⟩ := hS
  have I2 : Inv X pins σ H1 { s1 with heap := h', toks := tk } := I1.kept fun b o e => hk b o (Heap.lt_size e) e
  exact call_len_set ho hex hd hf (by rw [hn] <;> omega) ⟨.int ((firstMet (fun i => ns.getD i 0) ns.length).length : Nat), H1, I2.tok _, ⟨_, by rw [hn]⟩, q1 _ m3⟩
section
variable {P : Program} {w : World} {K : PySem.W.Frag} {mg : Str → Option Value} {base : Heap}
def spLSum (K : PySem.W.Frag) : Sp := fun vs H Q _ => ∃ (p : Addr) (ys : List V) (ws : List St5), vs = [.ref p] ∧ SqL K H p ys ∧ DpAll K H ys (ws.map stD) ∧ ws.length ≤ 1000000 ∧
  ∀ (H' : Hp) (q t : Addr), Ex H H' → H q = none → H' t = some (.tup [.int (sumI (·.p) ws), .int (sumI (·.q) ws)]) → H' q = some (.tup [.ref t, .int (sumI (·.ticks) ws), .int (sumI (·.change) ws)]) → Q (.ref q) H'
abbrev nmLSm : List Str := ["_law_walk", "_law_first", "_law_second", "_law_step_here"]
theorem scLSm : FnScope nmLSm ["_law_walk"] (defScope sLSum) := ⟨rfl, rfl, rfl, by decide +kernel, rfl, by decide +kernel, by decide +kernel⟩
theorem ok_lsum {f : Addr} {fd : FuncData} (F : L2.Fun K "_law_sum" "_law_sum" sLSum f fd) (B : Bn mg) : FnOk P w K mg base CX0 1 f fd ["_law_walk"] (spLSum K) := by
  refine F.ok scLSm (fun vs H Q E h => ?_) (fun cdv Ar outer s H vs Q E hr h => ?_)
  · obtain ⟨p, ys, ws, rfl, _⟩ := h
    rfl
  · obtain ⟨p, ys, ws, rfl, hp, hD, hz, kQ⟩ := h
    refine ⟨_, Evl.pss_cut (ps_par (i := 1) (j := 2) (by rfl) scLSm.nd rfl rfl (by decide) rfl rfl (pa_cons (pe_callB (r := rSum K) (cr_sum (by rfl)) (by rfl) B.sum boot_sum (pa_cons (pe_lc (own := [("_law_step_here", 3)]) (g := gName 3) (tt := tYes) (by rfl) scLSm.nd (pi_list (pv 0)) (blkOk_by (N := nmLSm) (sc := defScope sLSum) (by decide +kernel)) (fun _ _ _ _ _ => pg_name (i := 3) scLSm.nd rfl (Or.inl rfl)) (fun _ _ _ _ _ => pts_nil)
          (fun _ _ _ _ _ => pe_ix (r := rIxT K) ix_tup (pe_ix (r := rIxT K) ix_tup (pv 3) pe_int (fun _ _ => rfl)) pe_int (fun _ _ => rfl))) pa_nil)) (pa_cons (pe_callB (r := rSum K) (cr_sum (by rfl)) (by rfl) B.sum boot_sum (pa_cons (pe_lc (own := [("_law_step_here", 3)]) (g := gName 3) (tt := tYes) (by rfl) scLSm.nd (pi_list (pv 0)) (blkOk_by (N := nmLSm) (sc := defScope sLSum) (by decide +kernel)) (fun _ _ _ _ _ => pg_name (i := 3) scLSm.nd rfl (Or.inl rfl)) (fun _ _ _ _ _ => pts_nil)
          (fun _ _ _ _ _ => pe_ix (r := rIxT K) ix_tup (pe_ix (r := rIxT K) ix_tup (pv 3) pe_int (fun _ _ => rfl)) pe_int (fun _ _ => rfl))) pa_nil)) pa_nil)) (by rfl))
      (pss_one (ps_ret (pe_tup (pa_cons (pe_tup (pa_cons (pv 1) (pa_cons (pv 2) pa_nil))) (pa_cons (pe_callB (r := rSum K) (cr_sum (by rfl)) (by rfl) B.sum boot_sum (pa_cons (pe_lc (own := [("_law_step_here", 3)]) (g := gName 3) (tt := tYes) (by rfl) scLSm.nd (pi_list (pv 0)) (blkOk_by (N := nmLSm) (sc := defScope sLSum) (by decide +kernel)) (fun _ _ _ _ _ => pg_name (i := 3) scLSm.nd rfl (Or.inl rfl)) (fun _ _ _ _ _ => pts_nil)
          (fun _ _ _ _ _ => pe_ix (r := rIxT K) ix_tup (pv 3) pe_int (fun _ _ => rfl))) pa_nil)) (pa_cons (pe_callB (r := rSum K) (cr_sum (by rfl)) (by rfl) B.sum boot_sum (pa_cons (pe_lc (own := [("_law_step_here", 3)]) (g := gName 3) (tt := tYes) (by rfl) scLSm.nd (pi_list (pv 0)) (blkOk_by (N := nmLSm) (sc := defScope sLSum) (by decide +kernel)) (fun _ _ _ _ _ => pg_name (i := 3) scLSm.nd rfl (Or.inl rfl)) (fun _ _ _ _ _ => pts_nil)
          (fun _ _ _ _ _ => pe_ix (r := rIxT K) ix_tup (pv 3) pe_int (fun _ _ => rfl))) pa_nil)) pa_nil)))))), ?_⟩
    have hyl := sts_len hD
    have tkm : ∀ (f : St5 → Int) (i : Nat) (s : St5), ws[i]? = some s → ((ws.take i).map f).map V.int ++ [V.int (f s)] = ((ws.take (i + 1)).map f).map V.int := fun f i s hs => by
      rw [List.take_add_one, hs, List.map_append, List.map_append]
      rfl
    have szm : ∀ (f : St5 → Int) (i : Nat), i < ys.length → (((ws.take i).map f).map V.int).length < sizeLine := fun f i hi => by
      rw [List.length_map, List.length_map, List.length_take]
      exact sz_m (by omega)
    refine ⟨fun σ G => σ = [some (.ref p), some (.int (sumI (·.p) ws)), some (.int (sumI (·.q) ws)), none] ∧ Ex H G, ?_, ?_⟩
    · refine ⟨_, rfl, p, rfl, ⟨_, hp⟩, fun D hD0 => ?_⟩
      refine lc_list (xs := ys) (fun i G => Ex H G ∧ G D = some (.lst (((ws.take i).map (·.p)).map V.int))) ⟨Ex.new hD0, upd_same⟩ (fun i G _ q => ex_l q.1 hp) ?_ ?_
      · rintro i x G hx ⟨q1, q2⟩
        obtain ⟨s, t, hs, rfl, ht⟩ := sts_get hD hx
        obtain ⟨_, u, e, p1, p2⟩ := stD_inv (dp_ex q1 _ _ ht)
        cases e
        refine ⟨rfl, _, rfl, t, _, 2, .ref u, rfl, rfl, p1, rfl, u, _, 0, .int s.p, rfl, rfl, p2, rfl, _, q2, szm _ i (get_len hx), q1.mut hD0, ?_⟩
        rw [upd_same, tkm (·.p) i s hs]
      rintro G1 ⟨e1, q2⟩
      rw [hyl, List.take_length] at q2
      refine ⟨D, _, rfl, SqL.of q2, ?_⟩
      refine ⟨_, rfl, p, rfl, ⟨_, ex_l e1 hp⟩, fun D hD0 => ?_⟩
      refine lc_list (xs := ys) (fun i G => Ex G1 G ∧ G D = some (.lst (((ws.take i).map (·.q)).map V.int))) ⟨Ex.new hD0, upd_same⟩ (fun i G _ q => ex_l (e1.trans q.1) hp) ?_ ?_
      · rintro i x G hx ⟨q1, q2⟩
        obtain ⟨s, t, hs, rfl, ht⟩ := sts_get hD hx
        obtain ⟨_, u, e, p1, p2⟩ := stD_inv (dp_ex (e1.trans q1) _ _ ht)
        cases e
        refine ⟨rfl, _, rfl, t, _, 2, .ref u, rfl, rfl, p1, rfl, u, _, 1, .int s.q, rfl, rfl, p2, rfl, _, q2, szm _ i (get_len hx), q1.mut hD0, ?_⟩
        rw [upd_same, tkm (·.q) i s hs]
      · rintro G ⟨q1, q2⟩
        rw [hyl, List.take_length] at q2
        exact ⟨D, _, rfl, SqL.of q2, _, _, rfl, rfl, e1.trans q1⟩
    rintro σ G2 ⟨rfl, e2⟩
    refine ⟨_, rfl, _, rfl, by show 2 ≤ sizeLine; decide, fun t ht => ?_⟩
    have y3 := Ex.new (o := .tup [V.int (sumI (·.p) ws), V.int (sumI (·.q) ws)]) ht
    have j3 : upd G2 t (.tup [V.int (sumI (·.p) ws), V.int (sumI (·.q) ws)]) t = some (.tup [V.int (sumI (·.p) ws), V.int (sumI (·.q) ws)]) := upd_same
    generalize upd G2 t (.tup [V.int (sumI (·.p) ws), V.int (sumI (·.q) ws)]) = G3 at y3 j3 ⊢
    have e13 := e2.trans y3
    refine ⟨_, rfl, p, rfl, ⟨_, ex_l e13 hp⟩, fun D hD0 => ?_⟩
    refine lc_list (xs := ys) (fun i G => Ex G3 G ∧ G D = some (.lst (((ws.take i).map (·.ticks)).map V.int))) ⟨Ex.new hD0, upd_same⟩ (fun i G _ q => ex_l (e13.trans q.1) hp) ?_ ?_
    · rintro i x G hx ⟨q1, q2⟩
      obtain ⟨s, t, hs, rfl, ht⟩ := sts_get hD hx
      obtain ⟨_, u, e, p1, p2⟩ := stD_inv (dp_ex (e13.trans q1) _ _ ht)
      cases e
      refine ⟨rfl, _, rfl, t, _, 3, .int s.ticks, rfl, rfl, p1, rfl, _, q2, szm _ i (get_len hx), q1.mut hD0, ?_⟩
      rw [upd_same, tkm (·.ticks) i s hs]
    rintro G4 ⟨e34, q2⟩
    rw [hyl, List.take_length] at q2
    refine ⟨D, _, rfl, SqL.of q2, ?_⟩
    have e14 := e13.trans e34
    refine ⟨_, rfl, p, rfl, ⟨_, ex_l e14 hp⟩, fun D hD0 => ?_⟩
    refine lc_list (xs := ys) (fun i G => Ex G4 G ∧ G D = some (.lst (((ws.take i).map (·.change)).map V.int))) ⟨Ex.new hD0, upd_same⟩ (fun i G _ q => ex_l (e14.trans q.1) hp) ?_ ?_
    · rintro i x G hx ⟨q1, q2⟩
      obtain ⟨s, t, hs, rfl, ht⟩ := sts_get hD hx
      obtain ⟨_, u, e, p1, p2⟩ := stD_inv (dp_ex (e14.trans q1) _ _ ht)
      cases e
      refine ⟨rfl, _, rfl, t, _, 4, .int s.change, rfl, rfl, p1, rfl, _, q2, szm _ i (get_len hx), q1.mut hD0, ?_⟩
      rw [upd_same, tkm (·.change) i s hs]
    · rintro G ⟨q1, q2⟩
      rw [hyl, List.take_length] at q2
      refine ⟨D, _, rfl, SqL.of q2, by show 3 ≤ sizeLine; decide, fun r hr => ?_⟩
      exact kQ _ r t ((e14.trans q1).trans (Ex.new hr)) (fresh_back (e14.trans q1) hr) (((e34.trans q1).trans (Ex.new hr)) _ _ j3) upd_same
theorem lnk_map : ∀ {s : St5} {r : List St5}, Lnk (s :: r) → (s :: r).map (·.one) = s.one :: ((s :: r).map (·.other)).dropLast
  | s, [], _ => rfl
  | s, t :: r, h => by
    have ih := lnk_map (s := t) (r := r) h.2
    show s.one :: (t :: r).map (·.one) = s.one :: (s.other :: (t.other :: r.map (·.other))).dropLast
    rw [ih, List.dropLast_cons₂, h.1]
    rfl
/-- a walk that comes back: its ends are its beginnings -/
theorem ring_ones {ws : List St5} {s t : St5} (h : Lnk ws) (hs : ws.head? = some s) (ht : ws.getLast? = some t) (e : s.one = t.other) : (ws.map (·.one)).Nodup ↔ (ws.map (·.other)).Nodup := by
  cases ws with
  | nil => cases hs
  | cons x r =>
    cases hs
    have h1 := lnk_map h
    have hne : (s :: r).map (·.other) ≠ [] := by simp
    have h2 := (List.dropLast_concat_getLast hne).symm
    have h3 : ((s :: r).map (·.other)).getLast hne = t.other := by
      rw [List.getLast_map]
      have : (s :: r).getLast (by simp) = t := by
        rw [List.getLast?_eq_some_getLast (by simp)] at ht
        exact Option.some.inj ht
      rw [this]
    rw [h3] at h2
    rw [h1, e, h2, List.dropLast_concat]
    exact (List.perm_append_comm (l₁ := [t.other])).nodup_iff
def spLIsRing (K : PySem.W.Frag) : Sp := fun vs H Q _ => ∃ (g : Addr) (us : List V) (ss : List St5) (v : V), vs = [.ref g, v] ∧ SqL K H g us ∧ DpAll K H us (ss.map stD) ∧
  ((Lk K H v false ∧ ∀ H', Ex H H' → Q (.bl false) H') ∨ ∃ d, Dp K H v d ∧ dOk d = true ∧ (∀ ws, lawW ss d = some ws → ws.length ≤ 4000) ∧ ∀ H', Ex H H' → Q (.bl (ringB (lawW ss d))) H')
abbrev nmLIr : List Str := ["_law_steps", "_law_thing", "_law_walk", "_law_ends", "_law_step_here"]
theorem scLIr : FnScope nmLIr ["_law_steps", "_law_thing"] (defScope sLIsRing) := ⟨rfl, rfl, rfl, by decide +kernel, rfl, by decide +kernel, by decide +kernel⟩
theorem ok_lisRing {f : Addr} {fd : FuncData} (F : L2.Fun K "_law_is_ring" "_law_is_ring" sLIsRing f fd) (B : Bn mg) (hset : mg "set" = none) (cW : C8.Cal P w K mg base 3 "_law_walk_of" (spLWalk K) []) : FnOk P w K mg base CX0 4 f fd ["_law_steps", "_law_thing"] (spLIsRing K) := by
  refine F.ok scLIr (fun vs H Q E h => ?_) (fun cdv Ar outer s H vs Q E hr h => ?_)
  · obtain ⟨g, us, ss, v, rfl, _⟩ := h
    rfl
  · obtain ⟨g, us, ss, v, rfl, hg, hD, h⟩ := h
    refine ⟨_, pss_cons (ps_for PassesOwn.never rfl (pi_list (C8.pe_c cW hr (by decide) (by rfl) (pa_cons (pv 0) (pa_cons (pv 1) pa_nil)))) (pg_name (i := 2) scLIr.nd rfl (Or.inl rfl))
        (pss_cons (ps_setLc (i := 3) (own := [("_law_step_here", 4)]) (g := gName 4) (tt := tYes) (by rfl) scLIr.nd rfl rfl (sw_true rfl rfl rfl (by decide +kernel)) (pi_list (pv 2)) (blkOk_by (N := nmLIr) (sc := defScope sLIsRing) (by decide +kernel)) (fun _ _ _ _ _ => pg_name (i := 4) scLIr.nd rfl (Or.inl rfl)) (fun _ _ _ _ _ => pts_nil)
          (fun _ _ _ _ _ => pe_ix (r := rIxT K) ix_tup (pv 4) pe_int (fun _ _ => rfl)))
        (pss_one (ps_ret (pe_and (pe_cmpR (op_neD hr.units) (pv 2) (pe_lst pa_nil) (nomark _)) (pe_and (pe_cmpR op_eq (pe_ix ix_tup (pe_ix ix_list (pv 2) (pe_un un_neg pe_int) (fun _ _ => rfl)) pe_int (fun _ _ => rfl)) (pe_ix ix_list (pv 3) pe_int (fun _ _ => rfl)) (nomark _))
          (pe_one (pe_cmpR op_eq (pe_lenSetA (by rfl) B.len (by rfl) hset (pv 3)) (pe_callB call_len_seq (by rfl) B.len PySem.boot_len (pa_cons (pv 3) pa_nil)) (nomark _)))))))))
      (pss_one (ps_ret pe_bl)), ?_⟩
    rcases h with ⟨hl, k⟩ | ⟨d, hd, hok, hlen, k⟩
    · refine ⟨_, rfl, _, rfl, g, us, ss, v, rfl, hg, hD, .inl ⟨hl, fun H1 L e1 L0 hL => ?_⟩⟩
      refine ⟨L, rfl, ⟨_, SqL.of hL⟩, ?_⟩
      refine for_list (K := K) (a := L) (xs := []) (fun i σ G => Ex H G ∧ G = H1) ⟨e1, rfl⟩ (fun i σ G _ z => by rw [z.2]; exact SqL.of hL) (fun i x σ G h => by simp at h) ?_
      rintro σ G ⟨q1, q2⟩
      exact k G q1
    refine ⟨_, rfl, _, rfl, g, us, ss, v, rfl, hg, hD, .inr ⟨d, hd, hok, fun H1 L e1 L0 hL => ?_⟩⟩
    cases hw : lawW ss d with
    | none =>
      rw [hw] at hL k
      have hL : H1 L = some (.lst []) := hL
      refine ⟨L, rfl, ⟨_, SqL.of hL⟩, ?_⟩
      refine for_list (K := K) (a := L) (xs := []) (fun i σ G => Ex H G ∧ G = H1) ⟨e1, rfl⟩ (fun i σ G _ z => by rw [z.2]; exact SqL.of hL) (fun i x σ G h => by simp at h) ?_
      rintro σ G ⟨q1, q2⟩
      exact k G q1
    | some ws =>
      rw [hw] at hL k
      have hlen := hlen ws hw
      have hlnk : Lnk ws := by
        unfold lawW at hw
        by_cases hl : isListD d = true
        · rw [if_pos hl] at hw
          exact lw_lnk hw True.intro
        · rw [if_neg hl] at hw
          cases hw
      obtain ⟨p, ys, hL, hp, hDw, _⟩ := hL
      have hyl := sts_len hDw
      refine ⟨L, rfl, ⟨_, SqL.of hL⟩, ?_⟩
      refine for_list (K := K) (a := L) (xs := [.ref p]) (fun i σ G => i = 0 ∧ ∃ x2 x3 : Option V, σ = [some (.ref g), some v, x2, x3, none] ∧ G = H1) ⟨rfl, _, _, rfl, rfl⟩ (fun i σ G _ ⟨_, _, _, _, z⟩ => by rw [z]; exact SqL.of hL) ?_ (fun σ G z => by cases z.1)
      rintro i x σ G hx ⟨rfl, x2, x3, rfl, rfl⟩
      obtain rfl : V.ref p = x := Option.some.inj hx
      refine ⟨_, rfl, p, rfl, ⟨_, SqL.of hp⟩, fun D hD0 => ?_⟩
      refine lc_list (xs := ys) (fun i G' => Ex G G' ∧ G' D = some (.lst (((ws.take i).map (·.one)).map V.int))) ⟨Ex.new hD0, upd_same⟩ (fun i G _ q => SqL.of (q.1 _ _ hp)) ?_ ?_
      · rintro i x G hx ⟨q1, q2⟩
        obtain ⟨s, t, hs, rfl, ht⟩ := sts_get hDw hx
        obtain ⟨_, u, e, p1, p2⟩ := stD_inv (dp_ex q1 _ _ ht)
        cases e
        refine ⟨rfl, _, rfl, t, _, 0, .int s.one, rfl, rfl, p1, rfl, _, q2, by rw [List.length_map, List.length_map, List.length_take]; exact sz_m (by have := get_len hx; omega), q1.mut hD0, ?_⟩
        rw [upd_same, List.take_add_one, hs, List.map_append, List.map_append]
        rfl
      rintro G2 ⟨e2, hD2⟩
      rw [hyl, List.take_length] at hD2
      have e02 := e1.trans e2
      have hp2 := e2 _ _ hp
      have hDw2 := dpa_ex e2 _ _ hDw
      refine ⟨_, rfl, Nat.zero_le _, fun l hl => ?_⟩
      have e3 := Ex.new (o := .lst []) hl
      refine ⟨.list (ws.map stD), .list [], .lst (SqL.of (e3 _ _ hp2)) (dpa_ex e3 _ _ hDw2), .lst (SqL.of upd_same) .nil, stDs_shaped ws, rfl, _, rfl, ?_⟩
      generalize upd G2 l (.lst []) = G3 at e3 ⊢
      have e03 := e02.trans e3
      cases hh : ws.head? with
      | none =>
        have : ws = [] := List.head?_eq_none_iff.mp hh
        subst this
        exact iteF (k _ e03)
      | some s0 =>
        obtain ⟨t0, ht0⟩ : ∃ t0, ws.getLast? = some t0 := by
          cases h2 : ws.getLast? with
          | none =>
            have : ws = [] := List.getLast?_eq_none_iff.mp h2
            subst this
            cases hh
          | some t => exact ⟨t, rfl⟩
        have hne : PyData.eqv (.list (ws.map stD)) (.list []) = false := by
          cases ws with
          | nil => cases hh
          | cons => rfl
        have hk : ringB (some ws) = (decide (s0.one = t0.other) && decide ((ws.map (·.other)).Nodup)) := by
          show (match ws.head?, ws.getLast? with | some s, some t => decide (s.one = t.other) && decide ((ws.map (fun x : St5 => x.other)).Nodup) | _, _ => false) = _
          rw [hh, ht0]
        rw [hk] at k
        rw [hne]
        refine iteT ?_
        obtain ⟨tb, htb, htD⟩ := last_at (dpa_ex e3 _ _ hDw2) ht0
        obtain ⟨_, tu, et, tp1, _⟩ := stD_inv htD
        cases et
        have hone : (ws.map (·.one)).head? = some s0.one := by rw [List.head?_map, hh]; rfl
        have hat : atI ((ws.map (·.one)).map V.int) 0 = some (V.int s0.one) := by
          cases ws with
          | nil => cases hh
          | cons x r =>
            cases hh
            exact atI_nat (j := 0) rfl
        refine ⟨_, rfl, _, rfl, p, _, (-1 : Int), _, rfl, rfl, SqL.of (e3 _ _ hp2), htb, tb, _, 1, .int t0.other, rfl, rfl, tp1, rfl, _, rfl, D, _, 0, _, rfl, rfl, SqL.of (e3 _ _ hD2), hat, rfl, _, rfl, ?_⟩
        rw [dec_int]
        by_cases e : s0.one = t0.other
        case neg =>
          rw [decide_eq_false e] at k
          rw [decide_eq_false fun z => e z.symm]
          exact iteF (k _ e03)
        rw [decide_eq_true e] at k
        rw [decide_eq_true e.symm]
        refine iteT ?_
        refine ⟨_, rfl, D, ws.map (·.one), rfl, SqL.of (e3 _ _ hD2), by rw [List.length_map]; exact hlen, fun m hm => ?_⟩
        rw [ring_ones hlnk hh ht0 e] at hm
        refine ⟨_, rfl, D, _, rfl, .inl (SqL.of (e3 _ _ hD2)), rfl, ?_⟩
        have kk := k _ e03
        rw [Bool.true_and] at kk
        have hdec : decide ((ws.map (·.other)).Nodup) = decide ((V.int (m : Int)) = V.int (((ws.map (·.one)).map V.int).length : Nat)) := by
          rw [decide_eq_decide, ← hm]
          exact ⟨fun z => by rw [z, List.length_map, List.length_map, List.length_map], fun z => by have := V.int.inj z; rw [List.length_map] at this; omega⟩
        rw [hdec] at kk
        exact kk
end
end AA

set_option Elab.async false
set_option linter.all false
set_option maxRecDepth 100000
set_option maxHeartbeats 4000000
/-! _law_drawn_walk. -/
namespace AA
open PySem PySem.Spec PyProof.Rows L2 Evl
theorem eqv_sts_nil : ∀ ss : List St5, PyData.eqv (.list (ss.map stD)) (.list []) = ss.isEmpty
  | [] => rfl
  | s :: r => rfl
section
variable {P : Program} {w : World} {K : PySem.W.Frag} {mg : Str → Option Value} {base : Heap}
def spDrw (K : PySem.W.Frag) : Sp := fun vs H Q _ => ∃ (a b : Addr) (n : Nat) (c : Int) (t : Addr) (vs0 : List V) (ss : List St5), vs = [.ref a, .int c, .ref t] ∧ SAt H a b n ∧ n < 800000000 ∧ 0 < c ∧ c < 1000 ∧ hid a b H t = some (.lst vs0) ∧ DpAll K (tps H) vs0 (ss.map stD) ∧ ss.length ≤ 1000 ∧
  ∀ (H' : Hp) (p : Addr) (us : List V) (ws : List St5), ExS a b H H' → SAt H' a b (n + 10) → H p = none → H' p = some (.lst us) → DpAll K (tps H') us (ws.map stD) → (∀ s ∈ ws, s ∈ ss) → ws.length ≤ 8 → Q (.ref p) H'
abbrev nmDw : List Str := ["_law_stream_here", "_law_places", "_law_steps", "_law_here", "_law_found", "_law_k", "_law_some", "_law_step_here"]
theorem scDw : FnScope nmDw ["_law_stream_here", "_law_places", "_law_steps"] (defScope sDrawnWalk) := ⟨rfl, rfl, rfl, by decide +kernel, rfl, by decide +kernel, by decide +kernel⟩
theorem ok_drw {f : Addr} {fd : FuncData} (F : L2.Fun K "_law_drawn_walk" "_law_drawn_walk" sDrawnWalk f fd) (T : Bn mg) (cD : C8.Cal P w K mg base 1 "_law_draw" spDraw []) (cP : C8.Cal P w K mg base 2 "_law_pick" (spPick K) []) : FnOk P w K mg base CX0 3 f fd ["_law_stream_here", "_law_places", "_law_steps"] (spDrw K) := by
  refine F.ok scDw (fun vs H Q E h => ?_) (fun cdv A outer s H vs Q E hr h => ?_)
  · obtain ⟨a, b, n, c, t, vs0, ss, rfl, _⟩ := h
    rfl
  · obtain ⟨a, b, n, c, t, vs0, ss, rfl, hS, hn, hc0, hc1, hT, hD, hsz, k⟩ := h
    refine ⟨_, pss_cons (ps_asg (pe_tup (pa_cons (C8.pe_c cD hr (by decide) (by rfl) (pa_cons (pv 0) (pa_cons (pv 1) pa_nil))) (pa_cons (pe_lst pa_nil) pa_nil))) (pg_tup (n := 2) rfl (pgs_cons (pg_name (i := 3) scDw.nd rfl (Or.inr rfl)) (pgs_cons (pg_name (i := 4) scDw.nd rfl (Or.inl rfl)) pgs_nil))))
      (Evl.pss_cut (ps_for PassesOwn.never rfl (pi_range1 rfl T.range (pa_cons (C8.pe_c cD hr (by decide) (by rfl) (pa_cons (pv 0) (pa_cons pe_int pa_nil))) pa_nil)) (pg_name (i := 5) scDw.nd rfl (Or.inl rfl))
        (Evl.pss_cut (ps_setLc (i := 6) (own := [("_law_step_here", 7)]) (g := gName 7) (by rfl) scDw.nd rfl rfl (sw_true rfl rfl rfl (by decide +kernel)) (pi_list (pv 2)) (blkOk_by (N := nmDw) (sc := defScope sDrawnWalk) (by decide +kernel))
            (fun _ _ _ _ _ => pg_name (i := 7) scDw.nd rfl (Or.inl rfl))
            (fun _ _ _ _ _ => pts_one (pt_cmpR op_eq (pe_ix (r := rIxT K) ix_tup (pv 7) pe_int (fun _ _ => rfl)) (pv 3) (nomark _)))
            (fun _ _ _ _ _ => pv 7))
        (Evl.pss_cut (ps_expr (pe_bm PySem.F.plainAttrs_list PySem.F.slot_list_extend PySem.F.type_list_extend mt_extend (pv 4) (pa_cons (pe_ifExp (pt_cmpR (op_neD hr.units) (pv 6) (pe_lst pa_nil) (nomark _)) (pe_lst (pa_cons (C8.pe_c cP hr (by decide) (by rfl) (pa_cons (pv 0) (pa_cons (pv 6) pa_nil))) pa_nil)) (pe_lst pa_nil)) pa_nil)))
        (pss_one (ps_set (i := 3) scDw.nd rfl (Or.inr rfl) (pe_ifExp (pt_cmpR (op_neD hr.units) (pv 6) (pe_lst pa_nil) (nomark _)) (pe_ix ix_tup (pe_ix ix_list (pv 4) (pe_un un_neg pe_int) (fun _ _ => rfl)) pe_int (fun _ _ => rfl)) (pv 3)))))))
      (pss_one (ps_ret (pv 4)))), ?_⟩
    obtain ⟨hT1, ta, tb⟩ := hid_some hT
    have hvl := sts_len (dpa_ex tps_le _ _ hD)
    refine ⟨_, rfl, _, rfl, a, b, n, c, rfl, hS, by omega, hc0, by omega, fun G1 i0 e1 s1 i00 i01 => ?_⟩
    refine ⟨Nat.zero_le _, fun Fo hFo1 => ?_⟩
    have hFo := e1.back s1 hFo1
    have Fa := hS.nea hFo
    have Fb := hS.neb hFo
    refine ⟨by show 2 ≤ sizeLine; decide, fun T0 hT0 => ⟨T0, _, rfl, SqT.of upd_same, rfl, _, _, rfl, _, _, rfl, rfl, ?_⟩⟩
    have y2 := Ex.new (o := .lst []) hFo1
    have j2 : upd G1 Fo (.lst []) Fo = some (.lst []) := upd_same
    generalize upd G1 Fo (.lst []) = G2 at y2 j2 hT0 ⊢
    have y3 := Ex.new (o := .tup [V.int i0, V.ref Fo]) hT0
    have j3 := y3 _ _ j2
    have y23 := y2.trans y3
    generalize upd G2 T0 (.tup [V.int i0, V.ref Fo]) = G3 at j3 y23 ⊢
    have e3 : ExS a b H G3 := e1.trans (hid_mono y23)
    have s3 := s1.ex y23
    refine ⟨fun σ G => ∃ (x3 x5 x6 : Option V) (us : List V) (ws : List St5), σ = [some (.ref a), some (.int c), some (.ref t), x3, some (.ref Fo), x5, x6, none] ∧ ExS a b H G ∧ SAt G a b (n + 10) ∧ G Fo = some (.lst us) ∧ DpAll K (tps G) us (ws.map stD) ∧ (∀ s ∈ ws, s ∈ ss) ∧ ws.length ≤ 8, ?_, ?_⟩
    case refine_2 =>
      rintro σ G ⟨x3, x5, x6, us, ws, rfl, q1, q2, q3, q4, q5, q6⟩
      exact ⟨_, rfl, k G Fo us ws q1 q2 hFo q3 q4 q5 q6⟩
    refine ⟨_, rfl, a, b, n + 1, 9, rfl, s3, by omega, by decide, by decide, fun G4 m e4 s4 m0 m1 => ?_⟩
    have e04 : ExS a b H G4 := e3.trans e4
    have hF4 := e4.at j3 Fa Fb
    refine ⟨m, rfl, ?_, ?_, for_range (lo := 0) (n := m.toNat) (fun i σ G => ∃ (h : Int) (x5 x6 : Option V) (us : List V) (ws : List St5), σ = [some (.ref a), some (.int c), some (.ref t), some (.int h), some (.ref Fo), x5, x6, none] ∧ ExS a b H G ∧ SAt G a b (n + 2 + i) ∧ G Fo = some (.lst us) ∧ DpAll K (tps G) us (ws.map stD) ∧ (∀ s ∈ ws, s ∈ ss) ∧ ws.length ≤ i) ?_ ?_ ?_⟩
    · omega
    · omega
    · exact ⟨i0, none, none, [], [], rfl, e04, s4, hF4, .nil, (fun s h => absurd h (by simp)), Nat.le_refl _⟩
    · rintro i σ G hi ⟨hh, x5, x6, us, ws, rfl, q1, q2, q3, q4, q5, q6⟩
      have hi8 : i < 8 := by omega
      -- the steps from here
      refine ⟨fun σ G' => ∃ (D : Addr) (acc : List V) (cs : List St5), σ = [some (.ref a), some (.int c), some (.ref t), some (.int hh), some (.ref Fo), some (.int (0 + (i : Int))), some (.ref D), none] ∧ Ex G G' ∧ G' D = some (.lst acc) ∧ DpAll K (tps G') acc (cs.map stD) ∧ (∀ s ∈ cs, s ∈ ss) ∧ cs.length ≤ 1000 ∧ D ≠ a ∧ D ≠ b ∧ D ≠ Fo, ?_, ?_⟩
      · have hT2 : G t = some (.lst vs0) := q1.at hT1 ta tb
        have hD2 : DpAll K (tps G) vs0 (ss.map stD) := dpa_ex (tps_hid q1 hS) _ _ hD
        refine ⟨_, rfl, t, rfl, ⟨vs0, SqL.of hT2⟩, fun D hDn => ?_⟩
        refine lc_list (xs := vs0) (fun j G' => Ex G G' ∧ ∃ (acc : List V) (cs : List St5), G' D = some (.lst acc) ∧ DpAll K (tps G') acc (cs.map stD) ∧ (∀ s ∈ cs, s ∈ ss) ∧ cs.length ≤ j) ⟨Ex.new hDn, [], [], upd_same, .nil, fun s h => absurd h (by simp), Nat.le_refl _⟩ (fun j G' _ q => ex_l q.1 (SqL.of hT2)) ?_ ?_
        · rintro j y G' hy ⟨p1, acc, cs, p2, p3, p4, p5⟩
          obtain ⟨s, d, hs, rfl, hc⟩ := sts_get hD2 hy
          have hjl := (List.getElem?_eq_some_iff.mp hs).1
          have hacc := sts_len (dpa_ex tps_le _ _ p3)
          have hc1 := dp_ex (tps_mono p1) _ _ hc
          obtain ⟨_, u, ez, g1, _⟩ := stD_inv (dp_ex tps_le _ _ hc1)
          cases ez
          refine ⟨rfl, _, rfl, d, _, 0, .int s.one, rfl, rfl, g1, rfl, _, rfl, rfl, _, rfl, ?_⟩
          rw [dec_int]
          by_cases h1 : s.one = hh
          case neg =>
            rw [decide_eq_false h1]
            exact ⟨p1, acc, cs, p2, p3, p4, by omega⟩
          rw [decide_eq_true h1]
          have tp := tps_upd (H := G') (o := .lst (acc ++ [.ref d])) (NoTup.lst p2)
          refine ⟨_, rfl, acc, p2, sz_m (by omega), p1.mut hDn, _, cs ++ [s], upd_same, ?_, fun z hz => ?_, by rw [List.length_append]; exact Nat.succ_le_succ p5⟩
          · rw [List.map_append]
            exact dpa_app (dpa_ex tp _ _ p3) (.cons (dp_ex tp _ _ hc1) .nil)
          · rcases List.mem_append.mp hz with hz | hz
            · exact p4 z hz
            · rw [List.mem_singleton.mp hz]
              exact mem_of_get hs
        · rintro G' ⟨p1, acc, cs, p2, p3, p4, p5⟩
          exact ⟨D, acc, cs, rfl, p1, p2, p3, p4, by omega, q2.nea hDn, q2.neb hDn, (ne_of_none q3 hDn).symm⟩
      rintro σ G5 ⟨D, acc, cs, rfl, p1, p2, p3, p4, p5, Da, Db, DF⟩
      have hacc := sts_len (dpa_ex tps_le _ _ p3)
      have r1 : ExS a b H G5 := q1.trans (hid_mono p1)
      have r2 := q2.ex p1
      have r3 := p1 _ _ q3
      have r4 := dpa_ex (tps_mono p1) _ _ q4
      -- one of them
      refine ⟨fun σ G' => ∃ (us' : List V) (ws' : List St5), σ = [some (.ref a), some (.int c), some (.ref t), some (.int hh), some (.ref Fo), some (.int (0 + (i : Int))), some (.ref D), none] ∧ ExS a b H G' ∧ SAt G' a b (n + 2 + (i + 1)) ∧ G' Fo = some (.lst us') ∧ DpAll K (tps G') us' (ws'.map stD) ∧ (∀ s ∈ ws', s ∈ ss) ∧ ws'.length ≤ i + 1 ∧ G' D = some (.lst acc) ∧ DpAll K (tps G') acc (cs.map stD) ∧ (cs ≠ [] → ws' ≠ []), ?_, ?_⟩
      · refine ⟨_, rfl, .inl ⟨rfl, _, SqL.of r3⟩, ?_⟩
        refine ⟨_, rfl, Nat.zero_le _, fun L hL => ?_⟩
        have eL := Ex.new (o := .lst []) hL
        refine ⟨.list (cs.map stD), .list [], .lst (SqL.of (eL _ _ p2)) (dpa_ex (tps_le.trans eL) _ _ p3), .lst (SqL.of upd_same) .nil, stDs_shaped cs, rfl, _, rfl, ?_⟩
        generalize upd G5 L (.lst []) = G6 at eL ⊢
        have z1 : ExS a b H G6 := r1.trans (hid_mono eL)
        have z2 := r2.ex eL
        have z3 := eL _ _ r3
        have z4 := dpa_ex (tps_mono eL) _ _ r4
        have z5 := eL _ _ p2
        have z6 := dpa_ex (tps_mono eL) _ _ p3
        have hul := sts_len (dpa_ex tps_le _ _ z4)
        rw [eqv_sts_nil]
        cases hcs : cs with
        | nil =>
          refine iteF ?_
          refine ⟨Nat.zero_le _, fun p hp => ?_⟩
          have y := Ex.new (o := .lst []) hp
          have pF : p ≠ Fo := (ne_of_none z3 hp).symm
          have z3' := y _ _ z3
          have pD : p ≠ D := (ne_of_none z5 hp).symm
          refine ⟨Fo, p, us, [], rfl, rfl, z3', upd_same, sz_le (by show _ + 0 ≤ _; omega), ?_⟩
          have tp := (tps_mono y).trans (tps_upd (o := .lst (us ++ [])) (NoTup.lst z3'))
          refine ⟨us, ws, rfl, ExS.own (z1.trans (hid_mono y)) hFo Fa Fb, ((z2.ex y).upd Fa Fb).mono (by omega), by rw [List.append_nil]; exact upd_same, dpa_ex tp _ _ z4, q5, by omega, by rw [upd_ne DF]; exact y _ _ z5, ?_, fun h => absurd rfl h⟩
          rw [hcs] at z6
          exact dpa_ex tp _ _ z6
        | cons s0 cr =>
          refine iteT ?_
          rw [← hcs]
          have hcl : 0 < cs.length := by
            rw [hcs]
            exact Nat.succ_pos _
          refine ⟨_, rfl, _, rfl, a, b, n + 2 + i, D, acc, rfl, z2, by omega, SqL.of (by rw [hid_ne Da Db]; exact z5), by omega, by omega, fun H2 i2 x e2 s2 hx2 => ?_⟩
          obtain ⟨s, d, hs, rfl, hcd⟩ := sts_get z6 hx2
          refine ⟨by show 1 ≤ sizeLine; decide, fun p hp => ?_⟩
          have y := Ex.new (o := .lst [V.ref d]) hp
          have z3' := y _ _ (e2.at z3 Fa Fb)
          have z5' := y _ _ (e2.at z5 Da Db)
          refine ⟨Fo, p, us, [.ref d], rfl, rfl, z3', upd_same, sz_le (by show _ + 1 ≤ _; omega), ?_⟩
          have tp := ((tps_hid e2 z2).trans (tps_mono y)).trans (tps_upd (o := .lst (us ++ [.ref d])) (NoTup.lst z3'))
          refine ⟨us ++ [.ref d], ws ++ [s], rfl, ExS.own ((z1.trans e2).trans (hid_mono y)) hFo Fa Fb, ((s2.ex y).upd Fa Fb).mono (by omega), upd_same, ?_, fun z hz => ?_, by rw [List.length_append]; exact Nat.succ_le_succ q6, by rw [upd_ne DF]; exact z5', dpa_ex tp _ _ z6, fun _ => by simp⟩
          · rw [List.map_append]
            exact dpa_app (dpa_ex tp _ _ z4) (.cons (dp_ex tp _ _ hcd) .nil)
          · rcases List.mem_append.mp hz with hz | hz
            · exact q5 z hz
            · rw [List.mem_singleton.mp hz]
              exact p4 s (mem_of_get hs)
      rintro σ G6 ⟨us', ws', rfl, r1, r2, r3, r4, r5, r6, r7, r8, r9⟩
      refine ⟨_, rfl, Nat.zero_le _, fun L hL => ?_⟩
      have eL := Ex.new (o := .lst []) hL
      refine ⟨.list (cs.map stD), .list [], .lst (SqL.of (eL _ _ r7)) (dpa_ex (tps_le.trans eL) _ _ r8), .lst (SqL.of upd_same) .nil, stDs_shaped cs, rfl, _, rfl, ?_⟩
      generalize upd G6 L (.lst []) = G7 at eL ⊢
      have fin : ∀ h', ∃ (h : Int) (x5 x6 : Option V) (us : List V) (ws : List St5), [some (V.ref a), some (.int c), some (.ref t), some (.int h'), some (.ref Fo), some (.int (0 + (i : Int))), some (.ref D), none] = [some (.ref a), some (.int c), some (.ref t), some (.int h), some (.ref Fo), x5, x6, none] ∧ ExS a b H G7 ∧ SAt G7 a b (n + 2 + (i + 1)) ∧ G7 Fo = some (.lst us) ∧ DpAll K (tps G7) us (ws.map stD) ∧ (∀ s ∈ ws, s ∈ ss) ∧ ws.length ≤ i + 1 := fun h' => ⟨_, _, _, us', ws', rfl, r1.trans (hid_mono eL), r2.ex eL, eL _ _ r3, dpa_ex (tps_mono eL) _ _ r4, r5, r6⟩
      rw [eqv_sts_nil]
      cases hcs : cs with
      | nil =>
        refine iteF ?_
        exact ⟨_, rfl, fin hh⟩
      | cons s0 cr =>
        refine iteT ?_
        have hne := r9 (by rw [hcs]; simp)
        obtain ⟨t0, ht0⟩ : ∃ t0, ws'.getLast? = some t0 := by
          cases h2 : ws'.getLast? with
          | none => exact absurd (List.getLast?_eq_none_iff.mp h2) hne
          | some t => exact ⟨t, rfl⟩
        obtain ⟨tb', htb, htD⟩ := last_at (dpa_ex (tps_le.trans eL) _ _ r4) ht0
        obtain ⟨_, tu, et, tp1, _⟩ := stD_inv htD
        cases et
        exact ⟨_, rfl, _, rfl, Fo, _, (-1 : Int), _, rfl, rfl, SqL.of (eL _ _ r3), htb, tb', _, 1, .int t0.other, rfl, rfl, tp1, rfl, fin t0.other⟩
    · rintro σ G ⟨hh, x5, x6, us, ws, rfl, q1, q2, q3, q4, q5, q6⟩
      exact ⟨_, x5, x6, us, ws, rfl, q1, q2.mono (by omega), q3, q4, q5, by omega⟩
end
end AA

set_option Elab.async false
set_option linter.all false
set_option maxRecDepth 100000
set_option maxHeartbeats 4000000
/-! _law_bent. -/
namespace AA
open PySem PySem.Spec PyProof.Rows L2 Evl
/-- a function of the module -/
def FnV (K : PySem.W.Frag) (f : Addr) : Prop := ∃ (od : Option Addr) (fd : FuncData) (osl : Array (Option Value)), K.lookup f = some ⟨.type "function", od, .func fd, osl⟩
theorem lk_fnv {K : PySem.W.Frag} {F : Hp} {f : Addr} (h : FnV K f) : Lk K F (.ref f) false := by
  obtain ⟨od, fd, osl, h⟩ := h
  exact lk_fn h rfl
theorem ni_fnv {K : PySem.W.Frag} {F : Hp} {f : Addr} (h : FnV K f) : NotI K F (.ref f) := by
  obtain ⟨od, fd, osl, h⟩ := h
  exact ni_fn h rfl
theorem gh_ex {H G : Hp} {g : Addr} (hg : H g = none) (e : Ex H G) : Ex H (hid g g G) := fun x o h => by
  have := ne_of_none h hg
  rw [hid_ne this this]
  exact e _ _ h
theorem strOk_small : ∀ n : Fin 19, PyData.strOk ((toString ((n : Int) - 9) : String) : Str) = true := by decide +kernel
theorem strOk_of {i : Int} (h0 : -9 ≤ i) (h1 : i ≤ 9) : PyData.strOk ((toString i : String) : Str) = true := by
  have := strOk_small ⟨(i + 9).toNat, by omega⟩
  have e : (((⟨(i + 9).toNat, by omega⟩ : Fin 19) : Nat) : Int) - 9 = i := by
    show (((i + 9).toNat : Nat) : Int) - 9 = i
    omega
  rw [show ((⟨(i + 9).toNat, by omega⟩ : Fin 19) : Int) = (((i + 9).toNat : Nat) : Int) from rfl] at this
  have e2 : (((i + 9).toNat : Nat) : Int) - 9 = i := by omega
  rw [e2] at this
  exact this
theorem dpa_drop {K : PySem.W.Frag} {H : Hp} : ∀ {xs : List V} {ds : List PyData} (j : Nat), DpAll K H xs ds → DpAll K H (xs.drop j) (ds.drop j)
  | [], _, j, h => by
    cases h
    rw [List.drop_nil, List.drop_nil]
    exact .nil
  | x :: xs, _, 0, h => h
  | x :: xs, _, j + 1, h => by
    cases h with
    | cons h1 h2 => exact dpa_drop j h2
theorem dpa_rev {K : PySem.W.Frag} {H : Hp} : ∀ {xs : List V} {ds : List PyData}, DpAll K H xs ds → DpAll K H xs.reverse ds.reverse
  | [], _, h => by
    cases h
    exact .nil
  | x :: xs, _, h => by
    cases h with
    | cons h1 h2 =>
      rw [List.reverse_cons, List.reverse_cons]
      exact dpa_app (dpa_rev h2) (.cons h1 .nil)
theorem cut_1 (xs : List V) : cutV xs (some 1) none = xs.drop 1 := cut_from xs 1
theorem cut_t1 (xs : List V) : cutV xs none (some 1) = xs.take 1 := cut_to xs 1
theorem cut_init (xs : List V) : cutV xs none (some (-1)) = xs.take (xs.length - 1) := by
  unfold cutV
  have h : HT.sIx xs.length xs.length (some (-1)) = xs.length - 1 := by
    show (if (-1 : Int) < 0 then ((-1 : Int) + (xs.length : Int)).toNat else min (-1 : Int).toNat xs.length) = xs.length - 1
    rw [if_pos (by decide)]
    omega
  rw [h, HT.sIx_none, List.drop_zero, Nat.sub_zero]
section
variable {K : PySem.W.Frag}
/-- a thing that is handed to is_pass -/
def BtOk (K : PySem.W.Frag) (F : Hp) (v : V) : Prop := (∃ p, v = .ref p ∧ F p = some (.dK [])) ∨ (∃ f, v = .ref f ∧ FnV K f) ∨ ∃ d, Dp K F v d ∧ dOk d = true ∧ d.depth ≤ 4 ∧ cnt d ≤ 500
theorem BtOk.ex {F F' : Hp} {v : V} (h : BtOk K F v) (e : Ex F F') : BtOk K F' v := h.imp (fun ⟨p, h1, h2⟩ => ⟨p, h1, e _ _ h2⟩) (Or.imp id fun ⟨d, h1, h2⟩ => ⟨d, dp_ex e _ _ h1, h2⟩)
theorem bt_lst {F : Hp} {p : Addr} {xs : List V} {ds : List PyData} (h : F p = some (.lst xs)) (hd : DpAll K F xs ds) (ho : dOkA ds = true) (hz : PyData.depthAll ds ≤ 3) (hc : cntA ds ≤ 400) : BtOk K F (.ref p) := by
  have hl := cntA_len ds
  refine .inr (.inr ⟨.list ds, .lst (SqL.of h) hd, ?_, ?_, ?_⟩)
  · show (decide (ds.length ≤ 1000000) && dOkA ds) = true
    rw [ho, decide_eq_true (by omega)]
    rfl
  · show PyData.depthAll ds + 1 ≤ 4
    omega
  · show cntA ds + 1 ≤ 500
    omega
theorem bt_tup {F : Hp} {p : Addr} {xs : List V} {ds : List PyData} (h : F p = some (.tup xs)) (hd : DpAll K F xs ds) (ho : dOkA ds = true) (hz : PyData.depthAll ds ≤ 3) (hc : cntA ds ≤ 400) : BtOk K F (.ref p) := by
  have hl := cntA_len ds
  refine .inr (.inr ⟨.tuple ds, .tup (SqT.of h) hd, ?_, ?_, ?_⟩)
  · show (decide (ds.length ≤ 1000000) && dOkA ds) = true
    rw [ho, decide_eq_true (by omega)]
    rfl
  · show PyData.depthAll ds + 1 ≤ 4
    omega
  · show cntA ds + 1 ≤ 500
    omega
theorem bt_wk {F : Hp} {p : Addr} {xs : List V} {u : List St5} (h : F p = some (.lst xs)) (hd : DpAll K F xs (u.map stD)) (hl : u.length ≤ 40) : BtOk K F (.ref p) :=
  bt_lst h hd (dok_sts u) (by have := stDs_depth u; omega) (by rw [cnt_sts]; omega)
theorem dokA_app : ∀ (xs ys : List PyData), dOkA (xs ++ ys) = (dOkA xs && dOkA ys)
  | [], _ => rfl
  | x :: xs, ys => by
    show (dOk x && dOkA (xs ++ ys)) = ((dOk x && dOkA xs) && dOkA ys)
    rw [dokA_app xs ys, Bool.and_assoc]
theorem depA_app : ∀ (xs ys : List PyData), PyData.depthAll (xs ++ ys) = max (PyData.depthAll xs) (PyData.depthAll ys)
  | [], ys => (Nat.zero_max _).symm
  | x :: xs, ys => by
    show max (PyData.depth x) (PyData.depthAll (xs ++ ys)) = max (max (PyData.depth x) (PyData.depthAll xs)) (PyData.depthAll ys)
    rw [depA_app xs ys, Nat.max_assoc]
/-- steps and None, as they come -/
theorem some_data {F : Hp} {us : List V} {ss : List St5} (hD : DpAll K F us (ss.map stD)) : ∀ acc : List V, (∀ y ∈ acc, y ∈ us ++ [V.non]) → ∃ ds, DpAll K F acc ds ∧ dOkA ds = true ∧ PyData.depthAll ds ≤ 2 ∧ cntA ds ≤ 8 * acc.length
  | [], _ => ⟨[], .nil, rfl, by decide, Nat.le_refl _⟩
  | y :: acc, h => by
    obtain ⟨ds, h1, h2, h3, h4⟩ := some_data hD acc fun z hz => h z (List.mem_cons_of_mem _ hz)
    have one : ∃ d, Dp K F y d ∧ dOk d = true ∧ d.depth ≤ 2 ∧ cnt d ≤ 8 := by
      rcases List.mem_append.mp (h y List.mem_cons_self) with hy | hy
      · obtain ⟨i, hi⟩ := List.mem_iff_getElem?.mp hy
        obtain ⟨s, b, hs, rfl, hb⟩ := sts_get hD hi
        refine ⟨stD s, hb, ?_, Nat.le_of_eq (stD_depth s), Nat.le_refl 8⟩
        have := dok_sts [s]
        show dOk (stD s) = true
        have e : (dOk (stD s) && true) = true := this
        rwa [Bool.and_true] at e
      · obtain rfl := List.mem_singleton.mp hy
        exact ⟨.none, .non, rfl, by decide, by decide⟩
    obtain ⟨d, d1, d2, d3, d4⟩ := one
    refine ⟨d :: ds, .cons d1 h1, ?_, ?_, ?_⟩
    · show (dOk d && dOkA ds) = true
      rw [d2, h2]
      rfl
    · show max (PyData.depth d) (PyData.depthAll ds) ≤ 2
      omega
    · show cnt d + cntA ds ≤ 8 * (acc.length + 1)
      omega
end
section
variable {K : PySem.W.Frag}
/-- a thing near to a step -/
def NrOk (K : PySem.W.Frag) (F : Hp) (v : V) : Prop := ∃ d, Dp K F v d ∧ dOk d = true ∧ d.depth ≤ 2 ∧ cnt d ≤ 10
theorem NrOk.ex {F F' : Hp} {v : V} (h : NrOk K F v) (e : Ex F F') : NrOk K F' v := let ⟨d, h1, h2⟩ := h; ⟨d, dp_ex e _ _ h1, h2⟩
theorem nr_tup {F : Hp} {p : Addr} {xs : List V} {ds : List PyData} (h : F p = some (.tup xs)) (hd : DpAll K F xs ds) (ho : dOkA ds = true) (hz : PyData.depthAll ds ≤ 1) (hc : cntA ds ≤ 9) : NrOk K F (.ref p) := by
  have hl := cntA_len ds
  refine ⟨.tuple ds, .tup (SqT.of h) hd, ?_, ?_, ?_⟩
  · show (decide (ds.length ≤ 1000000) && dOkA ds) = true
    rw [ho, decide_eq_true (by omega)]
    rfl
  · show PyData.depthAll ds + 1 ≤ 2
    omega
  · show cntA ds + 1 ≤ 10
    omega
end
/-- the heap without the stream and two more things -/
def h3 (a b D D1 : Addr) (H : Hp) : Hp := hid D D1 (hid a b H)
theorem h3_mono {a b D D1 : Addr} {H H' : Hp} (e : Ex H H') : Ex (h3 a b D D1 H) (h3 a b D D1 H') := hid_mono (hid_mono e)
theorem h3_S {a b D D1 : Addr} {H H' : Hp} (e : ExS a b H H') : Ex (h3 a b D D1 H) (h3 a b D D1 H') := hid_mono e
theorem h3_le {a b D D1 : Addr} {H : Hp} : Ex (h3 a b D D1 H) (hid a b H) := hid_ex
theorem h3_ne {a b D D1 p : Addr} {H : Hp} (pa : p ≠ a) (pb : p ≠ b) (pD : p ≠ D) (pE : p ≠ D1) : h3 a b D D1 H p = H p := by
  unfold h3
  rw [hid_ne pD pE, hid_ne pa pb]
section
variable {P : Program} {w : World} {K : PySem.W.Frag} {mg : Str → Option Value} {base : Heap}
def spBent (K : PySem.W.Frag) : Sp := fun vs H Q _ => ∃ (a b D0 D1 : Addr) (o0 o1 : HO) (n : Nat) (g q : Addr) (us xs : List V) (ss u : List St5), vs = [.ref a, .ref g, .ref q] ∧ SAt H a b n ∧ n < 900000000 ∧ H D0 = some o0 ∧ H D1 = some o1 ∧ h3 a b D0 D1 H g = some (.lst us) ∧ DpAll K (h3 a b D0 D1 H) us (ss.map stD) ∧ ss.length ≤ 100 ∧ h3 a b D0 D1 H q = some (.lst xs) ∧ DpAll K (h3 a b D0 D1 H) xs (u.map stD) ∧ u.length ≤ 15 ∧ (∀ s ∈ u, StSm s) ∧
  ∀ (H' : Hp) (v : V), ExS a b H H' → SAt H' a b (n + 5) → BtOk K (h3 a b D0 D1 H') v → Q v H'
abbrev nmBent : List Str := ["_law_stream_here", "_law_steps", "_law_walk", "_law_some", "_law_k", "_law_at", "_law_one", "_law_other", "_law_amounts_here", "_law_ticks", "_law_change", "_law_near", "_law_step_here"]
theorem scBent : FnScope nmBent ["_law_stream_here", "_law_steps", "_law_walk"] (defScope sBent) := ⟨rfl, rfl, rfl, by decide +kernel, rfl, by decide +kernel, by decide +kernel⟩
theorem ok_bent {f fD : Addr} {fd : FuncData} (F : L2.Fun K "_law_bent" "_law_bent" sBent f fd) (T : Bn mg) (hstr : mg "str" = none) (mD : mg "_law_draw" = some (.ref fD)) (vD : FnV K fD) (cD : C8.Cal P w K mg base 1 "_law_draw" spDraw []) (cP : C8.Cal P w K mg base 2 "_law_pick" (spPick K) []) : FnOk P w K mg base CX0 3 f fd ["_law_stream_here", "_law_steps", "_law_walk"] (spBent K) := by
  refine F.ok scBent (fun vs H Q E h => ?_) (fun cdv A outer s H vs Q E hr h => ?_)
  · obtain ⟨a, b, D0, D1, o0, o1, n, g, q, us, xs, ss, u, rfl, _⟩ := h
    rfl
  · obtain ⟨a, b, D0, D1, o0, o1, n, g, q, us, xs, ss, u, rfl, hS, hn, hD0, hD1, hg, hD, hsz, hq, hX, hul, hsm, k⟩ := h
    refine ⟨_, Evl.pss_cut (ps_set (i := 3) scBent.nd rfl (Or.inl rfl) (pe_lst (pa_cons (pv 2) (pa_cons (pe_slice (r := rSlL K) sl_list (pv 2) (po_some pe_int) po_none) (pa_cons (pe_slice (r := rSlL K) sl_list (pv 2) po_none (po_some (pe_un un_neg pe_int))) (pa_cons (pe_op op_cat (pv 2) (pv 2)) (pa_cons (pe_rev (pv 2) (pe_un un_neg pe_int))
          (pa_cons (pe_op op_cat (pv 2) (pe_lst (pa_cons pe_non pa_nil))) (pa_cons (pe_lst (pa_cons (pv 2) pa_nil)) (pa_cons (pe_callTy call_tuple_of (by rfl) T.tuple boot_tuple (pa_cons (pv 2) pa_nil)) (pa_cons (pe_op op_cat (pv 2) (pe_slice (r := rSlL K) sl_list (pv 2) po_none (po_some pe_int))) pa_nil)))))))))))
      (Evl.pss_cut (ps_expr (pe_bm PySem.F.plainAttrs_list PySem.F.slot_list_extend PySem.F.type_list_extend mt_extend (pv 3) (pa_cons (pe_lst (pa_cons
          (pe_lc (own := [("_law_k", 4)]) (g := gName 4) (tt := tYes) (by rfl) scBent.nd (pi_range1 (by rfl) T.range (pa_cons pe_int pa_nil)) (blkOk_by (N := nmBent) (sc := defScope sBent) (by decide +kernel))
              (fun _ _ _ _ _ => pg_name (i := 4) scBent.nd rfl (Or.inl rfl)) (fun _ _ _ _ _ => pts_nil) (fun _ _ _ _ _ => C8.pe_c cP hr (by decide) (by rfl) (pa_cons (pv 0) (pa_cons (pe_op op_cat (pv 1) (pe_lst (pa_cons pe_non pa_nil))) pa_nil))))
          (pa_cons pe_non (pa_cons pe_int (pa_cons pe_str (pa_cons pe_dnewK (pa_cons pe_bl (pa_cons (pe_glob (v := .ref fD) (by rfl) mD rfl) pa_nil)))))))) pa_nil)))
      (Evl.pss_cut (ps_if (pt_cmpR (op_neD hr.units) (pv 2) (pe_lst pa_nil) (nomark _))
        (pss_cons (ps_set (i := 5) scBent.nd rfl (Or.inr rfl) (C8.pe_c cD hr (by decide) (by rfl) (pa_cons (pv 0) (pa_cons (pe_callB call_len_seq (by rfl) T.len PySem.boot_len (pa_cons (pv 2) pa_nil)) pa_nil))))
        (pss_cons (ps_asg (pe_ix (r := rIxL K) ix_list (pv 2) (pv 5) (fun _ _ => rfl)) (pg_tup (n := 5) rfl (pgs_cons (pg_name (i := 6) scBent.nd rfl (Or.inl rfl)) (pgs_cons (pg_name (i := 7) scBent.nd rfl (Or.inl rfl)) (pgs_cons (pg_name (i := 8) scBent.nd rfl (Or.inl rfl)) (pgs_cons (pg_name (i := 9) scBent.nd rfl (Or.inl rfl)) (pgs_cons (pg_name (i := 10) scBent.nd rfl (Or.inl rfl)) pgs_nil)))))))
        (Evl.pss_cut (ps_set (i := 11) scBent.nd rfl (Or.inl rfl) (pe_lst (pa_cons (pe_tup (pa_cons (pv 6) (pa_cons (pv 7) (pa_cons (pv 8) (pa_cons (pv 9) pa_nil))))) (pa_cons (pe_tup (pa_cons (pv 6) (pa_cons (pv 7) (pa_cons (pv 8) (pa_cons (pv 9) (pa_cons (pe_op op_add (pv 10) pe_int) pa_nil)))))) pa_nil))))
        (Evl.pss_cut (ps_expr (pe_bm PySem.F.plainAttrs_list PySem.F.slot_list_extend PySem.F.type_list_extend mt_extend (pv 11) (pa_cons (pe_lst (pa_cons (pe_tup (pa_cons (pv 6) (pa_cons (pv 7) (pa_cons (pv 8) (pa_cons (pv 9) (pa_cons pe_bl pa_nil)))))) (pa_cons (pe_tup (pa_cons (pv 6) (pa_cons (pv 7) (pa_cons (pe_tup (pa_cons (pe_ix ix_tup (pv 8) pe_int (fun _ _ => rfl)) (pa_cons (pe_callTy call_str_int (by rfl) hstr PySem.Pv.boot_str (pa_cons (pe_ix ix_tup (pv 8) pe_int (fun _ _ => rfl)) pa_nil)) pa_nil))) (pa_cons (pv 9) (pa_cons (pv 10) pa_nil)))))) pa_nil))) pa_nil)))
        (Evl.pss_cut (ps_expr (pe_bm PySem.F.plainAttrs_list PySem.F.slot_list_append PySem.F.type_list_append mt_append (pv 11) (pa_cons (pe_tup (pa_cons (pv 6) (pa_cons (pv 7) (pa_cons (pe_callTy call_list_of (by rfl) T.list boot_list (pa_cons (pv 8) pa_nil)) (pa_cons (pv 9) (pa_cons (pv 10) pa_nil)))))) pa_nil)))
        (Evl.pss_cut (ps_expr (pe_bm PySem.F.plainAttrs_list PySem.F.slot_list_extend PySem.F.type_list_extend mt_extend (pv 11) (pa_cons (pe_lst (pa_cons (pe_tup (pa_cons (pv 6) (pa_cons (pv 7) (pa_cons pe_int (pa_cons (pv 9) (pa_cons (pv 10) pa_nil)))))) (pa_cons (pe_tup (pa_cons (pe_cmpR op_eq (pv 6) pe_int (nomark _)) (pa_cons (pv 7) (pa_cons (pv 8) (pa_cons (pv 9) (pa_cons (pv 10) pa_nil)))))) (pa_cons pe_str pa_nil)))) pa_nil)))
        (pss_one (ps_expr (pe_bm PySem.F.plainAttrs_list PySem.F.slot_list_extend PySem.F.type_list_extend mt_extend (pv 3) (pa_cons (pe_op op_rep (pe_lc (own := [("_law_step_here", 12)]) (g := gName 12) (tt := tYes) (by rfl) scBent.nd (pi_list (pv 11)) (blkOk_by (N := nmBent) (sc := defScope sBent) (by decide +kernel)) (fun _ _ _ _ _ => pg_name (i := 12) scBent.nd rfl (Or.inl rfl)) (fun _ _ _ _ _ => pts_nil)
            (fun _ _ _ _ _ => pe_op op_cat (pe_op op_cat (pe_slice (r := rSlL K) sl_list (pv 2) po_none (po_some (pv 5))) (pe_lst (pa_cons (pv 12) pa_nil))) (pe_slice (r := rSlL K) sl_list (pv 2) (po_some (pe_op op_add (pv 5) pe_int)) po_none))) pe_int) pa_nil)))))))))) pss_nil)
      (pss_one (ps_ret (C8.pe_c cP hr (by decide) (by rfl) (pa_cons (pv 0) (pa_cons (pv 3) pa_nil))))))), ?_⟩
    have neD : ∀ {p : Addr}, H p = none → p ≠ D0 := fun h z => by
      rw [z, hD0] at h
      cases h
    have neE : ∀ {p : Addr}, H p = none → p ≠ D1 := fun h z => by
      rw [z, hD1] at h
      cases h
    have hxl := sts_len hX
    have hgl := sts_len hD
    refine ⟨fun σ G => ∃ (L : Addr) (os : List V), σ = [some (.ref a), some (.ref g), some (.ref q), some (.ref L), none, none, none, none, none, none, none, none, none] ∧ Ex H G ∧ G L = some (.lst os) ∧ H L = none ∧ os.length = 9 ∧ ∀ o ∈ os, BtOk K (hid L L (h3 a b D0 D1 G)) o, ?_, ?_⟩
    · have put : ∀ {G : Hp} {p : Addr} {o : HO}, Ex H G → G p = none → h3 a b D0 D1 (upd G p o) p = some o := fun e h => by
        have h0 := fresh_back e h
        rw [h3_ne (hS.nea h0) (hS.neb h0) (neD h0) (neE h0)]
        exact upd_same
      have kX : ∀ {G : Hp}, Ex H G → DpAll K (h3 a b D0 D1 G) xs (u.map stD) := fun e => dpa_ex (h3_mono e) _ _ hX
      have kq : ∀ {G : Hp}, Ex H G → G q = some (.lst xs) := fun e => e _ _ (hid_ex _ _ (h3_le _ _ hq))
      have bq : BtOk K (h3 a b D0 D1 H) (.ref q) := bt_wk hq hX (by omega)
      refine ⟨_, rfl, _, rfl, _, rfl, q, _, rfl, SqL.of (kq (Ex.refl H)), fun w1 hw1 => ?_⟩
      rw [cut_1]
      have y1 := Ex.new (o := .lst (xs.drop 1)) hw1
      have b1 : BtOk K (h3 a b D0 D1 (upd H w1 (.lst (xs.drop 1)))) (.ref w1) := bt_wk (u := u.drop 1) (put (Ex.refl H) hw1) (by rw [List.map_drop]; exact dpa_drop 1 (kX y1)) (by rw [List.length_drop]; omega)
      have bq1 := bq.ex (h3_mono y1)
      generalize upd H w1 (.lst (xs.drop 1)) = G1 at y1 b1 bq1 ⊢
      refine ⟨_, rfl, _, rfl, _, rfl, q, _, rfl, SqL.of (kq y1), fun w2 hw2 => ?_⟩
      rw [cut_init]
      have z2 := Ex.new (o := .lst (xs.take (xs.length - 1))) hw2
      have y2 := y1.trans z2
      have b2 : BtOk K (h3 a b D0 D1 (upd G1 w2 (.lst (xs.take (xs.length - 1))))) (.ref w2) := bt_wk (u := u.take (xs.length - 1)) (put y1 hw2) (by rw [List.map_take]; exact dpa_take _ (kX y2)) (by rw [List.length_take]; omega)
      have bq2 := bq1.ex (h3_mono z2)
      have b12 := b1.ex (h3_mono z2)
      generalize upd G1 w2 (.lst (xs.take (xs.length - 1))) = G2 at y2 b2 bq2 b12 ⊢
      refine ⟨_, rfl, _, rfl, q, q, _, _, rfl, rfl, kq y2, kq y2, sz_le (by omega), fun w3 hw3 => ?_⟩
      have z3 := Ex.new (o := .lst (xs ++ xs)) hw3
      have y3 := y2.trans z3
      have b3 : BtOk K (h3 a b D0 D1 (upd G2 w3 (.lst (xs ++ xs)))) (.ref w3) := bt_wk (u := u ++ u) (put y2 hw3) (by rw [List.map_append]; exact dpa_app (kX y3) (kX y3)) (by rw [List.length_append]; omega)
      have bq3 := bq2.ex (h3_mono z3)
      have b13 := b12.ex (h3_mono z3)
      have b23 := b2.ex (h3_mono z3)
      generalize upd G2 w3 (.lst (xs ++ xs)) = G3 at y3 b3 bq3 b13 b23 ⊢
      refine ⟨_, rfl, _, rfl, _, rfl, rfl, q, _, rfl, SqL.of (kq y3), fun w4 hw4 => ?_⟩
      have z4 := Ex.new (o := .lst xs.reverse) hw4
      have y4 := y3.trans z4
      have b4 : BtOk K (h3 a b D0 D1 (upd G3 w4 (.lst xs.reverse))) (.ref w4) := bt_wk (u := u.reverse) (put y3 hw4) (by rw [List.map_reverse]; exact dpa_rev (kX y4)) (by rw [List.length_reverse]; omega)
      have bq4 := bq3.ex (h3_mono z4)
      have b14 := b13.ex (h3_mono z4)
      have b24 := b23.ex (h3_mono z4)
      have b34 := b3.ex (h3_mono z4)
      generalize upd G3 w4 (.lst xs.reverse) = G4 at y4 b4 bq4 b14 b24 b34 ⊢
      refine ⟨_, rfl, by show 1 ≤ sizeLine; decide, fun n1 hn1 => ?_⟩
      have z5 := Ex.new (o := .lst [V.non]) hn1
      have y5 := y4.trans z5
      have j5 : upd G4 n1 (.lst [V.non]) n1 = some (.lst [V.non]) := upd_same
      generalize upd G4 n1 (.lst [V.non]) = G5 at z5 y5 j5 ⊢
      refine ⟨q, n1, _, _, rfl, rfl, kq y5, j5, sz_le (by show _ + 1 ≤ _; omega), fun w5 hw5 => ?_⟩
      have z6 := Ex.new (o := .lst (xs ++ [V.non])) hw5
      have y6 := y5.trans z6
      have b6 : BtOk K (h3 a b D0 D1 (upd G5 w5 (.lst (xs ++ [V.non])))) (.ref w5) := bt_lst (ds := u.map stD ++ [.none]) (put y5 hw5) (dpa_app (kX y6) (.cons .non .nil)) (by rw [dokA_app, dok_sts]; rfl) (by have := stDs_depth u; rw [depA_app]; show max _ 0 ≤ 3; omega) (by rw [cntA_app, cnt_sts]; show _ + 1 ≤ _; omega)
      have z46 := z5.trans z6
      have bq6 := bq4.ex (h3_mono z46)
      have b16 := b14.ex (h3_mono z46)
      have b26 := b24.ex (h3_mono z46)
      have b36 := b34.ex (h3_mono z46)
      have b46 := b4.ex (h3_mono z46)
      generalize upd G5 w5 (.lst (xs ++ [V.non])) = G6 at y6 b6 bq6 b16 b26 b36 b46 ⊢
      refine ⟨_, rfl, by show 1 ≤ sizeLine; decide, fun w6 hw6 => ?_⟩
      have z7 := Ex.new (o := .lst [V.ref q]) hw6
      have y7 := y6.trans z7
      have b7 : BtOk K (h3 a b D0 D1 (upd G6 w6 (.lst [V.ref q]))) (.ref w6) := bt_lst (ds := [wkD u]) (put y6 hw6) (.cons (.lst (SqL.of (h3_mono y7 _ _ hq)) (kX y7)) .nil) (by
          show (dOk (.list (u.map stD)) && true) = true
          show ((decide ((u.map stD).length ≤ 1000000) && dOkA (u.map stD)) && true) = true
          rw [dok_sts, List.length_map, decide_eq_true (by omega)]
          rfl) (by have := stDs_depth u; show max (PyData.depthAll (u.map stD) + 1) 0 ≤ 3; omega) (by show cntA (u.map stD) + 1 + 0 ≤ 400; rw [cnt_sts]; omega)
      have bq7 := bq6.ex (h3_mono z7)
      have b17 := b16.ex (h3_mono z7)
      have b27 := b26.ex (h3_mono z7)
      have b37 := b36.ex (h3_mono z7)
      have b47 := b46.ex (h3_mono z7)
      have b67 := b6.ex (h3_mono z7)
      generalize upd G6 w6 (.lst [V.ref q]) = G7 at y7 b7 bq7 b17 b27 b37 b47 b67 ⊢
      refine ⟨_, rfl, q, xs, rfl, .inl ⟨SqL.of (kq y7), fun w7 hw7 => ?_⟩⟩
      have z8 := Ex.new (o := .tup xs) hw7
      have y8 := y7.trans z8
      have b8 : BtOk K (h3 a b D0 D1 (upd G7 w7 (.tup xs))) (.ref w7) := bt_tup (put y7 hw7) (kX y8) (dok_sts u) (by have := stDs_depth u; omega) (by rw [cnt_sts]; omega)
      have bq8 := bq7.ex (h3_mono z8)
      have b18 := b17.ex (h3_mono z8)
      have b28 := b27.ex (h3_mono z8)
      have b38 := b37.ex (h3_mono z8)
      have b48 := b47.ex (h3_mono z8)
      have b68 := b67.ex (h3_mono z8)
      have b78 := b7.ex (h3_mono z8)
      generalize upd G7 w7 (.tup xs) = G8 at y8 b8 bq8 b18 b28 b38 b48 b68 b78 ⊢
      refine ⟨_, rfl, _, rfl, _, rfl, q, _, rfl, SqL.of (kq y8), fun s1 hs1 => ?_⟩
      rw [cut_t1]
      have z9 := Ex.new (o := .lst (xs.take 1)) hs1
      have y9 := y8.trans z9
      have j9 : upd G8 s1 (.lst (xs.take 1)) s1 = some (.lst (xs.take 1)) := upd_same
      generalize upd G8 s1 (.lst (xs.take 1)) = G9 at z9 y9 j9 ⊢
      refine ⟨q, s1, _, _, rfl, rfl, kq y9, j9, sz_le (by rw [List.length_take]; omega), fun w8 hw8 => ?_⟩
      have za := Ex.new (o := .lst (xs ++ xs.take 1)) hw8
      have ya := y9.trans za
      have ba : BtOk K (h3 a b D0 D1 (upd G9 w8 (.lst (xs ++ xs.take 1)))) (.ref w8) := bt_wk (u := u ++ u.take 1) (put y9 hw8) (by rw [List.map_append, List.map_take]; exact dpa_app (kX ya) (dpa_take 1 (kX ya))) (by rw [List.length_append, List.length_take]; omega)
      have z8a := z9.trans za
      generalize upd G9 w8 (.lst (xs ++ xs.take 1)) = Ga at za z8a ya ba ⊢
      refine ⟨by show 9 ≤ sizeLine; decide, fun L hL => ?_⟩
      have L0 := fresh_back ya hL
      have La := hS.nea L0
      have Lb := hS.neb L0
      refine ⟨L, _, rfl, ya.trans (Ex.new hL), upd_same, L0, rfl, fun o ho => ?_⟩
      have eL : Ex (h3 a b D0 D1 Ga) (hid L L (h3 a b D0 D1 (upd Ga L (.lst [V.ref q, V.ref w1, V.ref w2, V.ref w3, V.ref w4, V.ref w5, V.ref w6, V.ref w7, V.ref w8])))) := gh_ex (hid_none (hid_none hL)) (h3_mono (Ex.new hL))
      have e8 := (h3_mono (a := a) (b := b) (D := D0) (D1 := D1) z8a).trans eL
      simp only [List.mem_cons, List.not_mem_nil, or_false] at ho
      rcases ho with rfl | rfl | rfl | rfl | rfl | rfl | rfl | rfl | rfl
      · exact bq8.ex e8
      · exact b18.ex e8
      · exact b28.ex e8
      · exact b38.ex e8
      · exact b48.ex e8
      · exact b68.ex e8
      · exact b78.ex e8
      · exact b8.ex e8
      · exact ba.ex eL
    rintro σ G1 ⟨L, os, rfl, e1, hL1, L0, hol, hos⟩
    have La := hS.nea L0
    have Lb := hS.neb L0
    have LD := neD L0
    have LE := neE L0
    have S1 := hS.ex e1
    refine ⟨fun σ G => ∃ os : List V, σ = [some (.ref a), some (.ref g), some (.ref q), some (.ref L), none, none, none, none, none, none, none, none, none] ∧ ExS a b H G ∧ SAt G a b (n + 3) ∧ G L = some (.lst os) ∧ 0 < os.length ∧ os.length ≤ 20 ∧ ∀ o ∈ os, BtOk K (hid L L (h3 a b D0 D1 G)) o, ?_, ?_⟩
    · refine ⟨_, rfl, .inl ⟨rfl, _, SqL.of hL1⟩, 3, rfl, by decide, by decide, fun D hD0' => ?_⟩
      have Da := S1.nea hD0'
      have Db := S1.neb hD0'
      have DL : D ≠ L := fun z => by
        rw [z, hL1] at hD0'
        cases hD0'
      have S1D := S1.upd (o := .lst []) Da Db
      refine lc_range (lo := 0) (n := (3 : Int).toNat) (fun i G => ExS a b G1 G ∧ SAt G a b (n + i) ∧ ∃ acc : List V, G D = some (.lst acc) ∧ acc.length = i ∧ ∀ y ∈ acc, y ∈ us ++ [V.non]) ⟨ExS.own ExS.rfl hD0' Da Db, S1D, [], upd_same, rfl, fun y hy => absurd hy (by simp)⟩ ?_ ?_
      · rintro i G hi ⟨q1, q2, acc, q3, q4, q5⟩
        have hi3 : i < 3 := hi
        have e0 : ExS a b H G := (hid_mono (a := a) (b := b) e1).trans q1
        refine ⟨rfl, ?_⟩
        refine ⟨_, rfl, _, rfl, by show 1 ≤ sizeLine; decide, fun n1 hn1 => ?_⟩
        have z1 := Ex.new (o := .lst [V.non]) hn1
        have j1 : upd G n1 (.lst [V.non]) n1 = some (.lst [V.non]) := upd_same
        generalize upd G n1 (.lst [V.non]) = G2 at z1 j1 ⊢
        have eg2 : hid a b G2 g = some (.lst us) := hid_mono z1 _ _ (e0 _ _ (h3_le _ _ hg))
        refine ⟨g, n1, _, _, rfl, rfl, hid_ex _ _ eg2, j1, sz_le (by show _ + 1 ≤ _; omega), fun t ht => ?_⟩
        have z2 := Ex.new (o := .lst (us ++ [V.non])) ht
        have ta := (q2.ex z1).nea ht
        have tb := (q2.ex z1).neb ht
        have j2 : hid a b (upd G2 t (.lst (us ++ [V.non]))) t = some (.lst (us ++ [V.non])) := by
          rw [hid_ne ta tb]
          exact upd_same
        have z12 := z1.trans z2
        generalize upd G2 t (.lst (us ++ [V.non])) = G3 at z12 j2 ⊢
        refine ⟨a, b, n + i, t, us ++ [V.non], rfl, q2.ex z12, by omega, SqL.of j2, by rw [List.length_append]; exact Nat.succ_pos _, by rw [List.length_append]; show _ + 1 < _; omega, fun G4 j x e4 s4 hx => ?_⟩
        have e14 : ExS a b G G4 := (hid_mono (a := a) (b := b) z12).trans e4
        refine ⟨acc, e14.at q3 Da Db, by rw [q4]; exact sz_m (by omega), ?_, ?_, acc ++ [x], upd_same, by rw [List.length_append, q4]; rfl, fun y hy => ?_⟩
        · exact ExS.own (q1.trans e14) hD0' Da Db
        · exact s4.upd Da Db
        · rcases List.mem_append.mp hy with hy | hy
          · exact q5 y hy
          · obtain rfl := List.mem_singleton.mp hy
            exact mem_of_get hx
      · rintro G ⟨q1, q2, acc, q3, q4, q5⟩
        have q4 : acc.length = 3 := q4
        have e0 : ExS a b H G := (hid_mono (a := a) (b := b) e1).trans q1
        have S3 : SAt G a b (n + 3) := q2
        refine fun d5 hd5 => ⟨by show 7 ≤ sizeLine; decide, fun u5 hu5 => ?_⟩
        have y1 := Ex.new (o := .dK []) hd5
        have j1 : upd G d5 (.dK []) d5 = some (.dK []) := upd_same
        have j1h : h3 a b D0 D1 (upd G d5 (.dK [])) d5 = some (.dK []) := by
          rw [h3_ne (S3.nea hd5) (S3.neb hd5) (neD (e0.back S3 hd5)) (neE (e0.back S3 hd5))]
          exact upd_same
        generalize upd G d5 (.dK []) = A2 at y1 j1 j1h hu5 ⊢
        generalize hNs : ([V.ref D, V.non, V.int 5, V.str "ab", V.ref d5, V.bl true, V.ref fD] : List V) = Ns
        have y3 := Ex.new (o := .lst Ns) hu5
        have y123 := y1.trans y3
        have hLG : G L = some (.lst os) := q1.at hL1 La Lb
        have hL3 : upd A2 u5 (.lst Ns) L = some (.lst os) := y123 _ _ hLG
        have S5 := S3.ex y123
        have nl : Ns.length = 7 := by rw [← hNs]; rfl
        refine ⟨L, u5, os, Ns, rfl, rfl, hL3, upd_same, by rw [hol, nl]; decide, os ++ Ns, rfl, ?_, ?_, upd_same, by rw [List.length_append, nl]; omega, by rw [List.length_append, nl, hol]; decide, fun o ho => ?_⟩
        · exact ExS.own (e0.trans (hid_mono (a := a) (b := b) y123)) L0 La Lb
        · exact S5.upd La Lb
        · rw [show hid L L (h3 a b D0 D1 (upd (upd A2 u5 (.lst Ns)) L (.lst (os ++ Ns)))) = hid L L (h3 a b D0 D1 (upd A2 u5 (.lst Ns))) from by unfold h3; rw [hid_upd La Lb, hid_upd LD LE, hid_upda]]
          rcases List.mem_append.mp ho with ho | ho
          · exact (hos o ho).ex (hid_mono (h3_S (q1.trans (hid_mono (a := a) (b := b) y123))))
          · have ne : ∀ {p : Addr} {X : Hp} {o : HO}, G p = none → h3 a b D0 D1 X p = some o → hid L L (h3 a b D0 D1 X) p = some o := fun {p X o} h0 h => by
              have pL : p ≠ L := fun z => by
                rw [z, hLG] at h0
                cases h0
              rw [hid_ne pL pL]
              exact h
            have eN : Ex (h3 a b D0 D1 A2) (h3 a b D0 D1 (upd A2 u5 (.lst Ns))) := h3_mono y3
            rw [← hNs] at ho
            simp only [List.mem_cons, List.not_mem_nil, or_false] at ho
            rcases ho with rfl | rfl | rfl | rfl | rfl | rfl | rfl
            · obtain ⟨ds, d1, d2, d3, d4⟩ := some_data hD acc q5
              have hDh : h3 a b D0 D1 G D = some (.lst acc) := by
                rw [h3_ne Da Db (neD (fresh_back e1 hD0')) (neE (fresh_back e1 hD0'))]
                exact q3
              have hDX : hid L L (h3 a b D0 D1 (upd A2 u5 (.lst Ns))) D = some (.lst acc) := by
                rw [hid_ne DL DL]
                exact h3_mono y123 _ _ hDh
              refine bt_lst hDX (dpa_ex (fun z o hz => ?_) _ _ d1) d2 (by omega) (by rw [q4] at d4; omega)
              have zL : z ≠ L := fun e => by
                rw [e] at hz
                rw [hid_ex _ _ (h3_le _ _ hz)] at L0
                cases L0
              rw [hid_ne zL zL]
              exact h3_mono y123 _ _ (h3_S e0 _ _ hz)
            · exact .inr (.inr ⟨.none, .non, rfl, by decide, by decide⟩)
            · exact .inr (.inr ⟨.int 5, .int 5, rfl, by decide, by decide⟩)
            · exact .inr (.inr ⟨.str _, .str _, by decide +kernel, by show 0 ≤ 4; decide, by show 1 ≤ 500; decide⟩)
            · exact .inl ⟨_, rfl, ne hd5 (eN _ _ j1h)⟩
            · exact .inr (.inr ⟨.bool true, .bl true, rfl, by decide, by decide⟩)
            · exact .inr (.inl ⟨_, rfl, vD⟩)
    rintro σ G2 ⟨os2, rfl, e2, S2, hL2, hp2, hl2, hos2⟩
    have kq : ∀ {G : Hp}, ExS a b H G → G q = some (.lst xs) := fun e => hid_ex _ _ (e _ _ (h3_le _ _ hq))
    have kX : ∀ {G : Hp}, ExS a b H G → DpAll K (h3 a b D0 D1 G) xs (u.map stD) := fun e => dpa_ex (h3_S e) _ _ hX
    have h3G : ∀ {G : Hp}, Ex (h3 a b D0 D1 G) G := fun {G} => h3_le.trans hid_ex
    refine ⟨fun σ G => ∃ (x5 x6 x7 x8 x9 x10 x11 : Option V) (os : List V), σ = [some (.ref a), some (.ref g), some (.ref q), some (.ref L), none, x5, x6, x7, x8, x9, x10, x11, none] ∧ ExS a b H G ∧ SAt G a b (n + 4) ∧ G L = some (.lst os) ∧ 0 < os.length ∧ os.length ≤ 50 ∧ ∀ o ∈ os, BtOk K (hid L L (h3 a b D0 D1 G)) o, ?_, ?_⟩
    case refine_2 =>
      rintro σ G3 ⟨x5, x6, x7, x8, x9, x10, x11, os3, rfl, e3, S3, hL3, hp3, hl3, hos3⟩
      have hLh : hid a b G3 L = some (.lst os3) := by
        rw [hid_ne La Lb]
        exact hL3
      refine ⟨_, rfl, _, rfl, a, b, n + 4, L, os3, rfl, S3, by omega, SqL.of hLh, hp3, by omega, fun G4 j x e4 s4 hx => ?_⟩
      exact k G4 x (e3.trans e4) s4 ((hos3 x (mem_of_get hx)).ex (hid_ex.trans (h3_S e4)))
    refine ⟨_, rfl, Nat.zero_le _, fun l hl => ?_⟩
    have el := Ex.new (o := .lst []) hl
    refine ⟨.list (u.map stD), .list [], .lst (SqL.of (el _ _ (kq e2))) (dpa_ex (h3G.trans el) _ _ (kX e2)), .lst (SqL.of upd_same) .nil, stDs_shaped u, rfl, _, rfl, ?_⟩
    generalize upd G2 l (.lst []) = G3 at el ⊢
    have e3 : ExS a b H G3 := e2.trans (hid_mono el)
    have S3 := S2.ex el
    have hL3 := el _ _ hL2
    have hos3 : ∀ o ∈ os2, BtOk K (hid L L (h3 a b D0 D1 G3)) o := fun o ho => (hos2 o ho).ex (hid_mono (h3_mono el))
    rw [eqv_sts_nil]
    cases hue : u.isEmpty with
    | true => exact iteF ⟨none, none, none, none, none, none, none, os2, rfl, e3, S3.mono (by omega), hL3, hp2, by omega, hos3⟩
    | false =>
    refine iteT ?_
    have hxl := sts_len hX
    have hup : 0 < xs.length := by
      rw [hxl]
      cases u with
      | nil => cases hue
      | cons => exact Nat.succ_pos _
    refine ⟨_, rfl, _, rfl, q, xs, rfl, .inl (SqL.of (kq e3)), a, b, n + 3, (xs.length : Int), rfl, S3, by omega, by omega, by omega, fun G4 at4 e34 S4 at0 at1 => ?_⟩
    have e4 : ExS a b H G4 := e3.trans e34
    have hL4 := e34.at hL3 La Lb
    have hos4 : ∀ o ∈ os2, BtOk K (hid L L (h3 a b D0 D1 G4)) o := fun o ho => (hos3 o ho).ex (hid_mono (h3_S e34))
    obtain ⟨j, rfl⟩ : ∃ j : Nat, at4 = (j : Int) := ⟨at4.toNat, by omega⟩
    obtain ⟨v0, hv0⟩ : ∃ v, xs[j]? = some v := ⟨_, List.getElem?_eq_getElem (by omega)⟩
    obtain ⟨s0, t0, hs0, rfl, ht0⟩ := sts_get hX hv0
    obtain ⟨_, uu, ez, p1, p2⟩ := stD_inv ht0
    cases ez
    have sm0 := hsm s0 (mem_of_get hs0)
    have eh : ∀ {G : Hp}, ExS a b H G → Ex (h3 a b D0 D1 H) G := fun e => (h3_S e).trans h3G
    refine ⟨_, rfl, _, rfl, q, _, (j : Int), _, rfl, rfl, SqL.of (kq e4), atI_nat hv0, t0, _, rfl, ex_t (eh e4) p1, rfl, _, _, rfl, _, _, rfl, _, _, rfl, _, _, rfl, _, _, rfl, rfl, ?_⟩
    have eF1 : ∀ {G : Hp} {N : Addr}, ExS a b H G → H N = none → Ex (h3 a b D0 D1 H) (hid N N (hid L L (h3 a b D0 D1 G))) := fun e hN => gh_ex (hid_none (hid_none hN)) (gh_ex (hid_none (hid_none L0)) (h3_S e))
    have put : ∀ {G G' : Hp} {p N : Addr} {o : HO} {m : Nat} {lo : List V}, ExS a b H G → SAt G a b m → G L = some (.lst lo) → G p = none → p ≠ N → G' p = some o → hid N N (hid L L (h3 a b D0 D1 G')) p = some o := fun {G G' p N o m lo} e S hl hp n h => by
      have pL : p ≠ L := (ne_of_none hl hp).symm
      rw [hid_ne n n, hid_ne pL pL, h3_ne (S.nea hp) (S.neb hp) (neD (e.back S hp)) (neE (e.back S hp))]
      exact h
    generalize hB0 : hid L L (h3 a b D0 D1 G4) = B0 at hos4
    have eB04 : Ex B0 (hid L L (h3 a b D0 D1 G4)) := by rw [hB0]; exact Ex.refl _
    have B0n : ∀ {z : Addr}, G4 z = none → B0 z = none := fun h => by rw [← hB0]; exact hid_none (hid_none (hid_none h))
    have dT : ∀ {F : Hp} {c : Int}, Ex (h3 a b D0 D1 H) F → DpAll K F [.int s0.one, .int s0.other, .ref uu, .int s0.ticks, .int c] [.int s0.one, .int s0.other, .tuple [.int s0.p, .int s0.q], .int s0.ticks, .int c] := fun e => .cons (.int _) (.cons (.int _) (.cons (.tup (ex_t e p2) (.cons (.int _) (.cons (.int _) .nil))) (.cons (.int _) (.cons (.int _) .nil))))
    -- near, the first two
    refine ⟨fun σ G => ∃ (N : Addr) (ns : List V), σ = [some (.ref a), some (.ref g), some (.ref q), some (.ref L), none, some (.int (j : Int)), some (.int s0.one), some (.int s0.other), some (.ref uu), some (.int s0.ticks), some (.int s0.change), some (.ref N), none] ∧ ExS a b H G ∧ SAt G a b (n + 4) ∧ G L = some (.lst os2) ∧ Ex B0 (hid L L (h3 a b D0 D1 G)) ∧ B0 N = none ∧ H N = none ∧ N ≠ L ∧ G N = some (.lst ns) ∧ ns.length = 2 ∧ ∀ y ∈ ns, NrOk K (hid N N (hid L L (h3 a b D0 D1 G))) y, ?_, ?_⟩
    · refine ⟨_, rfl, _, rfl, _, rfl, _, rfl, by show 4 ≤ sizeLine; decide, fun w1 hw1 => ?_⟩
      have y1 := Ex.new (o := .tup [V.int s0.one, V.int s0.other, V.ref uu, V.int s0.ticks]) hw1
      have j1 : upd G4 w1 (.tup [V.int s0.one, V.int s0.other, V.ref uu, V.int s0.ticks]) w1 = some (.tup [V.int s0.one, V.int s0.other, V.ref uu, V.int s0.ticks]) := upd_same
      generalize upd G4 w1 (.tup [V.int s0.one, V.int s0.other, V.ref uu, V.int s0.ticks]) = G5 at y1 j1 ⊢
      refine ⟨_, rfl, _, rfl, _, rfl, _, rfl, _, rfl, _, _, rfl, rfl, by show 5 ≤ sizeLine; decide, fun w2 hw2 => ?_⟩
      have y2 := Ex.new (o := .tup [V.int s0.one, V.int s0.other, V.ref uu, V.int s0.ticks, V.int (s0.change + 20)]) hw2
      have j2 : upd G5 w2 (.tup [V.int s0.one, V.int s0.other, V.ref uu, V.int s0.ticks, V.int (s0.change + 20)]) w2 = some (.tup [V.int s0.one, V.int s0.other, V.ref uu, V.int s0.ticks, V.int (s0.change + 20)]) := upd_same
      generalize upd G5 w2 (.tup [V.int s0.one, V.int s0.other, V.ref uu, V.int s0.ticks, V.int (s0.change + 20)]) = G6 at y2 j2 ⊢
      refine ⟨by show 2 ≤ sizeLine; decide, fun N hN => ?_⟩
      have y12 := y1.trans y2
      have y3 := Ex.new (o := .lst [V.ref w1, V.ref w2]) hN
      have e6 : ExS a b H G6 := e4.trans (hid_mono y12)
      have S6 := S4.ex y12
      have N0 := e6.back S6 hN
      have y123 := y12.trans y3
      have e7 : ExS a b H (upd G6 N (.lst [V.ref w1, V.ref w2])) := e4.trans (hid_mono y123)
      refine ⟨N, _, rfl, e7, S4.ex y123, y123 _ _ hL4, eB04.trans (hid_mono (h3_mono y123)), B0n (fresh_back y12 hN), N0, (ne_of_none (y12 _ _ hL4) hN).symm, upd_same, rfl, fun y hy => ?_⟩
      have eB := eF1 e7 N0
      simp only [List.mem_cons, List.not_mem_nil, or_false] at hy
      rcases hy with rfl | rfl
      · exact nr_tup (put e4 S4 hL4 hw1 (ne_of_none (y2 _ _ j1) hN) ((y2.trans y3) _ _ j1)) (.cons (.int _) (.cons (.int _) (.cons (.tup (ex_t eB p2) (.cons (.int _) (.cons (.int _) .nil))) (.cons (.int _) .nil)))) rfl (Nat.le_of_eq rfl) (by show (6 : Nat) ≤ 9; decide)
      · exact nr_tup (put (e4.trans (hid_mono y1)) (S4.ex y1) (y1 _ _ hL4) hw2 (ne_of_none j2 hN) (y3 _ _ j2)) (dT eB) rfl (Nat.le_of_eq rfl) (by show (7 : Nat) ≤ 9; decide)
    rintro σ G5 ⟨N, ns2, rfl, e5, S5, hL5, eB5, BN, N0, NL, hN5, hn5, hns5⟩
    have Na := hS.nea N0
    have Nb := hS.neb N0
    have ND := neD N0
    have NE := neE N0
    have hidN : ∀ {G : Hp} {o : HO}, hid N N (hid L L (h3 a b D0 D1 (upd G N o))) = hid N N (hid L L (h3 a b D0 D1 G)) := fun {G o} => by
      unfold h3
      rw [hid_upd Na Nb, hid_upd ND NE, hid_upd NL NL, hid_upda]
    have mutB : ∀ {G : Hp} {o : HO}, Ex B0 (hid L L (h3 a b D0 D1 G)) → Ex B0 (hid L L (h3 a b D0 D1 (upd G N o))) := fun {G o} h => by
      have : hid L L (h3 a b D0 D1 (upd G N o)) = upd (hid L L (h3 a b D0 D1 G)) N o := by
        unfold h3
        rw [hid_upd Na Nb, hid_upd ND NE, hid_upd NL NL]
      rw [this]
      exact h.mut BN
    -- two more
    refine ⟨fun σ G => ∃ ns : List V, σ = [some (.ref a), some (.ref g), some (.ref q), some (.ref L), none, some (.int (j : Int)), some (.int s0.one), some (.int s0.other), some (.ref uu), some (.int s0.ticks), some (.int s0.change), some (.ref N), none] ∧ ExS a b H G ∧ SAt G a b (n + 4) ∧ G L = some (.lst os2) ∧ Ex B0 (hid L L (h3 a b D0 D1 G)) ∧ G N = some (.lst ns) ∧ ns.length = 4 ∧ ∀ y ∈ ns, NrOk K (hid N N (hid L L (h3 a b D0 D1 G))) y, ?_, ?_⟩
    · refine ⟨_, rfl, .inl ⟨rfl, _, SqL.of hN5⟩, ?_⟩
      refine ⟨_, rfl, _, rfl, _, rfl, _, rfl, by show 5 ≤ sizeLine; decide, fun w1 hw1 => ?_⟩
      have y1 := Ex.new (o := .tup [V.int s0.one, V.int s0.other, V.ref uu, V.int s0.ticks, V.bl true]) hw1
      have j1 : upd G5 w1 (.tup [V.int s0.one, V.int s0.other, V.ref uu, V.int s0.ticks, V.bl true]) w1 = some (.tup [V.int s0.one, V.int s0.other, V.ref uu, V.int s0.ticks, V.bl true]) := upd_same
      generalize upd G5 w1 (.tup [V.int s0.one, V.int s0.other, V.ref uu, V.int s0.ticks, V.bl true]) = G6 at y1 j1 ⊢
      have e6 : ExS a b H G6 := e5.trans (hid_mono y1)
      refine ⟨_, rfl, _, rfl, _, rfl, uu, _, 0, .int s0.p, rfl, rfl, ex_t (eh e6) p2, rfl, _, rfl, uu, _, 1, .int s0.q, rfl, rfl, ex_t (eh e6) p2, rfl, s0.q, rfl, ?_, by show 2 ≤ sizeLine; decide, fun w2 hw2 => ?_⟩
      · have h1 := sm0.q0
        have h2 := sm0.q1
        have h3 : s0.q.natAbs ≤ 9 := by omega
        exact Nat.lt_of_le_of_lt (Nat.log2_le_self _) (by omega)
      generalize hz2 : ([V.int s0.p, V.str (toString s0.q)] : List V) = z2 at hw2 ⊢
      have y2 := Ex.new (o := .tup z2) hw2
      have j2 : upd G6 w2 (.tup z2) w2 = some (.tup z2) := upd_same
      generalize upd G6 w2 (.tup z2) = G7 at y2 j2 ⊢
      refine ⟨_, rfl, _, rfl, by show 5 ≤ sizeLine; decide, fun w3 hw3 => ?_⟩
      have y3 := Ex.new (o := .tup [V.int s0.one, V.int s0.other, V.ref w2, V.int s0.ticks, V.int s0.change]) hw3
      have j3 : upd G7 w3 (.tup [V.int s0.one, V.int s0.other, V.ref w2, V.int s0.ticks, V.int s0.change]) w3 = some (.tup [V.int s0.one, V.int s0.other, V.ref w2, V.int s0.ticks, V.int s0.change]) := upd_same
      generalize upd G7 w3 (.tup [V.int s0.one, V.int s0.other, V.ref w2, V.int s0.ticks, V.int s0.change]) = G8 at y3 j3 ⊢
      refine ⟨by show 2 ≤ sizeLine; decide, fun w4 hw4 => ?_⟩
      have y4 := Ex.new (o := .lst [V.ref w1, V.ref w3]) hw4
      have y34 := y3.trans y4
      have y234 := y2.trans y34
      have y14 := y1.trans y234
      have e9 : ExS a b H (upd G8 w4 (.lst [V.ref w1, V.ref w3])) := e5.trans (hid_mono y14)
      have S9 := S5.ex y14
      have eB9 := eB5.trans (hid_mono (h3_mono (a := a) (b := b) (D := D0) (D1 := D1) y14))
      have hL9 := y14 _ _ hL5
      have hN9 := y14 _ _ hN5
      have j19 := y234 _ _ j1
      have j29 := y34 _ _ j2
      have j39 := y4 _ _ j3
      refine ⟨N, w4, ns2, _, rfl, rfl, hN9, upd_same, sz_le (by rw [hn5]; show 2 + 2 ≤ 1000000; decide), ns2 ++ [V.ref w1, V.ref w3], rfl, ExS.own e9 N0 Na Nb, S9.upd Na Nb, by rw [upd_ne NL.symm]; exact hL9, mutB eB9, upd_same, by rw [List.length_append, hn5]; rfl, fun y hy => ?_⟩
      rw [hidN]
      rcases List.mem_append.mp hy with hy | hy
      · exact (hns5 y hy).ex (hid_mono (hid_mono (h3_mono y14)))
      have eB := eF1 e9 N0
      have w1N := (ne_of_none hN5 hw1).symm
      have w2N := (ne_of_none (y1 _ _ hN5) hw2).symm
      have w3N := (ne_of_none ((y1.trans y2) _ _ hN5) hw3).symm
      simp only [List.mem_cons, List.not_mem_nil, or_false] at hy
      rcases hy with rfl | rfl
      · exact nr_tup (put e5 S5 hL5 hw1 w1N j19) (.cons (.int _) (.cons (.int _) (.cons (.tup (ex_t eB p2) (.cons (.int _) (.cons (.int _) .nil))) (.cons (.int _) (.cons (.bl true) .nil))))) rfl (Nat.le_of_eq rfl) (by show (7 : Nat) ≤ 9; decide)
      · have k2 := put e6 (S5.ex y1) (y1 _ _ hL5) hw2 w2N j29
        rw [← hz2] at k2
        refine nr_tup (ds := [.int s0.one, .int s0.other, .tuple [.int s0.p, .str (toString s0.q)], .int s0.ticks, .int s0.change]) (put (e6.trans (hid_mono y2)) ((S5.ex y1).ex y2) ((y1.trans y2) _ _ hL5) hw3 w3N j39) (.cons (.int _) (.cons (.int _) (.cons (.tup (SqT.of k2) (.cons (.int _) (.cons (.str _) .nil))) (.cons (.int _) (.cons (.int _) .nil))))) ?_ (Nat.le_of_eq rfl) (by show (7 : Nat) ≤ 9; decide)
        have := strOk_of sm0.q0 sm0.q1
        show (true && (true && ((decide ((2 : Nat) ≤ 1000000) && (true && (PyData.strOk _ && true))) && (true && (true && true))))) = true
        rw [this]
        rfl
    rintro σ G6 ⟨ns4, rfl, e6, S6, hL6, eB6, hN6, hn6, hns6⟩
    -- one more
    refine ⟨fun σ G => ∃ ns : List V, σ = [some (.ref a), some (.ref g), some (.ref q), some (.ref L), none, some (.int (j : Int)), some (.int s0.one), some (.int s0.other), some (.ref uu), some (.int s0.ticks), some (.int s0.change), some (.ref N), none] ∧ ExS a b H G ∧ SAt G a b (n + 4) ∧ G L = some (.lst os2) ∧ Ex B0 (hid L L (h3 a b D0 D1 G)) ∧ G N = some (.lst ns) ∧ ns.length = 5 ∧ ∀ y ∈ ns, NrOk K (hid N N (hid L L (h3 a b D0 D1 G))) y, ?_, ?_⟩
    · refine ⟨_, rfl, .inl ⟨rfl, _, SqL.of hN6⟩, ?_⟩
      refine ⟨_, rfl, _, rfl, _, rfl, uu, _, rfl, .inr (ex_t (eh e6) p2), fun w1 hw1 => ?_⟩
      have y1 := Ex.new (o := .lst [V.int s0.p, V.int s0.q]) hw1
      have j1 : upd G6 w1 (.lst [V.int s0.p, V.int s0.q]) w1 = some (.lst [V.int s0.p, V.int s0.q]) := upd_same
      generalize upd G6 w1 (.lst [V.int s0.p, V.int s0.q]) = G7 at y1 j1 ⊢
      refine ⟨_, rfl, _, rfl, by show 5 ≤ sizeLine; decide, fun w2 hw2 => ?_⟩
      have y2 := Ex.new (o := .tup [V.int s0.one, V.int s0.other, V.ref w1, V.int s0.ticks, V.int s0.change]) hw2
      have j2 : upd G7 w2 (.tup [V.int s0.one, V.int s0.other, V.ref w1, V.int s0.ticks, V.int s0.change]) w2 = some (.tup [V.int s0.one, V.int s0.other, V.ref w1, V.int s0.ticks, V.int s0.change]) := upd_same
      generalize upd G7 w2 (.tup [V.int s0.one, V.int s0.other, V.ref w1, V.int s0.ticks, V.int s0.change]) = G8 at y2 j2 ⊢
      have y12 := y1.trans y2
      have e8 : ExS a b H G8 := e6.trans (hid_mono y12)
      have S8 := S6.ex y12
      have hN8 := y12 _ _ hN6
      refine ⟨N, ns4, _, rfl, rfl, hN8, sz_m (by omega), ns4 ++ [V.ref w2], rfl, ExS.own e8 N0 Na Nb, S8.upd Na Nb, by rw [upd_ne NL.symm]; exact y12 _ _ hL6, mutB (eB6.trans (hid_mono (h3_mono y12))), upd_same, by rw [List.length_append, hn6]; rfl, fun y hy => ?_⟩
      rw [hidN]
      rcases List.mem_append.mp hy with hy | hy
      · exact (hns6 y hy).ex (hid_mono (hid_mono (h3_mono y12)))
      have w1N := (ne_of_none hN6 hw1).symm
      have w2N := (ne_of_none (y1 _ _ hN6) hw2).symm
      rw [List.mem_singleton.mp hy]
      have k1 := put e6 S6 hL6 hw1 w1N (y2 _ _ j1)
      exact nr_tup (ds := [.int s0.one, .int s0.other, .list [.int s0.p, .int s0.q], .int s0.ticks, .int s0.change]) (put (e6.trans (hid_mono y1)) (S6.ex y1) (y1 _ _ hL6) hw2 w2N j2) (.cons (.int _) (.cons (.int _) (.cons (.lst (SqL.of k1) (.cons (.int _) (.cons (.int _) .nil))) (.cons (.int _) (.cons (.int _) .nil))))) rfl (Nat.le_of_eq rfl) (by show (7 : Nat) ≤ 9; decide)
    rintro σ G7 ⟨ns5, rfl, e7, S7, hL7, eB7, hN7, hn7, hns7⟩
    -- the last three
    refine ⟨fun σ G => ∃ ns : List V, σ = [some (.ref a), some (.ref g), some (.ref q), some (.ref L), none, some (.int (j : Int)), some (.int s0.one), some (.int s0.other), some (.ref uu), some (.int s0.ticks), some (.int s0.change), some (.ref N), none] ∧ ExS a b H G ∧ SAt G a b (n + 4) ∧ G L = some (.lst os2) ∧ Ex B0 (hid L L (h3 a b D0 D1 G)) ∧ G N = some (.lst ns) ∧ ns.length = 8 ∧ ∀ y ∈ ns, NrOk K (hid N N (hid L L (h3 a b D0 D1 G))) y, ?_, ?_⟩
    · refine ⟨_, rfl, .inl ⟨rfl, _, SqL.of hN7⟩, ?_⟩
      refine ⟨_, rfl, _, rfl, _, rfl, _, rfl, by show 5 ≤ sizeLine; decide, fun w1 hw1 => ?_⟩
      have y1 := Ex.new (o := .tup [V.int s0.one, V.int s0.other, V.int 7, V.int s0.ticks, V.int s0.change]) hw1
      have j1 : upd G7 w1 (.tup [V.int s0.one, V.int s0.other, V.int 7, V.int s0.ticks, V.int s0.change]) w1 = some (.tup [V.int s0.one, V.int s0.other, V.int 7, V.int s0.ticks, V.int s0.change]) := upd_same
      generalize upd G7 w1 (.tup [V.int s0.one, V.int s0.other, V.int 7, V.int s0.ticks, V.int s0.change]) = G8 at y1 j1 ⊢
      refine ⟨_, rfl, rfl, _, rfl, _, rfl, _, rfl, _, rfl, by show 5 ≤ sizeLine; decide, fun w2 hw2 => ?_⟩
      generalize hbb : (decide (V.int s0.one = V.int 1)) = bb at hw2 ⊢
      have y2 := Ex.new (o := .tup [V.bl bb, V.int s0.other, V.ref uu, V.int s0.ticks, V.int s0.change]) hw2
      have j2 : upd G8 w2 (.tup [V.bl bb, V.int s0.other, V.ref uu, V.int s0.ticks, V.int s0.change]) w2 = some (.tup [V.bl bb, V.int s0.other, V.ref uu, V.int s0.ticks, V.int s0.change]) := upd_same
      generalize upd G8 w2 (.tup [V.bl bb, V.int s0.other, V.ref uu, V.int s0.ticks, V.int s0.change]) = G9 at y2 j2 ⊢
      refine ⟨by show 3 ≤ sizeLine; decide, fun w3 hw3 => ?_⟩
      generalize hNs : ([V.ref w1, V.ref w2, V.str "abcde"] : List V) = Ns
      have nl : Ns.length = 3 := by rw [← hNs]; rfl
      have y3 := Ex.new (o := .lst Ns) hw3
      have y23 := y2.trans y3
      have y13 := y1.trans y23
      have e9 : ExS a b H (upd G9 w3 (.lst Ns)) := e7.trans (hid_mono y13)
      have hN9 := y13 _ _ hN7
      refine ⟨N, w3, ns5, Ns, rfl, rfl, hN9, upd_same, sz_le (by rw [hn7, nl]; decide), ns5 ++ Ns, rfl, ExS.own e9 N0 Na Nb, (S7.ex y13).upd Na Nb, by rw [upd_ne NL.symm]; exact y13 _ _ hL7, mutB (eB7.trans (hid_mono (h3_mono y13))), upd_same, by rw [List.length_append, hn7, nl], fun y hy => ?_⟩
      rw [hidN]
      rcases List.mem_append.mp hy with hy | hy
      · exact (hns7 y hy).ex (hid_mono (hid_mono (h3_mono y13)))
      have eB := eF1 e9 N0
      have w1N := (ne_of_none hN7 hw1).symm
      have w2N := (ne_of_none (y1 _ _ hN7) hw2).symm
      rw [← hNs] at hy
      simp only [List.mem_cons, List.not_mem_nil, or_false] at hy
      rcases hy with rfl | rfl | rfl
      · rw [← hNs]
        exact nr_tup (ds := [.int s0.one, .int s0.other, .int 7, .int s0.ticks, .int s0.change]) (put e7 S7 hL7 hw1 w1N (by rw [hNs]; exact y23 _ _ j1)) (.cons (.int _) (.cons (.int _) (.cons (.int _) (.cons (.int _) (.cons (.int _) .nil))))) rfl (by show (0 : Nat) ≤ 1; decide) (by show (5 : Nat) ≤ 9; decide)
      · exact nr_tup (ds := [.bool bb, .int s0.other, .tuple [.int s0.p, .int s0.q], .int s0.ticks, .int s0.change]) (put (e7.trans (hid_mono y1)) (S7.ex y1) (y1 _ _ hL7) hw2 w2N (y3 _ _ j2)) (.cons (.bl _) (.cons (.int _) (.cons (.tup (ex_t eB p2) (.cons (.int _) (.cons (.int _) .nil))) (.cons (.int _) (.cons (.int _) .nil))))) rfl (Nat.le_of_eq rfl) (by show (7 : Nat) ≤ 9; decide)
      · exact ⟨.str _, .str _, by decide +kernel, by show 0 ≤ 2; decide, by show 1 ≤ 10; decide⟩
    rintro σ G8 ⟨ns8, rfl, e8, S8, hL8, eB8, hN8, hn8, hns8⟩
    have hns8' : ∀ y ∈ ns8, NrOk K (hid L L (h3 a b D0 D1 G8)) y := fun y hy => (hns8 y hy).ex hid_ex
    have hos8 : ∀ o ∈ os2, BtOk K (hid L L (h3 a b D0 D1 G8)) o := fun o ho => (hos4 o ho).ex eB8
    refine ⟨_, rfl, .inl ⟨rfl, _, SqL.of hL8⟩, ?_⟩
    refine ⟨_, rfl, N, rfl, ⟨_, SqL.of hN8⟩, fun D hD0' => ?_⟩
    have Dz := e8.back S8 hD0'
    have Da := hS.nea Dz
    have Db := hS.neb Dz
    have DD := neD Dz
    have DE := neE Dz
    have DL : D ≠ L := (ne_of_none hL8 hD0').symm
    have eL0 : ∀ {G : Hp}, ExS a b H G → Ex (h3 a b D0 D1 H) (hid L L (h3 a b D0 D1 G)) := fun e => gh_ex (hid_none (hid_none L0)) (h3_S e)
    refine lc_list (xs := ns8) (fun i G => Ex G8 G ∧ ∃ acc : List V, G D = some (.lst acc) ∧ acc.length = i ∧ ∀ y ∈ acc, BtOk K (hid D D (hid L L (h3 a b D0 D1 G))) y) ⟨Ex.new hD0', [], upd_same, rfl, fun y hy => absurd hy (by simp)⟩ (fun i G _ z => SqL.of (z.1 _ _ hN8)) ?_ ?_
    · rintro i y G hy ⟨q1, acc, q2, q3, q4⟩
      have il := (List.getElem?_eq_some_iff.mp hy).1
      have eG : ExS a b H G := e8.trans (hid_mono q1)
      have SG := S8.ex q1
      have hLG := q1 _ _ hL8
      obtain ⟨d, dp, dok, dde, dc⟩ := hns8' y (mem_of_get hy)
      refine ⟨rfl, _, rfl, _, rfl, _, rfl, q, _, rfl, SqL.of (kq eG), fun w1 hw1 => ?_⟩
      rw [cut_to]
      have y1 := Ex.new (o := .lst (xs.take j)) hw1
      have j1 : upd G w1 (.lst (xs.take j)) w1 = some (.lst (xs.take j)) := upd_same
      generalize upd G w1 (.lst (xs.take j)) = A1 at y1 j1 ⊢
      refine ⟨_, rfl, by show 1 ≤ sizeLine; decide, fun w2 hw2 => ?_⟩
      have y2 := Ex.new (o := .lst [y]) hw2
      have j2 : upd A1 w2 (.lst [y]) w2 = some (.lst [y]) := upd_same
      generalize upd A1 w2 (.lst [y]) = A2 at y2 j2 ⊢
      refine ⟨w1, w2, _, _, rfl, rfl, y2 _ _ j1, j2, sz_le (by rw [List.length_take]; show _ + 1 ≤ _; omega), fun w3 hw3 => ?_⟩
      have y3 := Ex.new (o := .lst (xs.take j ++ [y])) hw3
      have j3 : upd A2 w3 (.lst (xs.take j ++ [y])) w3 = some (.lst (xs.take j ++ [y])) := upd_same
      generalize upd A2 w3 (.lst (xs.take j ++ [y])) = A3 at y3 j3 ⊢
      have y13 := y1.trans (y2.trans y3)
      refine ⟨_, rfl, _, rfl, _, _, rfl, rfl, _, rfl, q, _, rfl, SqL.of (kq (eG.trans (hid_mono y13))), fun w4 hw4 => ?_⟩
      rw [show ((j : Int) + 1) = ((j + 1 : Nat) : Int) from rfl, cut_from]
      have y4 := Ex.new (o := .lst (xs.drop (j + 1))) hw4
      have j4 : upd A3 w4 (.lst (xs.drop (j + 1))) w4 = some (.lst (xs.drop (j + 1))) := upd_same
      generalize upd A3 w4 (.lst (xs.drop (j + 1))) = A4 at y4 j4 ⊢
      refine ⟨w3, w4, _, _, rfl, rfl, y4 _ _ j3, j4, sz_le (by rw [List.length_append, List.length_take, List.length_drop]; show _ + 1 + _ ≤ _; omega), fun w5 hw5 => ?_⟩
      have y5 := Ex.new (o := .lst (xs.take j ++ [y] ++ xs.drop (j + 1))) hw5
      have j5 : upd A4 w5 (.lst (xs.take j ++ [y] ++ xs.drop (j + 1))) w5 = some (.lst (xs.take j ++ [y] ++ xs.drop (j + 1))) := upd_same
      generalize upd A4 w5 (.lst (xs.take j ++ [y] ++ xs.drop (j + 1))) = A5 at y5 j5 ⊢
      have y14 := y13.trans y4
      have y15 := y14.trans y5
      have e5' : ExS a b H A5 := eG.trans (hid_mono y15)
      have hD5 := y15 _ _ q2
      have w5z := ExS.back (show ExS a b H A4 from eG.trans (hid_mono y14)) (SG.ex y14) hw5
      have w5D : w5 ≠ D := (ne_of_none (y14 _ _ q2) hw5).symm
      have w5L : w5 ≠ L := (ne_of_none (y14 _ _ hLG) hw5).symm
      refine ⟨acc, hD5, sz_m (by omega), (q1.trans y15).mut hD0', acc ++ [.ref w5], upd_same, by rw [List.length_append, q3]; rfl, fun z hz => ?_⟩
      have hh : hid D D (hid L L (h3 a b D0 D1 (upd A5 D (.lst (acc ++ [V.ref w5]))))) = hid D D (hid L L (h3 a b D0 D1 A5)) := by
        unfold h3
        rw [hid_upd Da Db, hid_upd DD DE, hid_upd DL DL, hid_upda]
      rw [hh]
      rcases List.mem_append.mp hz with hz | hz
      · exact (q4 z hz).ex (hid_mono (hid_mono (h3_mono y15)))
      rw [List.mem_singleton.mp hz]
      have eX : Ex (h3 a b D0 D1 H) (hid D D (hid L L (h3 a b D0 D1 A5))) := gh_ex (hid_none (hid_none Dz)) (eL0 e5')
      have eY : Ex (hid L L (h3 a b D0 D1 G8)) (hid D D (hid L L (h3 a b D0 D1 A5))) := gh_ex (hid_none (hid_none (hid_none hD0'))) (hid_mono (h3_mono (q1.trans y15)))
      have hw : hid D D (hid L L (h3 a b D0 D1 A5)) w5 = some (.lst (xs.take j ++ [y] ++ xs.drop (j + 1))) := by
        rw [hid_ne w5D w5D, hid_ne w5L w5L, h3_ne (hS.nea w5z) (hS.neb w5z) (neD w5z) (neE w5z)]
        exact j5
      have hX5 := dpa_ex eX _ _ hX
      refine bt_lst (ds := (u.take j).map stD ++ [d] ++ (u.drop (j + 1)).map stD) hw ?_ ?_ ?_ ?_
      · rw [List.map_take, List.map_drop]
        exact dpa_app (dpa_app (dpa_take j hX5) (.cons (dp_ex eY _ _ dp) .nil)) (dpa_drop (j + 1) hX5)
      · rw [dokA_app, dokA_app, dok_sts, dok_sts]
        show (true && (dOk d && true) && true) = true
        rw [dok]
        rfl
      · rw [depA_app, depA_app]
        have h1 := stDs_depth (u.take j)
        have h2 := stDs_depth (u.drop (j + 1))
        show max (max _ (max d.depth 0)) _ ≤ 3
        omega
      · rw [cntA_app, cntA_app, cnt_sts, cnt_sts, List.length_take, List.length_drop]
        show _ + (cnt d + 0) + _ ≤ _
        omega
    · rintro G9 ⟨q1, acc, q2, q3, q4⟩
      have e9 : ExS a b H G9 := e8.trans (hid_mono q1)
      have hacc : ∀ y ∈ acc, BtOk K (hid L L (h3 a b D0 D1 G9)) y := fun y hy => (q4 y hy).ex hid_ex
      refine ⟨D, 2, acc, rfl, rfl, q2, by decide, by decide, sz_le (by show acc.length * 2 ≤ 1000000; omega), fun R hR => ?_⟩
      have y1 := Ex.new (o := .lst (List.replicate (2 : Int).toNat acc).flatten) hR
      have hf : (List.replicate (2 : Int).toNat acc).flatten = acc ++ acc := by
        show (acc ++ (acc ++ [])) = acc ++ acc
        rw [List.append_nil]
      rw [hf] at y1 ⊢
      have hLR : upd G9 R (.lst (acc ++ acc)) L = some (.lst os2) := (q1.trans y1) _ _ hL8
      have eR : ExS a b H (upd G9 R (.lst (acc ++ acc))) := e9.trans (hid_mono y1)
      refine ⟨L, R, os2, acc ++ acc, rfl, rfl, hLR, upd_same, sz_le (by rw [List.length_append]; omega), ?_⟩
      refine ⟨_, _, _, _, _, _, _, os2 ++ (acc ++ acc), rfl, ExS.own eR L0 La Lb, ((S8.ex (q1.trans y1)).upd La Lb), upd_same, by rw [List.length_append]; omega, by rw [List.length_append, List.length_append]; omega, fun o ho => ?_⟩
      rw [show hid L L (h3 a b D0 D1 (upd (upd G9 R (.lst (acc ++ acc))) L (.lst (os2 ++ (acc ++ acc))))) = hid L L (h3 a b D0 D1 (upd G9 R (.lst (acc ++ acc)))) from by unfold h3; rw [hid_upd La Lb, hid_upd LD LE, hid_upda]]
      rcases List.mem_append.mp ho with ho | ho
      · exact (hos8 o ho).ex (hid_mono (h3_mono (q1.trans y1)))
      · exact (hacc o ((List.mem_append.mp ho).elim id id)).ex (hid_mono (h3_mono y1))
end
end AA

set_option Elab.async false
set_option linter.all false
set_option maxRecDepth 100000
set_option maxHeartbeats 4000000
/-! try with several clauses, each 'as' the same name. -/
namespace AA
open PySem PySem.Spec PyProof.Rows L2
/-- behind a clause its name is gone -/
def clr (i : Nat) (D : Ends) : Ends := ⟨fun τ G => D.nx (τ.set i none) G, D.rt, fun τ G => D.bk (τ.set i none) G, fun τ G => D.ct (τ.set i none) G⟩
abbrev Cl := Value × (Addr → Value → Option Addr → TS)
/-- what the clauses wish, one after the other; slot i is the name's -/
def wAll (K : PySem.W.Frag) (i : Nat) (Wo : WX) (D : Ends) : List Cl → WX
  | [] => Wo
  | p :: r => fun cv dv τ G => ∃ hit, PySem.W.exmOne K cv p.1 = some hit ∧ (hit = true → ∀ ea, G ea = none → p.2 ea cv dv (clr i D) (τ.set i (some (.ref ea))) G) ∧ (hit = false → wAll K i Wo D r cv dv τ G)
inductive ClsOk (X : Cx) (nm : Str) : List ExceptHandler → List Cl → Prop
  | nil : ClsOk X nm [] []
  | cons {cn : Str} {cv : Value} {ts : Addr → Value → Option Addr → TS} {st : Stmt} {sts : List Stmt} {p1 p2 : Pos} {hs : List ExceptHandler} {l : List Cl} (nc : Names X cn cv)
      (su : ∀ (ea : Addr) (eo : Obj) (tv : Value) (dv : Option Addr) (pn : List (Addr × Obj)), Zc tv dv eo → (∃ vs, eo.data = .fields vs) → PSs (X.suite ea ((ea, eo) :: pn)) (st :: sts) (ts ea tv dv)) (more : ClsOk X nm hs l) :
      ClsOk X nm (.ExceptHandler (some (.Name cn p1)) (some nm) (st :: sts) p2 :: hs) ((cv, ts) :: l)
section
variable {X : Cx} {nm : Str} {i : Nat} {body : List Stmt} {h1 : ExceptHandler} {hr : List ExceptHandler} {l : List Cl} {pos : Pos} {tb : WX → TS} {Wo : WX}
theorem ps_tryAs (stk : X.stack = X.env :: X.outer) (frm : X.env.frame = some X.env.locals) (nod : X.N.Nodup) (at_ : X.N[i]? = some nm) (loc : X.env.kindOf nm = some .local) (tk : Takes X Wo)
    (bd : ∀ (W : WX) (pn : List (Addr × Obj)) (xe : Value → Shared → Prop), Takes (X.tr pn xe) W → PassesOwn (model X.prog X.w) X.A X.env xe → PSs (X.tr pn xe) body (tb W))
    (cs : ClsOk X nm (h1 :: hr) l) : PS X (.Try body (h1 :: hr) [] [] pos) (fun D τ G => tb (wAll X.K i Wo D l) D τ G) := by
  refine ⟨fun pins s τ G D I hh => ?_⟩
  have okX := I.ok
  have frs_ : X.A.frames = some (X.env :: X.outer) := okX.frames.trans (congrArg some stk)
  refine wpAny_Try_except (wpAny_mono ((bd (wAll X.K i Wo D l) (X.pn ++ pins) (fun e q1 => wpAny (model X.prog X.w) X.A (noteFrame e X.env) (fun _ q2 => wpAny (model X.prog X.w) X.A (setFlight e none) (fun _ q3 =>
    wpAny (model X.prog X.w) X.A (handleBy e X.env (h1 :: hr)) (SP X pins D) X.xe q3) X.xe q2) X.xe q1) (fun u z xx => ?catchIt) PassesOwn.looking).run [] s τ G D (I.toTry _) hh) (fun f z hz => ?through) (fun e z hz => hz))
  case through =>
    cases f with
    | next => exact let ⟨τ1, G1, J1, q⟩ := hz; wpAny_execs_nil ⟨τ1, G1, J1.ofTry okX, q⟩
    | brk => exact let ⟨τ1, G1, J1, q⟩ := hz; ⟨τ1, G1, J1.ofTry okX, q⟩
    | cont => exact let ⟨τ1, G1, J1, q⟩ := hz; ⟨τ1, G1, J1.ofTry okX, q⟩
    | ret v => exact let ⟨w1, τ1, G1, J1, r1, q⟩ := hz; ⟨w1, τ1, G1, J1.ofTry okX, r1, q⟩
  case catchIt =>
    obtain ⟨ea, gB, sJ, pinJ, τ1, G1, tv, dv, rfl, J0, nbl, upw, sky, fre, oss, agr, want⟩ := xx
    have J : Inv X pins τ1 G1 sJ := J0.ofTry okX
    have sky1 : Sky gB (X.env :: X.outer) ea (Zc tv dv) X.env.locals z.heap := stk ▸ sky
    show wpAny (model X.prog X.w) X.A (noteFrame (.ref ea) X.env) _ _ _
    refine Sky.land Zc.steady frs_ frm sky1 fun k3 fly3 up3 => ?_
    have J3 : Inv X pins τ1 G1 { z with heap := k3 } := J.landed nbl fly3.1 (upw.trans up3) oss agr
    obtain ⟨o3, v3, e3, z3, d3⟩ := fly3.there
    have nfr : ea ∉ frs (X.env :: X.outer) := fun hm => by
      obtain ⟨_, o', e', hnf⟩ := fly3.2.2.1.mem hm
      exact hnf _ ((Option.some.inj (e'.symm.trans e3)) ▸ d3)
    have nL : ea ≠ X.env.locals := fun q => nfr (List.mem_filterMap.mpr ⟨X.env, List.mem_cons_self, frm.trans (congrArg some q.symm)⟩)
    have nF : ea ∉ X.fs := fun hm => by
      obtain ⟨e, he, q⟩ := List.mem_filterMap.mp hm
      exact nfr (List.mem_filterMap.mpr ⟨e, List.mem_cons_of_mem _ he, q⟩)
    have S3 := J3.suite e3 d3 fre nL nF
    suffices go : ∀ {hs' : List ExceptHandler} {l' : List Cl}, ClsOk X nm hs' l' → wAll X.K i Wo D l' tv dv τ1 G1 → wpAny (model X.prog X.w) X.A (handleBy (.ref ea) X.env hs') (SP X pins D) X.xe { z with heap := k3 } from go cs want
    intro hs' l' ck
    induction ck with
    | nil =>
      intro wo
      refine wpAny_handleBy_nil ?_
      obtain ⟨_, _, _, o4, v4, T4, _, _, e4, _, d4, p4, _⟩ := id fly3
      unfold PySem.passOn
      refine wpAny_bind (wpAny_field e4 d4 p4 ?_)
      rw [if_neg (show ¬ ((Value.ref T4 == Value.none) = true) from by simp)]
      have fin : wpAny (model X.prog X.w) X.A (setFlight (.ref ea) X.env.frame) (fun _ q => wpAny (model X.prog X.w) X.A (throw (.ref ea) : Sem Flow) (SP X pins D) X.xe q) X.xe { z with heap := k3 } := by
        rw [frm]
        exact HandSPX.setFlight_upZ fly3 fun k5 held5 up5 => wpAny_throw (tk _ _ ⟨ea, gB, sJ, pins, τ1, G1, tv, dv, rfl, J, nbl, (upw.trans up3).trans up5, .inr (.inr (stk ▸ held5)), fre, oss, agr, wo⟩)
      first
        | exact wpAny_bind (wpAny_pure (wpAny_bind fin))
        | exact wpAny_bind fin
    | @cons cn cv ts st sts p1 p2 hs2 l2 nc su more ih =>
      rintro ⟨hit, hx, yes, no⟩
      refine wpAny_handleBy_cons (codeAny_handlers_test ?_) (by intro q; cases q)
      have LT : PySem.W.Looks (model X.prog X.w) k3 (typeOf (.ref ea)) tv := fun A Q E s k q => wpAny_typeOf_ref (k _ _ e3) (z3.1 ▸ q)
      have test : ∀ {Q : Value → Shared → Prop} {E : Value → Shared → Prop}, Q cv { z with heap := k3 } → wpAny (model X.prog X.w) (X.A.mark (some (.ref ea))) (eval (.Name cn p1) X.env) Q E { z with heap := k3 } := fun {Q E} q =>
        nc.2.2.elim (fun hm => ld_glob (X := X.suite ea ((ea, o3) :: (X.pn ++ pins))) S3 nc.1 hm q nc.2.1) (fun hm => ld_blt (X := X.suite ea ((ea, o3) :: (X.pn ++ pins))) S3 nc.1 hm.1 hm.2.1 q hm.2.2 nc.2.1)
      refine test ((PySem.W.exm_one (M := model X.prog X.w) J3.kIn LT hx).here ?_)
      cases hit with
      | false => exact ih (no rfl)
      | true =>
        refine codeAny_handlers_suite_as (HandSPX.lands_againZ fly3 fun k4 fly4 up4 => ?_)
        have J4 : Inv X pins τ1 G1 { z with heap := k4 } := J.landed nbl fly4.1 ((upw.trans up3).trans up4) oss agr
        obtain ⟨o4, v4, e4, z4, d4⟩ := fly4.there
        refine store_ok (X := X.suite ea ((ea, o4) :: (X.pn ++ pins))) (v := .ref ea) (J4.suite e4 d4 fre nL nF) nod at_ (.inl loc) rfl (fun q5 S5 => ?_) (.inr loc)
        refine wpAny_mono ((su ea o4 tv dv (X.pn ++ pins) z4 ⟨_, d4⟩).run [] q5 _ G1 _ S5 (yes rfl ea fre)) (fun f q6 h6 => ?_) (fun _ _ q => False.elim q)
        have end_ : ∀ {τ6 : L2.St} {G6 : Hp} {Q : Shared → Prop}, Inv (X.suite ea ((ea, o4) :: (X.pn ++ pins))) [] τ6 G6 q6 → (∀ q7, Inv X pins (τ6.set i none) G6 q7 → Q q7) →
            wpAny (model X.prog X.w) X.A (do bindName X.env nm .none; unbindBehindTheSuite X.env nm p2) (fun _ q7 => Q q7) X.xe q6 := fun S6 hq => gone_ok (S6.unsuite okX) nod at_ loc hq
        cases f with
        | next => exact let ⟨_, _, S6, h7⟩ := h6; end_ S6 fun q7 J7 => ⟨_, _, J7, h7⟩
        | brk => exact let ⟨_, _, S6, h7⟩ := h6; end_ S6 fun q7 J7 => ⟨_, _, J7, h7⟩
        | cont => exact let ⟨_, _, S6, h7⟩ := h6; end_ S6 fun q7 J7 => ⟨_, _, J7, h7⟩
        | ret u => exact let ⟨_, _, _, S6, r6, h7⟩ := h6; end_ S6 fun q7 J7 => ⟨_, _, _, J7, r6, h7⟩
end
end AA

set_option Elab.async false
set_option linter.all false
set_option maxRecDepth 100000
set_option maxHeartbeats 4000000
/-! Parts made, the stream and the tables, _law_tried. -/
namespace AA
open PySem PySem.Spec PyProof.Rows L2 Evl LamX
theorem gh_ne {G : Hp} {g p : Addr} {o : HO} (n : p ≠ g) (h : G p = some o) : hid g g G p = some o := by
  rw [hid_ne n n]
  exact h
theorem sqt_hidp {G : Hp} {K : PySem.W.Frag} {p t : Addr} {vs xs : List V} (hp : G p = some (.lst vs)) (h : SqT K G t xs) : SqT K (hid p p G) t xs := by
  rcases h with h | h
  · refine .inl ?_
    rcases h with h | ⟨u, h⟩
    · have tp : t ≠ p := fun z => by rw [z, hp] at h; cases h
      exact .inl (gh_ne tp h)
    · have tp : t ≠ p := fun z => by rw [z, hp] at h; cases h
      exact .inr ⟨u, gh_ne tp h⟩
  · exact .inr h
theorem sts_hidp {G : Hp} {K : PySem.W.Frag} {p : Addr} {us : List V} (hp : G p = some (.lst us)) : ∀ {vs : List V} {ss : List St5}, DpAll K G vs (ss.map stD) → DpAll K (hid p p G) vs (ss.map stD)
  | [], [], _ => .nil
  | v :: vs, s :: ss, h => by
    cases h with
    | cons h1 h2 =>
      obtain ⟨t, u, rfl, h3, h4⟩ := stD_inv h1
      exact .cons (stD_mk (sqt_hidp hp h3) (sqt_hidp hp h4)) (sts_hidp hp h2)
  | [], _ :: _, h => by cases h
  | _ :: _, [], h => by cases h
theorem WebL.hidp {K : PySem.W.Frag} {C : Addr} {G : Hp} {x lw p : Addr} {n : Int} {ss : List St5} {vs : List V} (h : WebL K C G x lw n ss) (hp : G p = some (.lst vs)) (pl : p ≠ lw) : WebL K C (hid p p G) x lw n ss := by
  obtain ⟨dx, kd, ys, h1, h2, h3⟩ := h
  have px : x ≠ p := fun z => by
    rw [z, hp] at h1
    cases h1
  exact ⟨dx, kd, ys, gh_ne px h1, gh_ne pl.symm h2, sts_hidp hp h3⟩
theorem WebL.hidS {K : PySem.W.Frag} {C : Addr} {G : Hp} {x lw a b : Addr} {m : Nat} {n : Int} {ss : List St5} (h : WebL K C G x lw n ss) (S : SAt G a b m) (xa : x ≠ a) (xb : x ≠ b) (la : lw ≠ a) (lb : lw ≠ b) : WebL K C (hid a b G) x lw n ss := by
  obtain ⟨dx, kd, ys, h1, h2, h3⟩ := h
  exact ⟨dx, kd, ys, by rw [hid_ne xa xb]; exact h1, by rw [hid_ne la lb]; exact h2, sts_hid S h3⟩
section
variable {K : PySem.W.Frag}
/-! ### the stream and the tables stand -/
abbrev NXs (a b : Addr) (G G' : Hp) : Prop := Ex (nt (hid a b G)) (nt (hid a b G'))
theorem nxs_N {a b : Addr} {G G' : Hp} (e : LamX.ExtN G G') : NXs a b G G' := fun x o h => by
  obtain ⟨h1, h2⟩ := nt_some h
  obtain ⟨h3, h4, h5⟩ := hid_some h1
  exact nt_of (by rw [hid_ne h4 h5]; exact e _ _ h3 h2) h2
theorem sat_N {a b : Addr} {m : Nat} {G G' : Hp} (S : SAt G a b m) (e : LamX.ExtN G G') : SAt G' a b m := by
  obtain ⟨ns, c1, c2, c3, h1, h2, r⟩ := S
  exact ⟨ns, c1, c2, c3, e _ _ h1 (fun ps z => nomatch z), e _ _ h2 (fun ps z => nomatch z), r⟩
theorem tab_keep {T : List (Addr × Str)} {G G' : Hp} (t : LamX.Tabs T G) (e : ∀ x o, G x = some o → (∀ xs, o ≠ .lst xs) → G' x = some o) : LamX.Tabs T G' := fun p hp => by
  obtain ⟨ps, h1, h2, h3⟩ := t p hp
  refine ⟨ps, e _ _ h1 (fun xs z => nomatch z), h2, fun pos cv hc => ?_⟩
  obtain ⟨c, e1, e2⟩ := h3 pos cv hc
  exact ⟨c, e1, e _ _ e2 fun xs z => by
    unfold LamX.CodeO at z
    cases z⟩
theorem tabs_S {T : List (Addr × Str)} {a b : Addr} {m : Nat} {G G' : Hp} (t : LamX.Tabs T G) (S : SAt G a b m) (e : ExS a b G G') : LamX.Tabs T G' := tab_keep t fun x o h n => by
  obtain ⟨ns, c1, c2, c3, h1, h2, _⟩ := S
  exact e.at h (fun z => n _ (Option.some.inj (h.symm.trans (by rw [z]; exact h1)))) (fun z => n _ (Option.some.inj (h.symm.trans (by rw [z]; exact h2))))
theorem tabs_upd {T : List (Addr × Str)} {p : Addr} {G : Hp} {xs ys : List V} (t : LamX.Tabs T G) (hp : G p = some (.lst xs)) : LamX.Tabs T (upd G p (.lst ys)) := tab_keep t fun x o h n => by
  have : x ≠ p := fun z => n xs (Option.some.inj (h.symm.trans (by rw [z]; exact hp)))
  rw [upd_ne this]
  exact h
structure RS (T : List (Addr × Str)) (a b : Addr) (H : Hp) (m : Nat) (G : Hp) : Prop where
  e : NXs a b H G
  s : SAt G a b m
  t : LamX.Tabs T G
theorem RS.ex {T : List (Addr × Str)} {a b : Addr} {H G G' : Hp} {m : Nat} (r : RS T a b H m G) (e : Ex G G') : RS T a b H m G' := ⟨r.e.trans (nt_mono (hid_mono e)), r.s.ex e, r.t.ext e⟩
theorem RS.go {T : List (Addr × Str)} {a b : Addr} {H G G' : Hp} {m k : Nat} (r : RS T a b H m G) (e : ExS a b G G') (s : SAt G' a b k) : RS T a b H k G' := ⟨r.e.trans (nt_mono e), s, tabs_S r.t r.s e⟩
theorem RS.N {T : List (Addr × Str)} {a b : Addr} {H G G' : Hp} {m : Nat} (r : RS T a b H m G) (e : LamX.ExtN G G') (t : LamX.Tabs T G') : RS T a b H m G' := ⟨r.e.trans (nxs_N e), sat_N r.s e, t⟩
theorem RS.mut {T : List (Addr × Str)} {a b p : Addr} {H G : Hp} {m : Nat} {xs ys : List V} (r : RS T a b H m G) (hp : G p = some (.lst xs)) (fr : ∀ x o, nt (hid a b H) x = some o → x ≠ p) (pa : p ≠ a) (pb : p ≠ b) : RS T a b H m (upd G p (.lst ys)) :=
  ⟨fun x o h => by
    have n := fr x o h
    obtain ⟨h1, h2⟩ := nt_some (r.e _ _ h)
    refine nt_of ?_ h2
    rw [hid_upd pa pb, upd_ne n]
    exact h1, r.s.upd pa pb, tabs_upd r.t hp⟩
/-- what stands over the stream and beside the tables stands -/
theorem RS.at {T : List (Addr × Str)} {a b : Addr} {H G : Hp} {m : Nat} (r : RS T a b H m G) : Ex (nt (hid a b H)) G := r.e.trans (nt_le.trans hid_ex)
theorem tps_nt {H : Hp} : Ex (tps H) (nt (tps H)) := fun x o h => by
  obtain ⟨_, xs, rfl⟩ := tps_some h
  exact nt_of h fun ps z => nomatch z

end
theorem WebL.nt {K : PySem.W.Frag} {C : Addr} {G : Hp} {x lw : Addr} {n : Int} {ss : List St5} (h : WebL K C G x lw n ss) : WebL K C (AA.nt G) x lw n ss := by
  obtain ⟨dx, kd, ys, h1, h2, h3⟩ := h
  exact ⟨dx, kd, ys, nt_of h1 (fun ps z => nomatch z), nt_of h2 (fun ps z => nomatch z), dpa_nt _ _ h3⟩
/-- a def whose code object stands at c -/
structure FunC (K : PySem.W.Frag) (x : Str) (st : Stmt) (f : Addr) (fd : FuncData) (c : Addr) : Prop where
  ex : ∃ (oc : Value) (od : Option Addr) (kV doc pm : Value) (an : Option Addr) (ct : Value) (osl : Array (Option Value)), fd = PySem.W.fnOf x x (defArgs st) (defBody st) (defScope st) .none kV doc pm an (.ref c) ct ∧ K.lookup f = some ⟨oc, od, .func fd, osl⟩ ∧ PySem.W.codeIn K (.ref c) x = true
  kp : PySem.W.keepIn K (.ref f) = true

theorem takes_len {X : Cx} {W : WX} (tk : Takes X W) : Takes X (fun cv dv τ G => τ.length = X.N.length → W cv dv τ G) := fun u z ⟨a, B, sI, pins, τ, G, cv, dv, e, I, nb, up, sky, na, os, ag, w⟩ =>
  tk u z ⟨a, B, sI, pins, τ, G, cv, dv, e, I, nb, up, sky, na, os, ag, w I.len⟩
/-- how a lambda's exception is told -/
def TrE (CD CY : Addr) (Q : VK) : XK := fun cv dv G =>
  (cv = .ref CD ∧ ∃ dd v, dv = some dd ∧ G dd = some (.xd [(("walk" : Str), v)]) ∧ ∀ p, G p = none → Q (.ref p) (upd G p (.tup [.str "walk", v]))) ∨
  (cv = .ref CY ∧ ∃ dd v, dv = some dd ∧ G dd = some (.xd [(("place" : Str), v)]) ∧ ∀ p, G p = none → Q (.ref p) (upd G p (.tup [.str "place", v])))
def TTried (CD CY : Addr) : (XK → Hp → VK → Prop) → Hp → VK → Prop := fun tl H Q => tl (TrE CD CY Q) H (fun v G => 2 ≤ sizeLine ∧ ∀ p, G p = none → Q (.ref p) (upd G p (.tup [.str "told", v])))
theorem scTried : FnScope ["_law_ask", "e"] ["_law_ask"] (defScope sTried) := ⟨rfl, rfl, rfl, by decide +kernel, rfl, by decide +kernel, by decide +kernel⟩
/-- which error is caught by which clause -/
structure ExmK (K : PySem.W.Frag) (CD CY : Addr) : Prop where
  dd : PySem.W.exmOne K (.ref CD) (.ref CD) = some true
  yd : PySem.W.exmOne K (.ref CY) (.ref CD) = some false
  yy : PySem.W.exmOne K (.ref CY) (.ref CY) = some true
theorem tried_gives {X : Cx} {q : Str} {g CD CY fD fY : Addr} {cdg : Value} (TD : ExT X.K X.mg "BadWalk" "walk" CD fD) (TY : ExT X.K X.mg "BadPlace" "place" CY fY) (k : ExmK X.K CD CY) :
    GivesTo X ["_law_ask", "e"] "_law_tried" (defScope sTried) g cdg (defBody sTried) "_law_ask" q (TTried CD CY) := by
  intro f c' s H Q tl act hc h
  refine ⟨_, pss_one (ps_tryAs (X := (cxOf C8.CX0 X.prog X.w X.K X.mg X.base ["_law_ask", "e"] "_law_tried" (defScope sTried) g cdg X.A X.stack s H C8.E0).nox) (i := 1) (nm := "e") (Wo := fun _ _ _ _ => False)
      (l := [(.ref CD, fun a cls d => tRet (tTup (tCons (tC (.str "walk")) (tCons (tXf a cls d CD "walk" (tVar 1)) tNil)))), (.ref CY, fun a cls d => tRet (tTup (tCons (tC (.str "place")) (tCons (tXf a cls d CY "place" (tVar 1)) tNil))))])
      (tb := fun W D σ H => ∃ Ech : XK, (∀ cls d σ' H', Ech cls d H' → σ'.length = 2 → W cls d σ' H') ∧ σ[0]? = some (some (.ref f)) ∧ H c' = some (CodeO c' q) ∧ tl Ech H (fun v G => 2 ≤ sizeLine ∧ ∀ p, G p = none → D.rt (.ref p) (upd G p (.tup [.str "told", v]))))
      rfl rfl scTried.nd rfl rfl L2.takes0 (fun W pn xe tk _ => ?_)
      (.cons ⟨rfl, by decide, .inl TD.gC⟩ (fun a oe cls d pn hz hf => pss_one (ps_ret (by exact (pe_tup (pa_cons pe_str (pa_cons (pe_xf TD.xf TD.no hz hf (pv 1)) pa_nil))))))
        (.cons ⟨rfl, by decide, .inl TY.gC⟩ (fun a oe cls d pn hz hf => pss_one (ps_ret (by exact (pe_tup (pa_cons pe_str (pa_cons (pe_xf TY.xf TY.no hz hf (pv 1)) pa_nil)))))) .nil))), ?_⟩
  · refine ⟨fun pins s' σ H' D I h' => ?_⟩
    obtain ⟨Ech, hW, h1, h2, h3⟩ := h'
    refine PSs.run (t := tRet (tTup (tCons (tC (.str "told")) (tCons (fun σZ HZ Q => σZ[0]? = some (some (.ref f)) ∧ HZ c' = some (CodeO c' q) ∧ tl Ech HZ Q) tNil)))) ?_ pins s' σ H' D I ⟨h1, h2, h3⟩
    exact pss_one (ps_ret (pe_tup (pa_cons pe_str (pa_cons (act _ pn xe Ech _ _ (takes_len tk) hW) pa_nil))))
  · refine ⟨TrE CD CY Q, fun cv dv σ' G hE hl => ?_, rfl, hc, h⟩
    obtain ⟨x0, x1, rfl⟩ : ∃ x0 x1, σ' = [x0, x1] := two_ofl hl
    rcases hE with ⟨rfl, dd, v, rfl, hx, kq⟩ | ⟨rfl, dd, v, rfl, hx, kq⟩
    · refine ⟨true, k.dd, fun _ ea hea => ?_, fun z => nomatch z⟩
      exact ⟨_, rfl, rfl, rfl, dd, _, v, rfl, hx, rfl, by show 2 ≤ sizeLine; decide, fun p hp => kq p hp⟩
    · refine ⟨false, k.yd, (fun z => nomatch z), fun _ => ⟨true, k.yy, fun _ ea hea => ?_, fun z => nomatch z⟩⟩
      exact ⟨_, rfl, rfl, rfl, dd, _, v, rfl, hx, rfl, by show 2 ≤ sizeLine; decide, fun p hp => kq p hp⟩
/-- f(k = v, ..) alone -/
theorem pe_callK0 {X : Cx} {CX : CXT} {k : Nat} {f : Addr} {fd : FuncData} {ps ks : List Str} {sp : Sp} {E : XK} {x : Str} {p pos : Pos} {kws : List Keyword} {tk : TA} {g : List Value → List Value → List Value} {gV : List V → List V → List V} (F : FnOk X.prog X.w X.K X.mg X.base CX k f fd ps sp) (hr : Room k X.A) (hg : Gl X x) (hm : X.mg x = some (.ref f)) (hk : PySem.W.keepIn X.K (.ref f) = true) (hb : KBinds X.K fd ps ks g gV) (hx : Passes CX X E)
    (hkw : PK X kws tk) (hall : (backToKw pos (keywordEach kws X.env)).all (·.1.isSome) = true := by rfl) (hks : (backToKw pos (keywordEach kws X.env)).filterMap (·.1) = ks := by rfl) (hdb : (x == ("__debug__" : Str)) = false := by decide)
    (hpl : ((backTo pos (starEach [] X.env)).any (·.1) || (backToKw pos (keywordEach kws X.env)).any (·.1.isNone)) = false := by rfl) :
    PE X (.Call (.Name x p) [] kws pos) (fun σ H Q => tk σ H fun zs H2 => sp (gV [] zs) H2 Q E) := ⟨fun pins s σ H Q I h =>
  wpAny_Call_Name_kw (ld_glob I hg hm (PySem.W.callWith_KW0 (h₀ := X.base) I.ok.mod.kin hk hall (thn (hkw.run pos pins s σ H _ I h) fun ws s2 ⟨zs, H2, I2, rz, q2⟩ => ⟨I2.kIn, by
    rw [hks]
    exact run_fnk (us := []) (vs := []) F hr hb hx I2 .nil rz q2⟩) hpl) hdb)⟩
/-- keywords that come in the other order -/
def revK {α : Type} : List α → List α → List α
  | [], ws => ws.reverse
  | _ :: _, _ => []
theorem revK_rel {vs : List V} {us : List Value} {zs : List V} {ws : List Value} (h : Vals vs us) (k : Vals zs ws) : Vals (revK vs zs) (revK us ws) := by
  cases h with
  | nil => exact vals_rev k
  | cons _ _ => exact .nil
def qP : Str := (("_law_thing_right" : Str) ++ ".<locals>.") ++ "<lambda>"
def qC : Str := (("law" : Str) ++ ".<locals>.") ++ "<lambda>"
section
variable {P : Program} {w : World} {K : PySem.W.Frag} {mg : Str → Option Value} {base : Heap}
/-- what the top has written of _law_tried -/
structure TrP (K : PySem.W.Frag) (mg : Str → Option Value) (CD CY g fD fY : Addr) (fdg : FuncData) : Prop where
  F : L2.Fun K "_law_tried" "_law_tried" sTried g fdg
  m : mg "_law_tried" = some (.ref g)
  b : Binds K fdg ["_law_ask"] []
  TD : ExT K mg "BadWalk" "walk" CD fD
  TY : ExT K mg "BadPlace" "place" CY fY
  ex : ExmK K CD CY
/-- _law_tried(lambda: body) -/
theorem pe_triedB {X : Cx} {CD CY g fD fY c PT : Addr} {fdg : FuncData} {T : List (Addr × Str)} {q0 : Str} {k : Nat} {body : Expr} {t : XK → TE} {p3 p4 p5 : Pos} {ps : Arguments} {scope : Scope} (hXK : X.K = K) (hXm : X.mg = mg) (hXb : X.base = base) (W : TrP K mg CD CY g fD fY fdg) (TB : LamX.TabB base mg c PT)
    (hT : (PT, q0 ++ "<lambda>") ∈ T) (hu : ∀ p ∈ T, p.1 = PT → p.2 = q0 ++ "<lambda>")
    (hg : Gl X "_law_tried") (hcode : X.env.code = .ref c) (hq : X.env.qual = q0) (hr : Room (k + 2) X.A) (L : LamX.LamS X.env.scope scope) (hdef : defaultsOf ps X.env = ([], []))
    (hbind : ∀ (q : Str) (cl : List (Str × Addr)) (pm cv ctv : Value), bindArgs (PySem.W.kla_fn "<lambda>" q ps body scope cl pm cv ctv) ⟨[], []⟩ = pure [])
    (hbody : ∀ (A : Around) (outer : List Env) (s : Shared) (H : Hp) (E : XK) (f c' : Addr), Room k (A.deeper (LamX.lamEnv X scope s.heap.objs.size f c')) → PE (LamX.lamCx X A outer s H E scope f c') body (t E)) :
    PE X (.Call (.Name "_law_tried" p3) [.Lambda ps body scope p4] [] p5) (LamX.tLam T (TTried CD CY) t) := by
  subst hXK hXm hXb hq
  obtain ⟨oc, od, kV, doc, pm, an, cdv, ct, osl, rfl, lk, hcd⟩ := W.F.ex
  exact LamX.pe_lamcall (k := k) (Ng := ["_law_ask", "e"]) (a := "_law_ask") hg W.m W.F.kp lk hcd W.b scTried rfl (.inl rfl) (tried_gives W.TD W.TY W.ex) TB hcode hT hu hr L hdef hbind hbody
end
end AA

set_option Elab.async false
set_option linter.all false
set_option maxRecDepth 100000
set_option maxHeartbeats 4000000
/-! _law_lots. -/
namespace AA
open PySem PySem.Spec PyProof.Rows L2 Evl
theorem fst_one {ss : List St5} {p : Int} (h : Fst ss p) : ∃ s ∈ ss, s.one = p ∨ s.other = p := by
  obtain ⟨s, h1, h2, h3⟩ := h.2
  by_cases e : p = s.one
  · exact ⟨s, h1, .inl e.symm⟩
  · exact h2.1.nmd e
/-- ascending: the first is the least -/
theorem head_le {l : List Int} {x p : Int} (so : (x :: l).Pairwise (· ≤ ·)) (hp : p ∈ x :: l) : x = p ↔ ∀ q ∈ x :: l, p ≤ q := by
  have h := List.pairwise_cons.mp so
  constructor
  · rintro rfl q hq
    rcases List.mem_cons.mp hq with e | e
    · omega
    · exact h.1 q e
  · intro k
    have h1 := k x List.mem_cons_self
    rcases List.mem_cons.mp hp with e | e
    · exact e.symm
    · have := h.1 p e
      omega
section
variable {P : Program} {w : World} {K : PySem.W.Frag} {mg : Str → Option Value} {base : Heap}
def spLLots (K : PySem.W.Frag) : Sp := fun vs H Q _ => ∃ (c : Int) (g : Addr) (us : List V) (ss : List St5), vs = [.int c, .ref g] ∧ SqL K H g us ∧ DpAll K H us (ss.map stD) ∧ 1 ≤ c ∧ c < 60 ∧ (∀ s ∈ ss, StOk c s) ∧ ss.length < 64 ∧
  ∀ (H' : Hp) (F : Addr) (rows : List (Addr × List Int)) (ps : List Int), Ex H H' → H F = none → H' F = some (.lst (rows.map fun r => V.ref r.1)) → LotsR ss ps (rows.map (·.2)) → (∀ r ∈ rows, H r.1 = none ∧ H' r.1 = some (.lst (r.2.map V.int))) → Q (.ref F) H'
abbrev nmLL2 : List Str := ["_law_places", "_law_steps", "_law_far", "_law_found", "_law_place", "_law_lot", "_law_other", "_law_step_here"]
theorem scLL2 : FnScope nmLL2 ["_law_places", "_law_steps"] (defScope sLLots) := ⟨rfl, rfl, rfl, by decide +kernel, rfl, by decide +kernel, by decide +kernel⟩
theorem ok_llots {f : Addr} {fd : FuncData} (F : L2.Fun K "_law_lots" "_law_lots" sLLots f fd) (T : Bn mg) (hany : mg "any" = none) (cR : C8.Cal P w K mg base 1 "_law_reached" (spLRch K) []) : FnOk P w K mg base CX0 2 f fd ["_law_places", "_law_steps"] (spLLots K) := by
  refine F.ok scLL2 (fun vs H Q E h => ?_) (fun cdv A outer s H vs Q E hr h => ?_)
  · obtain ⟨c, g, us, ss, rfl, _⟩ := h
    rfl
  · obtain ⟨c, g, us, ss, rfl, hg, hD, hc1, hc2, hok, hsz, k⟩ := h
    refine ⟨_, pss_cons (ps_asg (pe_tup (pa_cons (pe_lc (own := [("_law_place", 4)]) (g := gName 4) (tt := tYes) (by rfl) scLL2.nd (pi_range1 (by rfl) T.range (pa_cons (pv 0) pa_nil)) (blkOk_by (N := nmLL2) (sc := defScope sLLots) (by decide +kernel)) (fun _ _ _ _ _ => pg_name (i := 4) scLL2.nd rfl (Or.inl rfl)) (fun _ _ _ _ _ => pts_nil)
          (fun _ _ _ _ _ => C8.pe_c cR hr (by decide) (by rfl) (pa_cons (pv 1) (pa_cons (pv 4) pa_nil)))) (pa_cons (pe_lst pa_nil) pa_nil))) (pg_tup (n := 2) rfl (pgs_cons (pg_name (i := 2) scLL2.nd rfl (Or.inr rfl)) (pgs_cons (pg_name (i := 3) scLL2.nd rfl (Or.inl rfl)) pgs_nil))))
      (Evl.pss_cut (ps_for PassesOwn.never rfl (pi_range1 (by rfl) T.range (pa_cons (pv 0) pa_nil)) (pg_name (i := 4) scLL2.nd rfl (Or.inr rfl))
        (pss_cons (ps_set (i := 5) scLL2.nd rfl (Or.inr rfl) (pe_lc (own := [("_law_other", 6)]) (g := gName 6) (by rfl) scLL2.nd (pi_list (pe_ix ix_list (pv 2) (pv 4) (fun _ _ => rfl))) (blkOk_by (N := nmLL2) (sc := defScope sLLots) (by decide +kernel)) (fun _ _ _ _ _ => pg_name (i := 6) scLL2.nd rfl (Or.inl rfl))
            (fun _ _ _ _ _ => pts_one (pt_cmpR (r := rInD K) (op_inD (Room.u65 hr)) (pv 4) (pe_ix (r := rIxL K) ix_list (pv 2) (pv 6) (fun _ _ => rfl)) (by rfl))) (fun _ _ _ _ _ => pv 6)))
        (pss_one (ps_if (PW.pt (pw_and (pt_cmpR op_eq (pe_ix ix_list (pv 5) pe_int (fun _ _ => rfl)) (pv 4) (nomark _)) (pw_and1 (pt_val (pe_callB (r := rAny K) (cr_any (by rfl)) (by rfl) hany boot_any (pa_cons (pe_lc (own := [("_law_step_here", 7)]) (g := gName 7) (tt := tYes) (by rfl) scLL2.nd (pi_list (pv 1)) (blkOk_by (N := nmLL2) (sc := defScope sLLots) (by decide +kernel)) (fun _ _ _ _ _ => pg_name (i := 7) scLL2.nd rfl (Or.inl rfl)) (fun _ _ _ _ _ => pts_nil)
              (fun _ _ _ _ _ => pe_and (pe_cmpR (r := rInD K) (op_inD (Room.u65 hr)) (pe_ix (r := rIxT K) ix_tup (pv 7) pe_int (fun _ _ => rfl)) (pv 5) (by rfl)) (pe_one (pe_cmpR (r := rInD K) (op_inD (Room.u65 hr)) (pe_ix (r := rIxT K) ix_tup (pv 7) pe_int (fun _ _ => rfl)) (pv 5) (by rfl))))) pa_nil))))))
          (pss_one (ps_expr (pe_bm PySem.F.plainAttrs_list PySem.F.slot_list_append PySem.F.type_list_append mt_append (pv 3) (pa_cons (pv 5) pa_nil)))) pss_nil))))
      (pss_one (ps_ret (pv 3)))), ?_⟩
    have hPL : ∀ s ∈ ss, s.one ∈ plcs c ∧ s.other ∈ plcs c := fun s hs => ⟨plcs_mem.mpr ⟨(hok s hs).o0, (hok s hs).o1⟩, plcs_mem.mpr ⟨(hok s hs).t0, (hok s hs).t1⟩⟩
    have hPz : (plcs c).length < 64 := by rw [plcs_len]; omega
    have hRin : ∀ {p v : Int}, p ∈ plcs c → Rch (edg ss) [p] v → v ∈ plcs c := fun hp h => h.in (fun x hx => by rw [List.mem_singleton.mp hx]; exact hp) fun x y hxy => by
      obtain ⟨s, h1, h2, h3⟩ := edg_mem.mp hxy
      rw [← h3]
      exact (hPL s h1).2
    refine ⟨_, rfl, c, rfl, by omega, by omega, fun D hD0 => ?_⟩
    refine lc_range (lo := 0) (n := c.toNat) (fun i G => Ex H G ∧ ∃ fs : List (Addr × List Int), G D = some (.lst (fs.map fun r => V.ref r.1)) ∧ fs.length = i ∧ ∀ (v : Nat) (r : Addr × List Int), fs[v]? = some r → hid D D G r.1 = some (.lst (r.2.map V.int)) ∧ r.2.Nodup ∧ r.2.Pairwise (· ≤ ·) ∧ ∀ x, x ∈ r.2 ↔ Rch (edg ss) [(v : Int)] x) ⟨Ex.new hD0, [], upd_same, rfl, fun v r h => by simp at h⟩ ?_ ?_
    · rintro i G hi ⟨q1, fs, q2, q3, q4⟩
      refine ⟨rfl, _, rfl, _, rfl, g, 0 + (i : Int), us, ss, plcs c, rfl, ex_l q1 hg, dpa_ex q1 _ _ hD, hsz, plcs_mem.mpr ⟨by omega, by omega⟩, fun s hs => (hPL s hs).2, hPz, fun G2 p zs e2 p0 hp nd so hm => ?_⟩
      have pD : p ≠ D := (ne_of_none q2 p0).symm
      refine ⟨_, e2 _ _ q2, by rw [List.length_map, q3]; exact sz_m (by omega), (q1.trans e2).mut hD0, fs ++ [(p, zs)], by rw [upd_same, List.map_append]; rfl, by rw [List.length_append, q3]; rfl, fun v r hr => ?_⟩
      rw [hid_upda]
      by_cases hv : v < fs.length
      · rw [List.getElem?_append_left hv] at hr
        obtain ⟨h1, h2⟩ := q4 v r hr
        exact ⟨hid_mono e2 _ _ h1, h2⟩
      · have hv2 : v = i := by
          have := (List.getElem?_eq_some_iff.mp hr).1
          rw [List.length_append, List.length_singleton] at this
          omega
        subst hv2
        rw [List.getElem?_append_right (by omega), q3, Nat.sub_self] at hr
        cases hr
        refine ⟨by rw [hid_ne pD pD]; exact hp, nd, so, fun x => ?_⟩
        rw [hm x, Int.zero_add]
    rintro G1 ⟨e1, fs, hD1, hfl, hfs0⟩
    have hfs : ∀ (v : Nat) (r : Addr × List Int), fs[v]? = some r → G1 r.1 = some (.lst (r.2.map V.int)) ∧ r.2.Nodup ∧ r.2.Pairwise (· ≤ ·) ∧ ∀ x, x ∈ r.2 ↔ Rch (edg ss) [(v : Int)] x := fun v r h => ⟨hid_ex _ _ (hfs0 v r h).1, (hfs0 v r h).2⟩
    refine ⟨Nat.zero_le _, fun Fo hFo => ?_⟩
    refine ⟨by show 2 ≤ sizeLine; decide, fun T0 hT0 => ⟨T0, _, rfl, SqT.of upd_same, rfl, _, _, rfl, _, _, rfl, rfl, ?_⟩⟩
    have y2 := Ex.new (o := .lst []) hFo
    have j2 : upd G1 Fo (.lst []) Fo = some (.lst []) := upd_same
    generalize upd G1 Fo (.lst []) = G2 at y2 j2 hT0 ⊢
    have y3 := Ex.new (o := .tup [V.ref D, V.ref Fo]) hT0
    have j3 := y3 _ _ j2
    have y23 := y2.trans y3
    generalize upd G2 T0 (.tup [V.ref D, V.ref Fo]) = G3 at j3 y23 ⊢
    refine ⟨fun σ G => ∃ (x4 x5 : Option V) (rows : List (Addr × List Int)) (ps : List Int), σ = [some (.int c), some (.ref g), some (.ref D), some (.ref Fo), x4, x5, none, none] ∧ Ex G1 G ∧ G Fo = some (.lst (rows.map fun r => V.ref r.1)) ∧ LotsR ss ps (rows.map (·.2)) ∧ ∀ r ∈ rows, H r.1 = none ∧ G r.1 = some (.lst (r.2.map V.int)), ?_, ?_⟩
    case refine_2 =>
      rintro σ G ⟨x4, x5, rows, ps, rfl, q1, q2, q3, q4⟩
      exact ⟨_, rfl, k G Fo rows ps (e1.trans q1) (fresh_back e1 hFo) q2 q3 q4⟩
    refine ⟨_, rfl, c, rfl, by omega, by omega, for_range (lo := 0) (n := c.toNat) (fun i σ G => ∃ (x4 x5 : Option V) (rows : List (Addr × List Int)) (ps : List Int), σ = [some (.int c), some (.ref g), some (.ref D), some (.ref Fo), x4, x5, none, none] ∧ Ex G1 G ∧ G Fo = some (.lst (rows.map fun r => V.ref r.1)) ∧ ps.Pairwise (· < ·) ∧ (∀ p, p ∈ ps ↔ Fst ss p ∧ p < (i : Int)) ∧ rows.length = ps.length ∧ rows.length ≤ i ∧ (∀ (v : Nat) (p : Int) (r : Addr × List Int), ps[v]? = some p → rows[v]? = some r → LotL (edg ss) p r.2) ∧ ∀ r ∈ rows, H r.1 = none ∧ hid Fo Fo G r.1 = some (.lst (r.2.map V.int))) ?_ ?_ ?_⟩
    · refine ⟨none, none, [], [], rfl, y23, j3, .nil, fun p => ⟨fun h => absurd h (by simp), fun ⟨h1, h2⟩ => ?_⟩, rfl, Nat.le_refl _, fun v p r h => by simp at h, fun r h => absurd h (by simp)⟩
      obtain ⟨s, hs, h3⟩ := fst_one h1
      have o := hok s hs
      have := o.o0
      have := o.t0
      rcases h3 with h3 | h3 <;> omega
    · rintro i σ G hi ⟨x4, x5, rows, ps, rfl, q1, q2, q3, q4, q5, q6, q7, q8⟩
      obtain ⟨ri, hri⟩ : ∃ r, fs[i]? = some r := ⟨_, List.getElem?_eq_getElem (by omega)⟩
      obtain ⟨f1, f2, f3, f4⟩ := hfs i ri hri
      have hip : (i : Int) ∈ plcs c := plcs_mem.mpr ⟨by omega, by omega⟩
      have hat : atI (fs.map fun r => V.ref r.1) (0 + (i : Int)) = some (V.ref ri.1) := by
        rw [Int.zero_add]
        exact atI_nat (by rw [List.getElem?_map, hri]; rfl)
      refine ⟨_, rfl, _, rfl, D, _, 0 + (i : Int), _, rfl, rfl, SqL.of (q1 _ _ hD1), hat, ri.1, rfl, ⟨_, SqL.of (q1 _ _ f1)⟩, fun D2 hD2 => ?_⟩
      have D2F : D2 ≠ Fo := (ne_of_none q2 hD2).symm
      refine lc_list (xs := ri.2.map V.int) (fun j G' => Ex G G' ∧ ∃ l : List Int, G' D2 = some (.lst (l.map V.int)) ∧ l.Sublist (ri.2.take j) ∧ ∀ o, o ∈ l ↔ o ∈ ri.2.take j ∧ Rch (edg ss) [o] (i : Int)) ⟨Ex.new hD2, [], upd_same, List.nil_sublist _, fun o => by simp⟩ (fun j G' _ z => SqL.of ((q1.trans z.1) _ _ f1)) ?_ ?_
      · rintro j x G' hx ⟨z1, l, z2, z3, z4⟩
        obtain ⟨o, ho, rfl⟩ := get_ints hx
        have oin : o ∈ plcs c := hRin hip ((f4 o).mp (mem_of_get ho))
        obtain ⟨o0, o1⟩ := plcs_mem.mp oin
        obtain ⟨ro, hro⟩ : ∃ r, fs[o.toNat]? = some r := ⟨_, List.getElem?_eq_getElem (by omega)⟩
        obtain ⟨g1, g2, g3, g4⟩ := hfs _ ro hro
        have oe : ((o.toNat : Nat) : Int) = o := by omega
        rw [oe] at g4
        have hat2 : atI (fs.map fun r => V.ref r.1) o = some (V.ref ro.1) := by
          have z := atI_nat (xs := fs.map fun r => V.ref r.1) (j := o.toNat) (v := V.ref ro.1) (by rw [List.getElem?_map, hro]; rfl)
          rw [oe] at z
          exact z
        have q1' := q1.trans z1
        have tk : ri.2.take (j + 1) = ri.2.take j ++ [o] := by rw [List.take_add_one, ho]; rfl
        refine ⟨rfl, _, rfl, _, rfl, _, rfl, D, _, o, _, rfl, rfl, SqL.of (q1' _ _ hD1), hat2, .int (0 + (i : Int)), ro.2.map PyData.int, .int _, dp_inD (SqL.of (q1' _ _ g1)), rfl, ints_shaped _, _, rfl, ?_⟩
        rw [any_int, Int.zero_add, tk]
        by_cases hin : (i : Int) ∈ ro.2
        · rw [decide_eq_true hin]
          have ll : l.length < sizeLine := by
            have := z3.length_le
            rw [List.length_take] at this
            have h1 := nd_len ri.2 (plcs c) f2 fun x hx => hRin hip ((f4 x).mp hx)
            exact sz_m (by omega)
          refine ⟨_, rfl, _, z2, by rw [List.length_map]; exact ll, z1.mut hD2, l ++ [o], by rw [upd_same, List.map_append]; rfl, List.Sublist.append z3 (List.Sublist.refl _), fun y => ?_⟩
          rw [List.mem_append, List.mem_append, z4 y, List.mem_singleton]
          constructor
          · rintro (h | h)
            · exact ⟨.inl h.1, h.2⟩
            · exact ⟨.inr h, by rw [h]; exact (g4 _).mp hin⟩
          · rintro ⟨h | h, h2⟩
            · exact .inl ⟨h, h2⟩
            · exact .inr h
        · rw [decide_eq_false hin]
          refine ⟨z1, l, z2, z3.trans (List.sublist_append_left _ _), fun y => ?_⟩
          rw [z4 y, List.mem_append, List.mem_singleton]
          constructor
          · exact fun h => ⟨.inl h.1, h.2⟩
          · rintro ⟨h | h, h2⟩
            · exact ⟨h, h2⟩
            · rw [h] at h2
              exact absurd ((g4 _).mpr h2) hin
      rintro G4 ⟨z1, l, z2, z3, z4⟩
      rw [List.length_map, List.take_length] at z3 z4
      have hl : LotL (edg ss) (i : Int) l := ⟨f2.sublist z3, f3.sublist z3, fun o => by rw [z4 o, f4 o]; exact Iff.rfl⟩
      have q14 := q1.trans z1
      have hil : (i : Int) ∈ l := (hl.m _).mpr (Sm2.refl _)
      obtain ⟨l0, lr, hlc⟩ : ∃ l0 lr, l = l0 :: lr := by
        cases l with
        | nil => exact absurd hil (by simp)
        | cons x r => exact ⟨x, r, rfl⟩
      have hat0 : atI (l.map V.int) 0 = some (V.int l0) := by
        rw [hlc]
        exact atI_nat (j := 0) rfl
      have hhead : l0 = (i : Int) ↔ ∀ q', Sm2 (edg ss) (i : Int) q' → (i : Int) ≤ q' := by
        have := head_le (x := l0) (l := lr) (p := (i : Int)) (by rw [← hlc]; exact hl.so) (by rw [← hlc]; exact hil)
        rw [← hlc] at this
        rw [this]
        exact ⟨fun h q' hq => h q' ((hl.m _).mpr hq), fun h q' hq => h q' ((hl.m _).mp hq)⟩
      have keep : ∀ {G' : Hp}, Ex G G' → ∀ r ∈ rows, H r.1 = none ∧ hid Fo Fo G' r.1 = some (.lst (r.2.map V.int)) := fun e r hr => ⟨(q8 r hr).1, hid_mono e _ _ (q8 r hr).2⟩
      have no : ¬ Fst ss (i : Int) → ∀ {G' : Hp}, Ex G4 G' → ∃ (x4 x5 : Option V) (rows : List (Addr × List Int)) (ps : List Int), [some (V.int c), some (.ref g), some (.ref D), some (.ref Fo), some (.int (0 + (i : Int))), some (.ref D2), none, none] = [some (.int c), some (.ref g), some (.ref D), some (.ref Fo), x4, x5, none, none] ∧ Ex G1 G' ∧ G' Fo = some (.lst (rows.map fun r => V.ref r.1)) ∧ ps.Pairwise (· < ·) ∧ (∀ p, p ∈ ps ↔ Fst ss p ∧ p < ((i + 1 : Nat) : Int)) ∧ rows.length = ps.length ∧ rows.length ≤ i + 1 ∧ (∀ (v : Nat) (p : Int) (r : Addr × List Int), ps[v]? = some p → rows[v]? = some r → LotL (edg ss) p r.2) ∧ ∀ r ∈ rows, H r.1 = none ∧ hid Fo Fo G' r.1 = some (.lst (r.2.map V.int)) := fun hn G' e => by
        refine ⟨_, _, rows, ps, rfl, q14.trans e, (z1.trans e) _ _ q2, q3, fun p => ?_, q5, by omega, q7, keep (z1.trans e)⟩
        rw [q4 p]
        refine ⟨fun h => ⟨h.1, by omega⟩, fun h => ⟨h.1, ?_⟩⟩
        by_cases e : p = (i : Int)
        · rw [e] at h
          exact absurd h.1 hn
        · have := h.2
          omega
      refine ⟨_, rfl, D2, _, 0, _, rfl, rfl, SqL.of z2, hat0, _, rfl, rfl, _, rfl, ?_⟩
      rw [dec_int]
      by_cases h0 : l0 = 0 + (i : Int)
      case neg =>
        rw [decide_eq_false h0]
        exact iteF (no (fun h => h0 (by rw [Int.zero_add]; exact hhead.mpr h.1)) (Ex.refl _))
      rw [decide_eq_true h0]
      rw [Int.zero_add] at h0
      refine iteT ?_
      have e04 := e1.trans q14
      refine ⟨_, rfl, g, rfl, ⟨us, ex_l e04 hg⟩, fun D3 hD3 => ?_⟩
      refine lc_list (xs := us) (fun k G' => Ex G4 G' ∧ G' D3 = some (.lst (((ss.take k).map fun s => decide (s.one ∈ l) && decide (s.other ∈ l)).map V.bl))) ⟨Ex.new hD3, upd_same⟩ (fun k G' _ z => ex_l (e04.trans z.1) hg) ?_ ?_
      · rintro k x G' hx ⟨w1, w2⟩
        obtain ⟨s, t, hs, rfl, ht⟩ := sts_get hD hx
        have kl := (List.getElem?_eq_some_iff.mp hs).1
        obtain ⟨_, u, e, p1, p2⟩ := stD_inv (dp_ex (e04.trans w1) _ _ ht)
        cases e
        have fin : ∀ bb, bb = (decide (s.one ∈ l) && decide (s.other ∈ l)) → ∃ acc, G' D3 = some (.lst acc) ∧ acc.length < sizeLine ∧ Ex G4 (upd G' D3 (.lst (acc ++ [V.bl bb]))) ∧ upd G' D3 (.lst (acc ++ [V.bl bb])) D3 = some (.lst (((ss.take (k + 1)).map fun s => decide (s.one ∈ l) && decide (s.other ∈ l)).map V.bl)) := fun bb hb => by
          refine ⟨_, w2, by rw [List.length_map, List.length_map, List.length_take]; exact sz_m (by omega), w1.mut hD3, ?_⟩
          rw [upd_same, List.take_add_one, hs, List.map_append, List.map_append, hb]
          rfl
        refine ⟨rfl, _, rfl, t, _, 0, .int s.one, rfl, rfl, p1, rfl, _, rfl, .int s.one, l.map PyData.int, .int _, dp_inD (SqL.of (w1 _ _ z2)), rfl, ints_shaped _, _, rfl, ?_⟩
        rw [any_int]
        by_cases hin : s.one ∈ l
        · rw [decide_eq_true hin] at fin ⊢
          refine iteT ?_
          refine ⟨_, rfl, t, _, 1, .int s.other, rfl, rfl, p1, rfl, _, rfl, .int s.other, l.map PyData.int, .int _, dp_inD (SqL.of (w1 _ _ z2)), rfl, ints_shaped _, ?_⟩
          rw [any_int]
          exact fin _ (by rw [Bool.true_and])
        · rw [decide_eq_false hin] at fin ⊢
          exact iteF (fin _ rfl)
      rintro G5 ⟨w1, w2⟩
      rw [sts_len hD, List.take_length] at w2
      refine ⟨D3, _, rfl, SqL.of w2, _, rfl, ?_⟩
      by_cases hany : ∃ s ∈ ss, s.one ∈ l ∧ s.other ∈ l
      case neg =>
        have hb : ((ss.map fun s => decide (s.one ∈ l) && decide (s.other ∈ l)).any id) = false := by
          rw [List.any_eq_false]
          intro x hx
          obtain ⟨s, hs, rfl⟩ := List.mem_map.mp hx
          intro z
          rw [id, Bool.and_eq_true, decide_eq_true_eq, decide_eq_true_eq] at z
          exact hany ⟨s, hs, z⟩
        rw [hb]
        exact iteF (no (fun h => hany (by
          obtain ⟨s, h1, h2, h3⟩ := h.2
          exact ⟨s, h1, (hl.m _).mpr h2, (hl.m _).mpr h3⟩)) w1)
      have hb : ((ss.map fun s => decide (s.one ∈ l) && decide (s.other ∈ l)).any id) = true := by
        obtain ⟨s, h1, h2, h3⟩ := hany
        rw [List.any_eq_true]
        exact ⟨_, List.mem_map.mpr ⟨s, h1, rfl⟩, by rw [id, decide_eq_true h2, decide_eq_true h3]; rfl⟩
      rw [hb]
      refine iteT ?_
      have hFst : Fst ss (i : Int) := ⟨hhead.mp h0, by
        obtain ⟨s, h1, h2, h3⟩ := hany
        exact ⟨s, h1, (hl.m _).mp h2, (hl.m _).mp h3⟩⟩
      have zw := z1.trans w1
      have hF5 := zw _ _ q2
      refine ⟨_, rfl, .inl ⟨rfl, _, SqL.of hF5⟩, _, rfl, Fo, _, _, rfl, rfl, hF5, by rw [List.length_map]; exact sz_m (by omega), ?_⟩
      refine ⟨_, _, rows ++ [(D2, l)], ps ++ [(i : Int)], rfl, (q14.trans w1).mut hFo, by rw [upd_same, List.map_append]; rfl, ?_, fun p => ?_, by rw [List.length_append, List.length_append, q5]; rfl, by rw [List.length_append]; exact Nat.succ_le_succ q6, fun v p r h1 h2 => ?_, fun r hr => ?_⟩
      · refine List.pairwise_append.mpr ⟨q3, by simp, fun x hx y hy => ?_⟩
        rw [List.mem_singleton.mp hy]
        exact ((q4 x).mp hx).2
      · rw [List.mem_append, q4 p, List.mem_singleton]
        constructor
        · rintro (h | h)
          · exact ⟨h.1, by omega⟩
          · rw [h]
            exact ⟨hFst, by omega⟩
        · rintro ⟨h1, h2⟩
          by_cases e : p = (i : Int)
          · exact .inr e
          · exact .inl ⟨h1, by omega⟩
      · by_cases hv : v < rows.length
        · rw [List.getElem?_append_left hv] at h2
          rw [List.getElem?_append_left (by omega)] at h1
          exact q7 v p r h1 h2
        · have hv2 : v = rows.length := by
            have := (List.getElem?_eq_some_iff.mp h2).1
            rw [List.length_append, List.length_singleton] at this
            omega
          rw [List.getElem?_append_right (by omega), hv2, Nat.sub_self] at h2
          rw [List.getElem?_append_right (by omega), hv2, q5, Nat.sub_self] at h1
          cases h1
          cases h2
          exact hl
      · rw [hid_upda]
        rcases List.mem_append.mp hr with hr | hr
        · exact keep zw r hr
        · rw [List.mem_singleton.mp hr]
          refine ⟨fresh_back (e1.trans q1) hD2, ?_⟩
          show hid Fo Fo G5 D2 = _
          rw [hid_ne D2F D2F]
          exact w1 _ _ z2
    · rintro σ G ⟨x4, x5, rows, ps, rfl, q1, q2, q3, q4, q5, q6, q7, q8⟩
      refine ⟨x4, x5, rows, ps, rfl, q1, q2, ⟨q3, fun p => ?_, by rw [List.length_map]; exact q5, fun v p zs h1 h2 => ?_⟩, fun r hr => ⟨(q8 r hr).1, hid_ex _ _ (q8 r hr).2⟩⟩
      · rw [q4 p]
        refine ⟨fun h => h.1, fun h => ⟨h, ?_⟩⟩
        obtain ⟨s, hs, h3⟩ := fst_one h
        have o := hok s hs
        have := o.o1
        have := o.t1
        rcases h3 with h3 | h3 <;> omega
      · rw [List.getElem?_map] at h2
        cases e : rows[v]? with
        | none => rw [e] at h2; cases h2
        | some r =>
          rw [e] at h2
          cases h2
          exact q7 v p r h1 e
end
end AA

set_option Elab.async false
set_option linter.all false
set_option maxRecDepth 100000
set_option maxHeartbeats 4000000
/-! Things that are handed to is_walk, is_ring, sum_of. -/
namespace AA
open PySem PySem.Spec PyProof.Rows L2 Evl
theorem lw_same {ss ts : List St5} (h : ∀ s, s ∈ ts ↔ s ∈ ss) : ∀ (ds : List PyData) (acc : List St5), lwGo ts ds acc = lwGo ss ds acc
  | [], _ => rfl
  | d :: r, acc => by
    unfold lwGo
    cases stepOf d with
    | none => rfl
    | some s =>
      by_cases q : s ∈ ss
      · have q' := (h s).mpr q
        simp only [if_pos q, if_pos q']
        cases acc.getLast? with
        | none => exact lw_same h r _
        | some t =>
          show (if t.other = s.one then lwGo ts r (acc ++ [s]) else none) = (if t.other = s.one then lwGo ss r (acc ++ [s]) else none)
          rw [lw_same h r]
      · have q' : s ∉ ts := fun z => q ((h s).mp z)
        simp only [if_neg q, if_neg q']
theorem lz_lw (ss : List St5) : ∀ (xs ys : List PyData) (acc : List St5), LzA xs ys → lwGo ss ys acc = lwGo ss xs acc
  | [], _, acc, h => by
    cases h
    rfl
  | x :: xs, _, acc, h => by
    cases h with
    | @cons _ y _ ys h1 h2 =>
      unfold lwGo
      rw [lz_so h1]
      cases stepOf x with
      | none => rfl
      | some s =>
        by_cases q : s ∈ ss
        · simp only [if_pos q]
          cases acc.getLast? with
          | none => exact lz_lw ss xs ys _ h2
          | some t =>
            show (if t.other = s.one then lwGo ss ys (acc ++ [s]) else none) = (if t.other = s.one then lwGo ss xs (acc ++ [s]) else none)
            rw [lz_lw ss xs ys _ h2]
        · simp only [if_neg q]
theorem cntA_it {d : PyData} : (itemsD d).length ≤ cnt d := by
  cases d with
  | list xs =>
    have := cntA_len xs
    show xs.length ≤ cntA xs + 1
    omega
  | tuple xs =>
    have := cntA_len xs
    show xs.length ≤ cntA xs + 1
    omega
  | _ => exact Nat.zero_le _
/-- a thing that stands for a walk, or for none -/
def ThV (K : PySem.W.Frag) (G : Hp) (n : Int) (ts : List St5) (v : V) (W : Option (List St5)) : Prop := (Lk K G v false ∧ W = none) ∨ ∃ d, Dp K G v d ∧ isListD d = true ∧ (itemsD d).length ≤ 1000000 ∧ rdWalk n ts (itemsD d) [] = W
theorem ThV.ex {K : PySem.W.Frag} {G G' : Hp} {n : Int} {ts : List St5} {v : V} {W : Option (List St5)} (h : ThV K G n ts v W) (e : Ex G G') : ThV K G' n ts v W := h.imp (fun z => ⟨z.1.ex e, z.2⟩) fun ⟨d, h1, h2⟩ => ⟨d, dp_ex e _ _ h1, h2⟩
theorem thv_of {K : PySem.W.Frag} {G : Hp} {n : Int} {ss ts : List St5} {v : V} {d d' : PyData} (hok : ∀ s ∈ ts, StOk n s) (hm : ∀ s, s ∈ ts ↔ s ∈ ss) (hd : Dp K G v d') (hz : (itemsD d).length ≤ 1000000) (h : d' = d ∨ Lz d d') : ThV K G n ts v (lawW ss d) := by
  have hl : isListD d' = isListD d := by
    rcases h with h | h
    · rw [h]
    · exact (lz_items h).1
  cases hl' : isListD d' with
  | false =>
    have := lk_dp hd
    rw [hl'] at this
    refine .inl ⟨this, ?_⟩
    unfold lawW
    rw [← hl, hl']
    rfl
  | true =>
    refine .inr ⟨d', hd, hl', ?_, ?_⟩
    · rcases h with h | h
      · rw [h]
        exact hz
      · rcases (lz_items h).2 with h2 | h2
        · rw [← h2]
          exact hz
        · rw [← h2.len]
          exact hz
    · unfold lawW
      rw [← hl, hl', if_pos rfl, lw_rd hok, lw_same hm]
      rcases h with h | h
      · rw [h]
      · rcases (lz_items h).2 with h2 | h2
        · rw [h2]
        · exact lz_lw ss _ _ _ h2
section
variable {K : PySem.W.Frag}
theorem thv_no {G : Hp} {n : Int} {ts : List St5} {v : V} (h : ThV K G n ts v none) : NoWlk K n ts G v := by
  rcases h with ⟨h1, _⟩ | ⟨d, h1, h2, h3, h4⟩
  · exact .inl h1
  · exact .inr ⟨d, h1, h2, h3, h4⟩
/-- a thing of the law's, by the law -/
def Th0 (K : PySem.W.Frag) (F : Hp) (ss : List St5) (v : V) (W : Option (List St5)) : Prop := (Lk K F v false ∧ W = none) ∨ ∃ d, Dp K F v d ∧ dOk d = true ∧ d.depth ≤ 4 ∧ cnt d ≤ 500 ∧ W = lawW ss d
theorem Th0.ex {F G : Hp} {ss : List St5} {v : V} {W : Option (List St5)} (h : Th0 K F ss v W) (e : Ex F G) : Th0 K G ss v W := h.imp (fun z => ⟨z.1.ex e, z.2⟩) fun ⟨d, h1, h2⟩ => ⟨d, dp_ex e _ _ h1, h2⟩
theorem Th0.len {F : Hp} {ss : List St5} {v : V} {W : Option (List St5)} (h : Th0 K F ss v W) : ∀ ws, W = some ws → ws.length ≤ 4000 := fun ws e => by
  rcases h with ⟨_, h⟩ | ⟨d, _, _, _, h1, h2⟩
  · rw [h] at e
    cases e
  · have hz := cntA_it (d := d)
    rw [h2] at e
    unfold lawW at e
    by_cases q : isListD d = true
    · rw [if_pos q] at e
      have := lw_len e
      rw [List.length_nil] at this
      omega
    · rw [if_neg q] at e
      cases e
theorem Th0.th {F : Hp} {n : Int} {ss ts : List St5} {v : V} {W : Option (List St5)} (h : Th0 K F ss v W) (hok : ∀ s ∈ ts, StOk n s) (hm : ∀ s, s ∈ ts ↔ s ∈ ss) : ThV K F n ts v W := by
  rcases h with ⟨h1, h2⟩ | ⟨d, h1, _, _, h2, h3⟩
  · exact .inl ⟨h1, h2⟩
  · rw [h3]
    have hz := cntA_it (d := d)
    exact thv_of hok hm h1 (by omega) (.inl rfl)
theorem th0_of {C : Addr} {R : Addr → Addr → Hp → Prop} {F : Hp} {ss : List St5} {v : V} (h : BtOk K F v) : ∃ W, Th0 K F ss v W ∧ ∀ (G : Hp), Ex F G → Sm K C R G 6 v v := by
  rcases h with ⟨p, rfl, hp⟩ | ⟨f, rfl, hf⟩ | ⟨d, hd, hdo, hdd, hdc⟩
  · exact ⟨none, .inl ⟨lk_dict hp, rfl⟩, fun G e => .inr (.inr (.inr (.inl ⟨p, p, rfl, rfl, e _ _ hp, e _ _ hp, by decide⟩)))⟩
  · refine ⟨none, .inl ⟨lk_fnv hf, rfl⟩, fun G e => ?_⟩
    obtain ⟨od, fd, osl, h⟩ := hf
    exact .inr (.inr (.inr (.inr (.inr ⟨f, _, rfl, rfl, h, rfl⟩))))
  · exact ⟨_, .inr ⟨d, hd, hdo, hdd, hdc, rfl⟩, fun G e => sm_two d v v 6 (dp_ex e _ _ hd) (dp_ex e _ _ hd) hdo (by omega)⟩
end
section
variable {P : Program} {w : World} {K : PySem.W.Frag} {mg : Str → Option Value} {base : Heap}
/-- less is promised than is kept -/
theorem fn_imp {CX : CXT} {k : Nat} {f : Addr} {fd : FuncData} {ps : List Str} {sp sp' : Sp} (G : FnOk P w K mg base CX k f fd ps sp) (h : ∀ vs H Q E, sp' vs H Q E → sp vs H Q E) : FnOk P w K mg base CX k f fd ps sp' :=
  ⟨fun vs H Q E z => G.len vs H Q E (h _ _ _ _ z), fun A outer s H args us vs Q E hr e0 hb r z => G.run A outer s H args us vs Q E hr e0 hb r (h _ _ _ _ z)⟩
def spIsWalkT (K : PySem.W.Frag) (C : Addr) : Sp := fun vs H Q _ => ∃ (x : Addr) (n : Int) (ts : List St5) (v : V) (W : Option (List St5)), vs = [.ref x, v] ∧ WebAt K C H x n ts ∧ ts.Nodup ∧ ts.length ≤ 1000000 ∧ ThV K H n ts v W ∧ ∀ H', Ex H H' → Q (.bl W.isSome) H'
theorem isWalkT {C : Addr} : ∀ vs H Q E, spIsWalkT K C vs H Q E → spIsWalk K C vs H Q E := fun vs H Q E ⟨x, n, ts, v, W, e, h1, h2, h3, h, k⟩ => ⟨x, n, ts, v, e, h1, h2, h3, by
  rcases h with ⟨h1, rfl⟩ | ⟨d, h1, h2, h3, rfl⟩
  · exact .inl ⟨h1, k⟩
  · exact .inr ⟨d, h1, h2, h3, k⟩⟩
def spIsRingT (K : PySem.W.Frag) (C : Addr) : Sp := fun vs H Q _ => ∃ (x : Addr) (n : Int) (ts : List St5) (v : V) (W : Option (List St5)), vs = [.ref x, v] ∧ WebAt K C H x n ts ∧ ts.Nodup ∧ ts.length ≤ 1000000 ∧ ThV K H n ts v W ∧ (∀ ws, W = some ws → ws.length ≤ 4000) ∧ ∀ H', Ex H H' → Q (.bl (ringB W)) H'
theorem isRingT {C : Addr} : ∀ vs H Q E, spIsRingT K C vs H Q E → spIsRing K C vs H Q E := fun vs H Q E ⟨x, n, ts, v, W, e, h1, h2, h3, h, hW, k⟩ => ⟨x, n, ts, v, e, h1, h2, h3, by
  rcases h with ⟨h1, rfl⟩ | ⟨d, h1, h2, h3, rfl⟩
  · exact .inl ⟨h1, k⟩
  · exact .inr ⟨d, h1, h2, h3, fun ws e => by have := hW ws e; omega, k⟩⟩
def spSumNo (K : PySem.W.Frag) (C CB : Addr) : Sp := fun vs H Q E => ∃ (x : Addr) (n : Int) (ts : List St5) (v : V), vs = [.ref x, v] ∧ WebAt K C H x n ts ∧ ts.Nodup ∧ ts.length ≤ 1000000 ∧ ThV K H n ts v none ∧ BadE CB "walk" H v E
theorem sumNo {C CB : Addr} : ∀ vs H Q E, spSumNo K C CB vs H Q E → spSumOf K C CB vs H Q E := fun vs H Q E ⟨x, n, ts, v, e, h1, h2, h3, h, k⟩ => ⟨x, n, ts, v, e, h1, h2, h3, .inl ⟨thv_no h, k⟩⟩
def spSumYes (K : PySem.W.Frag) (C : Addr) : Sp := fun vs H Q _ => ∃ (x : Addr) (n : Int) (ts : List St5) (v : V) (ws : List St5), vs = [.ref x, v] ∧ WebAt K C H x n ts ∧ ts.Nodup ∧ ts.length ≤ 1000000 ∧ ThV K H n ts v (some ws) ∧ ws.length ≤ 1000000 ∧
  ∀ (H' : Hp) (q t : Addr), Ex H H' → H q = none → H' t = some (.tup [.int (sumI (·.p) ws), .int (sumI (·.q) ws)]) → H' q = some (.tup [.ref t, .int (sumI (·.ticks) ws), .int (sumI (·.change) ws)]) → Q (.ref q) H'
theorem sumYes {C CB : Addr} : ∀ vs H Q E, spSumYes K C vs H Q E → spSumOf K C CB vs H Q E0 := fun vs H Q E ⟨x, n, ts, v, ws, e, h1, h2, h3, h, hz, k⟩ => ⟨x, n, ts, v, e, h1, h2, h3, .inr (by
  rcases h with ⟨_, h⟩ | ⟨d, g1, g2, g3, g4⟩
  · cases h
  · exact ⟨d, ws, g1, g2, g3, g4, hz, k⟩)⟩
def spLWalkT (K : PySem.W.Frag) : Sp := fun vs H Q _ => ∃ (g : Addr) (us : List V) (ss : List St5) (v : V) (W : Option (List St5)), vs = [.ref g, v] ∧ SqL K H g us ∧ DpAll K H us (ss.map stD) ∧ Th0 K H ss v W ∧ ∀ H' L, Ex H H' → H L = none → LwR K H H' L W → Q (.ref L) H'
theorem lWalkT : ∀ vs H Q E, spLWalkT K vs H Q E → spLWalk K vs H Q E := fun vs H Q E ⟨g, us, ss, v, W, e, h1, h2, h, k⟩ => ⟨g, us, ss, v, e, h1, h2, by
  rcases h with ⟨h1, rfl⟩ | ⟨d, h1, h2, _, _, rfl⟩
  · exact .inl ⟨h1, fun H' L e h0 hL => k H' L e h0 hL⟩
  · exact .inr ⟨d, h1, h2, k⟩⟩
def spLRingT (K : PySem.W.Frag) : Sp := fun vs H Q _ => ∃ (g : Addr) (us : List V) (ss : List St5) (v : V) (W : Option (List St5)), vs = [.ref g, v] ∧ SqL K H g us ∧ DpAll K H us (ss.map stD) ∧ Th0 K H ss v W ∧ ∀ H', Ex H H' → Q (.bl (ringB W)) H'
theorem lRingT : ∀ vs H Q E, spLRingT K vs H Q E → spLIsRing K vs H Q E := fun vs H Q E ⟨g, us, ss, v, W, e, h1, h2, h, k⟩ => ⟨g, us, ss, v, e, h1, h2, by
  have hl := h.len
  rcases h with ⟨h1, rfl⟩ | ⟨d, h1, h2, _, _, rfl⟩
  · exact .inl ⟨h1, k⟩
  · exact .inr ⟨d, h1, h2, hl, k⟩⟩
def spLooseT (K : PySem.W.Frag) : Sp := fun vs H Q _ => ∃ (a b : Addr) (m : Nat) (n : Int) (ss ts : List St5) (v : V) (W : Option (List St5)), vs = [.ref a, v] ∧ SAt H a b m ∧ m < 800000000 ∧ Th0 K (hid a b H) ss v W ∧ (∀ s ∈ ts, StOk n s) ∧ (∀ s, s ∈ ts ↔ s ∈ ss) ∧ ∀ H' v', ExS a b H H' → SAt H' a b (m + 500) → ThV K H' n ts v' W → Q v' H'
theorem looseT : ∀ vs H Q E, spLooseT K vs H Q E → spLooseB K 6 vs H Q E := fun vs H Q E ⟨a, b, m, n, ss, ts, v, W, e, S, hmm, h, hok, hm, k⟩ => ⟨a, b, m, v, e, S, by
  rcases h with ⟨h1, rfl⟩ | ⟨d, h1, h2, h3, h4, rfl⟩
  · exact .inl ⟨by decide, h1, fun H' e1 s1 => k H' v e1 (s1.mono (by omega)) (.inl ⟨(h1.ex e1).ex hid_ex, rfl⟩)⟩
  · have hz := cntA_it (d := d)
    exact .inr ⟨d, h1, by omega, by omega, by omega, fun H' v' d' e1 s1 h1 hlz => k H' v' e1 (s1.mono (by omega)) (thv_of hok hm (dp_ex nw_le _ _ h1) (by omega) (.inr hlz))⟩⟩
end
end AA

set_option Elab.async false
set_option linter.all false
set_option maxRecDepth 100000
set_option maxHeartbeats 4000000
/-! _law_thing_right. -/
namespace AA
open PySem PySem.Spec PyProof.Rows L2 Evl
section
variable {P : Program} {w : World} {K : PySem.W.Frag} {mg : Str → Option Value} {base : Heap}
def spThR (K : PySem.W.Frag) (C : Addr) (T : List (Addr × Str)) : Sp := fun vs H Q _ => ∃ (a b : Addr) (m : Nat) (x lw l : Addr) (n : Int) (vs0 : List V) (ss ts : List St5) (v : V), vs = [.ref a, .ref x, .ref l, v] ∧ m < 700000000 ∧ LamX.Tabs T H ∧ SAt H a b m ∧
  WebL K C (hid a b H) x lw n ts ∧ ts.Nodup ∧ (∀ s, s ∈ ts ↔ s ∈ ss) ∧ hid a b H l = some (.lst vs0) ∧ DpAll K (hid a b H) vs0 (ss.map stD) ∧ n ≤ 6 ∧ (∀ s ∈ ss, StOk n s) ∧ ss.length ≤ 14 ∧ BtOk K (hid a b H) v ∧
  ∀ H', RS T a b H (m + 1000) H' → Q (.bl true) H'
abbrev nmTR : List Str := ["_law_stream_here", "_law_web_here", "_law_steps", "_law_thing", "_law_walks", "_law_due", "_law_handed", "_law_found"]
theorem scTR : FnScope nmTR ["_law_stream_here", "_law_web_here", "_law_steps", "_law_thing"] (defScope sThingRight) := ⟨rfl, rfl, rfl, by decide +kernel, rfl, by decide +kernel, by decide +kernel⟩
theorem ok_thR {f fW fR fS C CD CY g fd_ fy_ c PT : Addr} {R : Addr → Addr → Hp → Prop} {fd ddW ddR ddS fdg : FuncData} {T : List (Addr × Str)} (F : FunC K "_law_thing_right" sThingRight f fd c) (B : Bn mg) (TB : LamX.TabB base mg c PT) (hT : (PT, (("_law_thing_right" : Str) ++ ".<locals>.") ++ "<lambda>") ∈ T) (hu : ∀ p ∈ T, p.1 = PT → p.2 = (("_law_thing_right" : Str) ++ ".<locals>.") ++ "<lambda>")
    (TR : TrP K mg CD CY g fd_ fy_ fdg)
    (GW : FnOk P w K mg base CX0 5 fW ddW ["web", "thing"] (spIsWalkT K C)) (mW : mg "is_walk" = some (.ref fW)) (kW : PySem.W.keepIn K (.ref fW) = true) (bW : Binds K ddW ["web", "thing"] []) (kbW : KBinds K ddW ["web", "thing"] ["thing", "web"] revK revK)
    (GR : FnOk P w K mg base CX0 5 fR ddR ["web", "thing"] (spIsRingT K C)) (mR : mg "is_ring" = some (.ref fR)) (kR : PySem.W.keepIn K (.ref fR) = true) (bR : Binds K ddR ["web", "thing"] []) (kbR : KBinds K ddR ["web", "thing"] ["thing", "web"] revK revK)
    (GS : FnOk P w K mg base (L2.CX P w) 6 fS ddS ["web", "walk"] (spSumNo K C CD)) (GS0 : FnOk P w K mg base CX0 6 fS ddS ["web", "walk"] (spSumYes K C)) (mS : mg "sum_of" = some (.ref fS)) (kS : PySem.W.keepIn K (.ref fS) = true) (bS : Binds K ddS ["web", "walk"] []) (kbS : KBinds K ddS ["web", "walk"] ["walk", "web"] revK revK)
    (cWk : C8.Cal P w K mg base 3 "_law_walk_of" (spLWalkT K) []) (cRg : C8.Cal P w K mg base 4 "_law_is_ring" (spLRingT K) []) (cL : C8.Cal P w K mg base 8 "_law_loose" (spLooseT K) []) (cSm : C8.Cal P w K mg base 1 "_law_sum" (spLSum K) [])
    (cS : C8.Cal P w K mg base 10 "_law_same" (spSame K C R 7) []) : FnOk P w K mg base CX0 11 f fd ["_law_stream_here", "_law_web_here", "_law_steps", "_law_thing"] (spThR K C T) := by
  obtain ⟨oc, od, kV, doc, pm, an, ct, osl, rfl, lk, hcd⟩ := F.ex
  refine fn_of lk hcd scTR (fun vs H Q E h => ?_) fun A outer s H vs Q E hr h => ?_
  · obtain ⟨a, b, m, x, lw, l, n, vs0, ss, ts, v, rfl, _⟩ := h
    rfl
  suffices go : ∃ t, PSs (cxOf CX0 P w K mg base nmTR "_law_thing_right" (defScope sThingRight) f (.ref c) A outer s H E).nox (defBody sThingRight) t ∧ t { nx := fun _ H' => Q .non H', rt := Q } (L2.start nmTR vs) H from let ⟨t, h1, h2⟩ := go; ⟨t, h1.nox, h2⟩
  · obtain ⟨a, b, m, x, lw, l, n, vs0, ss, ts, v, rfl, hm, hTb, hS, hP, htn, htm, hl, hD, hn6, hok, hsz, hbt, k⟩ := h
    have hr8 : Room 8 (A.deeper (envOfC "_law_thing_right" (defScope sThingRight) s.heap.objs.size f (.ref c))) := hr.mono (by decide)
    have hr5 : Room 5 (A.deeper (envOfC "_law_thing_right" (defScope sThingRight) s.heap.objs.size f (.ref c))) := hr.mono (by decide)
    have hr6 : Room 6 (A.deeper (envOfC "_law_thing_right" (defScope sThingRight) s.heap.objs.size f (.ref c))) := hr.mono (by decide)
    refine ⟨_, pss_cons (ps_set (i := 4) scTR.nd rfl (Or.inl rfl) (C8.pe_c cWk hr (by decide) (by rfl) (pa_cons (pv 2) (pa_cons (pv 3) pa_nil))))
      (pss_cons (ps_set (i := 5) scTR.nd rfl (Or.inl rfl) (pe_lst (pa_cons (pe_cmpR (op_neD hr.units) (pv 4) (pe_lst pa_nil) (nomark _)) (pa_cons (C8.pe_c cRg hr (by decide) (by rfl) (pa_cons (pv 2) (pa_cons (pv 3) pa_nil))) pa_nil))))
      (pss_cons (ps_set (i := 6) scTR.nd rfl (Or.inl rfl) (C8.pe_c cL hr (by decide) (by rfl) (pa_cons (pv 0) (pa_cons (pv 3) pa_nil))))
      (pss_cons (ps_set (i := 7) scTR.nd rfl (Or.inl rfl) (pe_lst (pa_cons (pe_call GW hr5 (by rfl) mW kW bW .nil pass0 (pa_cons (pv 1) (pa_cons (pv 3) pa_nil))) (pa_cons (pe_call GR hr5 (by rfl) mR kR bR .nil pass0 (pa_cons (pv 1) (pa_cons (pv 3) pa_nil)))
          (pa_cons (pe_callK0 GW hr5 (by rfl) mW kW kbW pass0 (pk_cons (pv 6) (pk_cons (pv 1) pk_nil))) (pa_cons (pe_callK0 GR hr5 (by rfl) mR kR kbR pass0 (pk_cons (pv 6) (pk_cons (pv 1) pk_nil))) pa_nil))))))
      (pss_cons (ps_if (pt_not (pt_val (C8.pe_c cS hr (by decide) (by rfl) (pa_cons (pv 7) (pa_cons (pe_op op_rep (pv 5) pe_int) pa_nil))))) (pss_one (ps_ret pe_bl)) pss_nil)
      (pss_cons (ps_if (pt_cmpR (op_eqD hr.units) (pv 4) (pe_lst pa_nil) (nomark _))
        (pss_one (ps_ret (C8.pe_c cS hr (by decide) (by rfl) (pa_cons (pe_triedB (q0 := ("_law_thing_right" : Str) ++ ".<locals>.") (k := 6) rfl rfl rfl TR TB hT hu (by rfl) rfl rfl hr8 (LamX.lamS_by (by rfl)) rfl (fun _ _ _ _ _ => rfl) (fun _ _ _ _ _ _ _ hr' => pe_call GS hr' (by rfl) mS kS bS .nil (passes_call (takes_of rfl rfl rfl rfl) fun _ _ _ _ z => z) (pa_cons (pv 1) (pa_cons (pv 3) pa_nil))))
              (pa_cons (pe_tup (pa_cons pe_str (pa_cons (pv 3) pa_nil))) pa_nil))))) pss_nil)
      (pss_one (ps_ret (C8.pe_c cS hr (by decide) (by rfl) (pa_cons (pe_callK0 GS0 hr6 (by rfl) mS kS kbS pass0 (pk_cons (C8.pe_c cL hr (by decide) (by rfl) (pa_cons (pv 0) (pa_cons (pv 3) pa_nil))) (pk_cons (pv 1) pk_nil))) (pa_cons (C8.pe_c cSm hr (by decide) (by rfl) (pa_cons (pe_ix ix_list (pv 4) pe_int (fun _ _ => rfl)) pa_nil)) pa_nil)))))))))), ?_⟩
    have htok : ∀ s ∈ ts, StOk n s := fun s hs => hok s ((htm s).mp hs)
    have htz : ts.length ≤ 1000000 := by
      have := nd_len ts ss htn fun s hs => (htm s).mp hs
      omega
    have bl : nt (hid a b H) l = some (.lst vs0) := nt_of hl fun ps z => nomatch z
    have bD : DpAll K (nt (hid a b H)) vs0 (ss.map stD) := dpa_nt _ _ hD
    have bP : WebL K C (nt (hid a b H)) x lw n ts := hP.nt
    have bt : BtOk K (nt (hid a b H)) v := by
      rcases hbt with ⟨p, h1, h2⟩ | h | ⟨d, h1, h2⟩
      · exact .inl ⟨p, h1, nt_of h2 fun ps z => nomatch z⟩
      · exact .inr (.inl h)
      · exact .inr (.inr ⟨d, dp_nt _ _ h1, h2⟩)
    have Gl : ∀ {k : Nat} {G : Hp}, RS T a b H k G → G l = some (.lst vs0) := fun r => r.at _ _ bl
    have GD : ∀ {k : Nat} {G : Hp}, RS T a b H k G → DpAll K G vs0 (ss.map stD) := fun r => dpa_ex r.at _ _ bD
    have GW' : ∀ {k : Nat} {G : Hp}, RS T a b H k G → WebAt K C G x n ts := fun r => (bP.ex r.at).at
    have r0 : RS T a b H m H := ⟨Ex.refl _, hS, hTb⟩
    obtain ⟨W, Z, ZS⟩ := th0_of (C := C) (R := R) (ss := ss) bt
    have embS : ∀ {k : Nat} {G : Hp}, RS T a b H k G → Ex (nt (hid a b H)) (hid a b G) := fun r => Ex.trans r.e nt_le
    have dpW : ∀ {G : Hp} {L : Addr}, LwR K H G L W → Dp K G (.ref L) (.list (W.toList.map wkD)) := fun {G L} h => by
      cases hW : W with
      | none =>
        rw [hW] at h
        exact .lst (SqL.of h) .nil
      | some ws =>
        rw [hW] at h
        obtain ⟨q, ys, h1, h2, h3, _⟩ := h
        exact .lst (SqL.of h1) (.cons (.lst (SqL.of h2) h3) .nil)
    have hb : (!PyData.eqv (.list (W.toList.map wkD)) (.list [])) = W.isSome := by
      rw [eqv_wks_nil]
      cases W <;> rfl
    have lwx : ∀ {G G' : Hp} {L : Addr}, LwR K H G L W → Ex G G' → LwR K H G' L W := fun {G G' L} h e => by
      cases hW : W with
      | none =>
        rw [hW] at h
        exact e _ _ h
      | some ws =>
        rw [hW] at h
        obtain ⟨q, ys, h1, h2, h3, h4⟩ := h
        exact ⟨q, ys, e _ _ h1, e _ _ h2, dpa_ex e _ _ h3, h4⟩
    -- walks
    refine ⟨_, rfl, _, rfl, l, vs0, ss, v, W, rfl, SqL.of (Gl r0), GD r0, Z.ex r0.at, fun G1 L e1 L0 hL => ?_⟩
    have r1 := r0.ex e1
    -- due
    refine ⟨_, rfl, Nat.zero_le _, fun l2 hl2 => ?_⟩
    have y2 := Ex.new (o := .lst []) hl2
    refine ⟨_, .list [], dpW (lwx hL y2), .lst (SqL.of upd_same) .nil, wkDs_shaped _, rfl, ?_⟩
    rw [hb]
    generalize upd G1 l2 (.lst []) = G2 at y2 ⊢
    have r2 := r1.ex y2
    have hL2 := lwx hL y2
    refine ⟨_, rfl, _, rfl, l, vs0, ss, v, W, rfl, SqL.of (Gl r2), GD r2, Z.ex r2.at, fun G3 e3 => ⟨by show 2 ≤ sizeLine; decide, fun Du hDu => ?_⟩⟩
    have r3 := r2.ex e3
    have y4 := Ex.new (o := .lst [V.bl W.isSome, V.bl (ringB W)]) hDu
    have j4 : upd G3 Du (.lst [V.bl W.isSome, V.bl (ringB W)]) Du = some (.lst [V.bl W.isSome, V.bl (ringB W)]) := upd_same
    have Dua := r3.s.nea hDu
    have Dub := r3.s.neb hDu
    generalize upd G3 Du (.lst [V.bl W.isSome, V.bl (ringB W)]) = G4 at y4 j4 ⊢
    have r4 := r3.ex y4
    have hL4 := lwx hL2 (e3.trans y4)
    have LaS : L ≠ a := r0.s.nea L0
    have LbS : L ≠ b := r0.s.neb L0
    -- handed
    refine ⟨_, rfl, _, rfl, a, b, m, n, ss, ts, v, W, rfl, r4.s, by omega, Z.ex (embS r4), htok, htm, fun G5 v5 e5 s5 th5 => ?_⟩
    have r5 := r4.go e5 s5
    have j5 := e5.at j4 Dua Dub
    have lwS : ∀ {G G' : Hp} {k : Nat}, LwR K H G L W → SAt G a b k → ExS a b G G' → LwR K H G' L W := fun {G G' k} h S e => by
      cases hW : W with
      | none =>
        rw [hW] at h
        exact e.at h LaS LbS
      | some ws =>
        rw [hW] at h
        obtain ⟨q, ys, h1, h2, h3, h4⟩ := h
        exact ⟨q, ys, e.at h1 LaS LbS, e.at h2 (hS.nea h4) (hS.neb h4), dpa_ex (Ex.trans e hid_ex) _ _ (sts_hid S h3), h4⟩
    have hL5 := lwS hL4 r4.s e5
    -- found
    have thG : ∀ {k : Nat} {G : Hp}, RS T a b H k G → ThV K G n ts v W := fun r => (Z.ex r.at).th htok htm
    refine ⟨_, rfl, _, rfl, x, n, ts, v, W, rfl, GW' r5, htn, htz, thG r5, fun G6 e6 => ?_⟩
    have r6 := r5.ex e6
    refine ⟨_, rfl, _, rfl, x, n, ts, v, W, rfl, GW' r6, htn, htz, thG r6, Z.len, fun G7 e7 => ?_⟩
    have r7 := r6.ex e7
    refine ⟨_, rfl, _, rfl, x, n, ts, v5, W, rfl, GW' r7, htn, htz, th5.ex (e6.trans e7), fun G8 e8 => ?_⟩
    have r8 := r7.ex e8
    refine ⟨_, rfl, _, rfl, x, n, ts, v5, W, rfl, GW' r8, htn, htz, th5.ex (e6.trans (e7.trans e8)), Z.len, fun G9 e9 => ⟨by show 4 ≤ sizeLine; decide, fun Fd hFd => ?_⟩⟩
    have r9 := r8.ex e9
    have e59 := e6.trans (e7.trans (e8.trans e9))
    have y10 := Ex.new (o := .lst [V.bl W.isSome, V.bl (ringB W), V.bl W.isSome, V.bl (ringB W)]) hFd
    have j10 : upd G9 Fd (.lst [V.bl W.isSome, V.bl (ringB W), V.bl W.isSome, V.bl (ringB W)]) Fd = some (.lst [V.bl W.isSome, V.bl (ringB W), V.bl W.isSome, V.bl (ringB W)]) := upd_same
    generalize upd G9 Fd (.lst [V.bl W.isSome, V.bl (ringB W), V.bl W.isSome, V.bl (ringB W)]) = G10 at y10 j10 ⊢
    have e510 := e59.trans y10
    -- the same
    refine ⟨_, rfl, _, rfl, Du, 2, _, rfl, rfl, e510 _ _ j5, by decide, by decide, by show 2 * 2 ≤ sizeLine; decide, fun Rp hRp => ?_⟩
    have y11 := Ex.new (o := .lst [V.bl W.isSome, V.bl (ringB W), V.bl W.isSome, V.bl (ringB W)]) hRp
    have hbl : ∀ {G : Hp} (bb : Bool), Sm K C R G 6 (.bl bb) (.bl bb) := fun bb => .inl ⟨rfl, rfl⟩
    refine ⟨.ref Fd, .ref Rp, rfl, .inr (.inl ⟨Fd, Rp, _, _, rfl, rfl, SqL.of (y11 _ _ j10), SqL.of upd_same, .cons (hbl _) (.cons (hbl _) (.cons (hbl _) (.cons (hbl _) .nil))), by show 4 ≤ 1000000; decide⟩), fun G12 e12 => ⟨_, rfl, iteF ?_⟩⟩
    have e12' : Ex G5 G12 := e510.trans (y11.trans e12)
    have r12 := r5.ex e12'
    have hL12 := lwx hL5 e12'
    -- a walk or none
    refine ⟨_, rfl, Nat.zero_le _, fun l3 hl3 => ?_⟩
    have y13 := Ex.new (o := .lst []) hl3
    refine ⟨_, .list [], dpW (lwx hL12 y13), .lst (SqL.of upd_same) .nil, wkDs_shaped _, rfl, _, rfl, ?_⟩
    generalize upd G12 l3 (.lst []) = G13 at y13 ⊢
    have r13 := r12.ex y13
    have hL13 := lwx hL12 y13
    rw [eqv_wks_nil]
    cases hW : W with
    | none =>
      rw [hW] at thG
      refine iteT ?_
      refine ⟨r13.t, fun A6 eN t6 => ?_⟩
      have s6 := r13.N eN t6
      refine ⟨_, rfl, _, rfl, x, n, ts, v, rfl, GW' s6, htn, htz, thG s6, fun A8 dd e8 h0 h1 => .inl ⟨rfl, dd, v, rfl, h1, fun p8 hp8 => ?_⟩⟩
      have v2 := Ex.new (o := .tup [V.str "walk", v]) hp8
      have i2 : upd A8 p8 (.tup [V.str "walk", v]) p8 = some (.tup [V.str "walk", v]) := upd_same
      generalize upd A8 p8 (.tup [V.str "walk", v]) = A9 at v2 i2 ⊢
      refine ⟨_, rfl, by show 2 ≤ sizeLine; decide, fun p10 hp10 => ?_⟩
      have v3 := Ex.new (o := .tup [V.str "walk", v]) hp10
      have i3 : upd A9 p10 (.tup [V.str "walk", v]) p10 = some (.tup [V.str "walk", v]) := upd_same
      generalize upd A9 p10 (.tup [V.str "walk", v]) = A10 at v3 i3 ⊢
      have s10 := s6.ex (e8.trans (v2.trans v3))
      have sS : Sm K C R A10 6 (.str "walk") (.str "walk") := .inl ⟨rfl, by decide +kernel⟩
      refine ⟨.ref p8, .ref p10, rfl, .inr (.inr (.inl ⟨p8, p10, _, _, rfl, rfl, SqT.of (v3 _ _ i2), SqT.of i3, .cons sS (.cons (ZS _ s10.at) .nil), by show 2 ≤ 1000000; decide⟩)), fun A11 e11 => ?_⟩
      have s11 := s10.ex e11
      exact k A11 ⟨s11.e, s11.s.mono (by omega), s11.t⟩
    | some ws =>
      rw [hW] at thG hL13
      refine iteF ?_
      refine ⟨_, rfl, _, rfl, a, b, m + 500, n, ss, ts, v, W, rfl, r13.s, by omega, Z.ex (embS r13), htok, htm, fun A1 v6 e1 s1 th6 => ?_⟩
      rw [hW] at th6
      have q1 := r13.go e1 s1
      have hl1 := Z.len ws hW
      refine ⟨_, rfl, x, n, ts, v6, ws, rfl, GW' q1, htn, htz, th6, by omega, fun A2 q t e2 q0 ht hq => ?_⟩
      have q2 := q1.ex e2
      obtain ⟨q9, ys, w1, w2, w3, w4⟩ := hL13
      have w1' := e2 _ _ (e1.at w1 LaS LbS)
      have w2' := e2 _ _ (e1.at w2 (hS.nea w4) (hS.neb w4))
      have w3' := dpa_ex e2 _ _ (dpa_ex (Ex.trans e1 hid_ex) _ _ (sts_hid r13.s w3))
      refine ⟨_, rfl, L, _, 0, _, rfl, rfl, SqL.of w1', rfl, q9, ys, ws, rfl, SqL.of w2', w3', by omega, fun A3 q' t' e3 q0' ht' hq' => ?_⟩
      have hi : ∀ {G : Hp} (i : Int), Sm K C R G 6 (.int i) (.int i) := fun i => .inl ⟨rfl, rfl⟩
      have hi5 : ∀ {G : Hp} (i : Int), Sm K C R G 5 (.int i) (.int i) := fun i => .inl ⟨rfl, rfl⟩
      refine ⟨.ref q, .ref q', rfl, .inr (.inr (.inl ⟨q, q', _, _, rfl, rfl, SqT.of (e3 _ _ hq), SqT.of hq', .cons (.inr (.inr (.inl ⟨t, t', _, _, rfl, rfl, SqT.of (e3 _ _ ht), SqT.of ht', .cons (hi5 _) (.cons (hi5 _) .nil), by show 2 ≤ 1000000; decide⟩))) (.cons (hi _) (.cons (hi _) .nil)), by show 3 ≤ 1000000; decide⟩)), fun A4 e4 => ?_⟩
      have q4 := q2.ex (e3.trans e4)
      exact k A4 ⟨q4.e, q4.s.mono (by omega), q4.t⟩
end
end AA

set_option Elab.async false
set_option linter.all false
set_option maxRecDepth 100000
set_option maxHeartbeats 4000000
/-! xs[a:b] = ys. -/
namespace AA
open PySem PySem.Spec PyProof.Rows L2 Evl
def gSlc (to tl th : TE) : TG := fun v σ H k => to σ H fun x H1 => tl σ H1 fun y H2 => th σ H2 fun z H3 => ∃ (l b : Addr) (xs ys : List V) (a c : Int), x = .ref l ∧ v = .ref b ∧ y = .int a ∧ z = .int c ∧ H3 l = some (.lst xs) ∧ H3 b = some (.lst ys) ∧ l ≠ b ∧ 0 ≤ a ∧ a ≤ c ∧ c ≤ xs.length ∧ xs.length + ys.length ≤ sizeLine ∧
  k σ (upd H3 l (.lst (xs.take a.toNat ++ ys ++ xs.drop c.toNat)))
theorem pg_sl {X : Cx} {o lo hi : Expr} {to tl th : TE} {p2 pos : Pos} (ho : PE X o to) (hl : PE X lo tl) (hu : PE X hi th) : PG X (.Subscript o (.Slice (some lo) (some hi) none p2) pos) (gSlc to tl th) := by
  refine ⟨fun pins s σ H v u Q I r h => ?_⟩
  rw [show assign (.Subscript o (.Slice (some lo) (some hi) none p2) pos) X.env u = (do
      let ov ← holding [u] (eval o X.env)
      let iv ← holding [u, ov] (eval (.Slice (some lo) (some hi) none p2) X.env)
      standAt pos
      holding [u, ov, iv] (setItem ov iv u)
      release [iv, u, ov] []) from rfl]
  refine wpAny_bind (wpAny_holding (thn (ho.run pins s σ H _ I h) fun ov s1 ⟨x, H1, I1, r1, q1⟩ => ?_))
  refine wpAny_bind (wpAny_holding (wpAny_Slice ?_))
  rw [evalPart_some]
  refine thn (hl.run pins s1 σ H1 _ I1 q1) fun vl s2 ⟨y, H2, I2, r2, q2⟩ => ?_
  rw [evalPart_some]
  refine thn (hu.run pins s2 σ H2 _ I2 q2) fun vu s3 ⟨z, H3, I3, r3, q3⟩ => ?_
  rw [evalPart_none]
  refine wpAny_pure ?_
  obtain ⟨l, b, xs, ys, a, c, rfl, rfl, rfl, rfl, h1, h2, h3, h4, h5, h6, h7, k⟩ := q3
  cases r1
  cases r
  have I4 : Inv X pins σ H3 { s3 with heap := s3.heap.push { cls := .type "slice", data := .fields #[vl, vu, .none] } } := I3.kept (t' := s3.toks) fun b ob q => Heap.get?_push_of_some _ q
  refine wpAny_bind (wpAny_standAt (wpAny_bind (wpAny_holding (set_slice I4 h1 h2 h3 (Heap.IsSliceOf.new ..) r2 r3 h4 h5 h6 h7 fun s' I' => ?_))))
  exact wpAny_release ⟨σ, _, I', k⟩
end AA

set_option Elab.async false
set_option linter.all false
set_option maxRecDepth 100000
set_option maxHeartbeats 4000000
/-! law. -/
namespace AA
open PySem PySem.Spec PyProof.Rows L2 Evl
section
variable {K : PySem.W.Frag}
/-- two webs that are one -/
def WbR (K : PySem.W.Frag) (C : Addr) (x y : Addr) (H : Hp) : Prop := x = y ∧ ∃ n ss, WebAt K C H x n ss
theorem wbR_ex {C : Addr} : ∀ a b H H', Ex H H' → WbR K C a b H → WbR K C a b H' := fun a b H H' e ⟨h, n, ss, q⟩ => ⟨h, n, ss, q.ex e⟩
/-- a thing that is no place, and is itself -/
def OddP (K : PySem.W.Frag) (C : Addr) (n : Int) (F : Hp) (o : V) : Prop := NoPlc K F n o ∧ ∀ G, Ex F G → Sm K C (WbR K C) G 6 o o
theorem oddp_dp {C : Addr} {n : Int} {F : Hp} {o : V} {d : PyData} (h : Dp K F o d) (hi : isIntD d = false) (ho : dOk d = true) (hd : d.depth < 6) : OddP K C n F o := ⟨.inl (ni_dp h hi), fun G e => sm_two d o o 6 (dp_ex e _ _ h) (dp_ex e _ _ h) ho hd⟩
theorem oddp_int {C : Addr} {n : Int} {F : Hp} {j : Int} (h : j < 0 ∨ n ≤ j) : OddP K C n F (.int j) := ⟨.inr ⟨j, rfl, h⟩, fun G e => .inl ⟨rfl, rfl⟩⟩
theorem oddp_fn {C : Addr} {n : Int} {F : Hp} {f : Addr} (h : FnV K f) : OddP K C n F (.ref f) := by
  refine ⟨.inl (ni_fnv h), fun G e => ?_⟩
  obtain ⟨od, fd, osl, h⟩ := h
  exact .inr (.inr (.inr (.inr (.inr ⟨f, _, rfl, rfl, h, rfl⟩))))
theorem oddp_dict {C : Addr} {n : Int} {F : Hp} {p : Addr} (h : F p = some (.dK [])) : OddP K C n F (.ref p) := ⟨.inl (ni_dict h), fun G e => .inr (.inr (.inr (.inl ⟨p, p, rfl, rfl, e _ _ h, e _ _ h, by decide⟩)))⟩
/-- an instance is no int -/
theorem ni_ins {C x dx : Addr} {F : Hp} {fs : List (Str × V)} (IC : InsK K C) (hi : PySem.W.kitOne K (.ref C) (.type "int") = some false) (hb : PySem.W.kitOne K (.ref C) (.type "bool") = some false) (h : F x = some (.ins C dx fs)) : NotI K F (.ref x) :=
  ⟨.ref C, false, false, fun H' e => .inl (.base (.ins (e _ _ (nt_of h fun ps z => nomatch z)) IC.cl IC.ha IC.hn IC.ht IC.hm)), hi, hb, rfl⟩
theorem oddp_web {C x lw : Addr} {n : Int} {F : Hp} {ts : List St5} (IC : InsK K C) (hi : PySem.W.kitOne K (.ref C) (.type "int") = some false) (hb : PySem.W.kitOne K (.ref C) (.type "bool") = some false) (h : WebL K C F x lw n ts) : OddP K C n F (.ref x) := by
  obtain ⟨dx, kd, ys, h1, h2, h3⟩ := id h
  exact ⟨.inl (ni_ins IC hi hb h1), fun G e => .inr (.inr (.inr (.inr (.inl ⟨x, dx, _, rfl, rfl, e _ _ h1, rfl, n, ts, (h.ex e).at⟩))))⟩
theorem BtOk.nt {F : Hp} {v : V} (h : BtOk K F v) : BtOk K (AA.nt F) v := by
  rcases h with ⟨p, h1, h2⟩ | h | ⟨d, h1, h2⟩
  · exact .inl ⟨p, h1, nt_of h2 fun ps z => nomatch z⟩
  · exact .inr (.inl h)
  · exact .inr (.inr ⟨d, dp_nt _ _ h1, h2⟩)
end
/-- none of what stood, nor of the stream's -/
def Fz (a b : Addr) (H : Hp) (p : Addr) : Prop := (∀ z o, nt (hid a b H) z = some o → z ≠ p) ∧ p ≠ a ∧ p ≠ b
/-- a walk as a list on the heap F -/
def WkF (K : PySem.W.Frag) (F : Hp) (ss : List St5) (o : V) : Prop := ∃ q xs u, o = V.ref q ∧ F q = some (.lst xs) ∧ DpAll K F xs (List.map stD u) ∧ u.length ≤ 8 ∧ ∀ s ∈ u, s ∈ ss
theorem WkF.ex {K : PySem.W.Frag} {F F' : Hp} {ss : List St5} {o : V} (h : WkF K F ss o) (e : Ex F F') : WkF K F' ss o := by
  obtain ⟨q, xs, u, h1, h2, h3, h4⟩ := h
  exact ⟨q, xs, u, h1, e _ _ h2, dpa_ex e _ _ h3, h4⟩
theorem tps_in2 {H : Hp} {a b D : Addr} {m : Nat} {vs : List V} (S : SAt H a b m) (hD : H D = some (.lst vs)) : Ex (tps H) (hid D D (hid a b H)) := fun x o h => by
  obtain ⟨h1, xs, rfl⟩ := tps_some h
  have n : x ≠ D := fun z => by
    rw [z, hD] at h1
    cases h1
  rw [hid_ne n n]
  exact tps_in S _ _ h
theorem WyL.get {K : PySem.W.Frag} {H : Hp} {X : List Addr} {G : Hp} : ∀ {os : List V} {ws : List (List St5)}, WyL K H X G os ws → ∀ v ∈ os, ∃ w ∈ ws, WyAt K H X G v w
  | _, _, .nil, v, h => absurd h (by simp)
  | _, _, .cons h t, v, hv => (List.mem_cons.mp hv).elim (fun e => ⟨_, List.mem_cons_self, e ▸ h⟩) fun hv => let ⟨w, a, b⟩ := WyL.get t v hv; ⟨w, List.mem_cons_of_mem _ a, b⟩
section
variable {P : Program} {w : World} {K : PySem.W.Frag} {mg : Str → Option Value} {base : Heap}
def spRdY (K : PySem.W.Frag) (C : Addr) : Sp := fun vs H Q _ => ∃ (x : Addr) (n : Int) (ss : List St5) (i : Int), vs = [.ref x, .int i] ∧ WebAt K C H x n ss ∧ n < 60 ∧ (∀ s ∈ ss, StOk n s) ∧ ss.length ≤ 100000 ∧ 0 ≤ i ∧ i < n ∧
  ∀ (H' : Hp) (p : Addr) (zs : List Int), Ex H H' → H p = none → H' p = some (.lst (zs.map V.int)) → zs.Nodup → zs.Pairwise (· ≤ ·) → (∀ v, v ∈ zs ↔ Rch (edg ss) [i] v) → Q (.ref p) H'
theorem rdY {C CB : Addr} : ∀ vs H Q E, spRdY K C vs H Q E → spReached K C CB vs H Q E0 := fun vs H Q E ⟨x, n, ss, i, e, h1, h2, h3, h4, h5, h6, k⟩ => ⟨x, n, ss, .int i, e, h1, h2, h3, h4, .inr ⟨i, rfl, h5, h6, k⟩⟩
def spRdN (K : PySem.W.Frag) (C CB : Addr) : Sp := fun vs H Q E => ∃ (x : Addr) (n : Int) (ss : List St5) (v : V), vs = [.ref x, v] ∧ WebAt K C H x n ss ∧ n < 60 ∧ (∀ s ∈ ss, StOk n s) ∧ ss.length ≤ 100000 ∧ NoPlc K H n v ∧ BadE CB "place" H v E
theorem rdN {C CB : Addr} : ∀ vs H Q E, spRdN K C CB vs H Q E → spReached K C CB vs H Q E := fun vs H Q E ⟨x, n, ss, v, e, h1, h2, h3, h4, h5, k⟩ => ⟨x, n, ss, v, e, h1, h2, h3, h4, .inl ⟨h5, k⟩⟩
/-- what Web is asked without a fault -/
def spWebI0 (K : PySem.W.Frag) (C CP CS : Addr) : Sp := fun vs H Q _ => spWebInit K C CP CS vs H Q E0
/-- a web made of good steps -/
theorem web_good {C CP CS x dx : Addr} {G : Hp} {n : Int} {u : V} {ss : List St5} {xs : List V} {a : Addr} {Q : VK} (nx : G x = none) (ndx : G dx = none) (hn : 1 ≤ n) (hu : u = .ref a) (hs : SqA K G a xs) (hr : RdAll K n G xs ss) (nd : ss.Nodup) (hz : ss.length ≤ 1000000)
    (k : ∀ (G' : Hp) (lw : Addr) (ts : List St5), Ex G G' → WebL K C G' x lw n ts → G lw = none → ts.Perm ss → SrS ts → Q .non G') :
    spWebI0 K C CP CS [.ref x, .int n, u] (upd (upd G dx (.own x)) x (.ins C dx [])) Q E0 := by
  have me := made_ex (o := .ins C dx []) nx ndx
  refine ⟨x, dx, .int n, u, rfl, upd_same, .inr ⟨n, rfl, hn, .inr ⟨a, xs, ss, hu, hs.ex me, nd, hz, .inl ⟨hr.ex me, fun G' ts dy lw kd ys e fx fl0 fl hys p so => ?_⟩⟩⟩⟩
  obtain ⟨e1, w1, l0⟩ := made_web nx ndx e fx fl0 fl hys
  exact k G' lw ts e1 w1 l0 p so
def spLaw02 (K : PySem.W.Frag) (T : List (Addr × Str)) : Sp := fun vs H Q _ => ∃ (s : Addr) (ns : List Int), vs = [.ref s] ∧ SqL K H s (ns.map V.int) ∧ ns.length ≤ 63 ∧ LamX.Tabs T H ∧ ∀ H', Q (.bl true) H'
abbrev nmL : List Str := ["_law_script", "_law_stream_here", "_law_turn", "_law_places", "_law_steps", "_law_web_here", "_law_things", "_law_k", "_law_walk", "_law_thing", "_law_place", "_law_told", "_law_due", "_law_found", "_law_lot", "_law_odd", "_law_held", "_law_other"]
theorem scL : FnScope nmL ["_law_script"] (defScope sLaw) := ⟨rfl, rfl, rfl, by decide +kernel, rfl, by decide +kernel, by decide +kernel⟩
theorem lots_dp {G : Hp} : ∀ rows : List (Addr × List Int), (∀ r ∈ rows, G r.1 = some (.lst (r.2.map V.int))) → DpAll K G (rows.map fun r => V.ref r.1) ((rows.map (·.2)).map inD)
  | [], _ => .nil
  | r :: rows, h => .cons (dp_inD (SqL.of (h r List.mem_cons_self))) (lots_dp rows fun x hx => h x (List.mem_cons_of_mem _ hx))
theorem dok_ints : ∀ zs : List Int, dOkA (zs.map PyData.int) = true
  | [] => rfl
  | _ :: zs => dok_ints zs
theorem dok_inD {zs : List Int} (h : zs.length ≤ 1000000) : dOk (inD zs) = true := by
  show (decide ((zs.map PyData.int).length ≤ 1000000) && dOkA (zs.map PyData.int)) = true
  rw [dok_ints, List.length_map, decide_eq_true h]
  rfl
theorem dok_lots : ∀ {L : List (List Int)}, (∀ zs ∈ L, zs.length ≤ 1000000) → dOkA (L.map inD) = true
  | [], _ => rfl
  | z :: L, h => by
    show (dOk (inD z) && dOkA (L.map inD)) = true
    rw [dok_inD (h z List.mem_cons_self), dok_lots fun x hx => h x (List.mem_cons_of_mem _ hx)]
    rfl
theorem dep_inD (zs : List Int) : PyData.depth (inD zs) ≤ 2 := by
  have := ints_lay zs
  show PyData.depthAll (zs.map PyData.int) + 1 ≤ 2
  omega
theorem dep_lots : ∀ L : List (List Int), PyData.depthAll (L.map inD) ≤ 2
  | [] => Nat.zero_le _
  | z :: L => by
    have h1 := dep_inD z
    have h2 := dep_lots L
    show max (PyData.depth (inD z)) (PyData.depthAll (L.map inD)) ≤ 2
    omega
theorem lot_len {c : Int} {ss : List St5} {ps : List Int} {L : List (List Int)} (R : LotsR ss ps L) (hok : ∀ s ∈ ss, StOk c s) (hc : c < 60) : ∀ zs ∈ L, zs.length ≤ 1000000 := fun zs hz => by
  obtain ⟨i, hi⟩ := List.getElem?_of_mem hz
  have il := (List.getElem?_eq_some_iff.mp hi).1
  obtain ⟨p, hp⟩ : ∃ p, ps[i]? = some p := ⟨_, List.getElem?_eq_getElem (by rw [← R.len]; exact il)⟩
  have hl := R.at' i p zs hp hi
  have hF := (R.m p).mp (mem_of_get hp)
  have nmp : ∀ {v : Int}, (∃ s ∈ ss, s.one = v ∨ s.other = v) → v ∈ plcs c := fun ⟨s, h1, h2⟩ => by
    have o := hok s h1
    rcases h2 with h2 | h2
    · rw [← h2]
      exact plcs_mem.mpr ⟨o.o0, o.o1⟩
    · rw [← h2]
      exact plcs_mem.mpr ⟨o.t0, o.t1⟩
  have := nd_len zs (plcs c) hl.nd fun q hq => by
    by_cases e : q = p
    · rw [e]
      exact nmp (fst_one hF)
    · exact nmp (((hl.m q).mp hq).2.nmd e)
  rw [plcs_len] at this
  omega
theorem ok_law02 {f fD fI fR fS C CP CS CD CY g fd_ fy_ c PT : Addr} {fd fdI ddR ddS fdg : FuncData} {T : List (Addr × Str)} (F : FunC K "law" sLaw f fd c) (B : Bn mg) (hset : mg "set" = none) (TB : LamX.TabB base mg c PT) (hT : (PT, (("law" : Str) ++ ".<locals>.") ++ "<lambda>") ∈ T) (hu : ∀ p ∈ T, p.1 = PT → p.2 = (("law" : Str) ++ ".<locals>.") ++ "<lambda>")
    (TR : TrP K mg CD CY g fd_ fy_ fdg) (TW : WebTxt K mg C) (M : Mk K C fI) (GI : FnOk P w K mg base CX0 5 fI fdI ["self", "places", "steps"] (spWebI0 K C CP CS)) (bI : Binds K fdI ["self", "places", "steps"] [])
    (IC : InsK K C) (hCi : PySem.W.kitOne K (.ref C) (.type "int") = some false) (hCb : PySem.W.kitOne K (.ref C) (.type "bool") = some false)
    (GY : FnOk P w K mg base CX0 4 fR ddR ["web", "place"] (spRdY K C)) (GN : FnOk P w K mg base (L2.CX P w) 4 fR ddR ["web", "place"] (spRdN K C CY)) (mR : mg "reached" = some (.ref fR)) (kR : PySem.W.keepIn K (.ref fR) = true) (bR : Binds K ddR ["web", "place"] []) (kbR : KBinds K ddR ["web", "place"] ["place", "web"] revK revK)
    (GS : FnOk P w K mg base (L2.CX P w) 6 fS ddS ["web", "walk"] (spSumNo K C CD)) (mS : mg "sum_of" = some (.ref fS)) (kS : PySem.W.keepIn K (.ref fS) = true) (bS : Binds K ddS ["web", "walk"] [])
    (mD : mg "_law_draw" = some (.ref fD)) (vD : FnV K fD)
    (cSt : C8.Cal P w K mg base 1 "_law_stream" (spStream K) []) (cWb : C8.Cal P w K mg base 5 "_law_web" (spWeb K) []) (cDw : C8.Cal P w K mg base 3 "_law_drawn_walk" (spDrw K) []) (cRn : C8.Cal P w K mg base 1 "_law_rings" (spLRings K) []) (cM : C8.Cal P w K mg base 2 "_law_mixed" (spMixed K) []) (cB : C8.Cal P w K mg base 3 "_law_bent" (spBent K) [])
    (cTR : C8.Cal P w K mg base 11 "_law_thing_right" (spThR K C T) []) (cS : C8.Cal P w K mg base 10 "_law_same" (spSame K C (WbR K C) 7) []) (cLR : C8.Cal P w K mg base 1 "_law_reached" (spLRch K) []) (cLL : C8.Cal P w K mg base 2 "_law_lots" (spLLots K) []) (cLo : C8.Cal P w K mg base 4 "lots" (spLots K C) []) :
    FnOk P w K mg base CX0 12 f fd ["_law_script"] (spLaw02 K T) := by
  obtain ⟨oc, od, kV, doc, pm, an, ct, osl, rfl, lk, hcd⟩ := F.ex
  refine fn_of lk hcd scL (fun vs H Q E h => ?_) fun A outer s H vs Q E hr h => ?_
  · obtain ⟨s, ns, rfl, _⟩ := h
    rfl
  suffices go : ∃ t, PSs (cxOf CX0 P w K mg base nmL "law" (defScope sLaw) f (.ref c) A outer s H E).nox (defBody sLaw) t ∧ t { nx := fun _ H' => Q .non H', rt := Q } (L2.start nmL vs) H from let ⟨t, h1, h2⟩ := go; ⟨t, h1.nox, h2⟩
  · obtain ⟨s0, ns, rfl, hS0, hns, hT0, k⟩ := h
    have hr4 : Room 4 (A.deeper (envOfC "law" (defScope sLaw) s.heap.objs.size f (.ref c))) := hr.mono (by decide)
    have hr5 : Room 5 (A.deeper (envOfC "law" (defScope sLaw) s.heap.objs.size f (.ref c))) := hr.mono (by decide)
    have hr6 : Room 6 (A.deeper (envOfC "law" (defScope sLaw) s.heap.objs.size f (.ref c))) := hr.mono (by decide)
    have hr8 : Room 8 (A.deeper (envOfC "law" (defScope sLaw) s.heap.objs.size f (.ref c))) := hr.mono (by decide)
    refine ⟨_, pss_cons (ps_set (i := 1) scL.nd rfl (Or.inr rfl) (C8.pe_c cSt hr (by decide) (by rfl) (pa_cons (pv 0) pa_nil)))
      (pss_cons (ps_for PassesOwn.never rfl (pi_range1 (by rfl) B.range (pa_cons pe_int pa_nil)) (pg_name (i := 2) scL.nd rfl (Or.inl rfl))
        (pss_cons (ps_asg (C8.pe_c cWb hr (by decide) (by rfl) (pa_cons (pv 1) (pa_cons pe_int (pa_cons pe_int pa_nil)))) (pg_tup (n := 2) rfl (pgs_cons (pg_name (i := 3) scL.nd rfl (Or.inr rfl)) (pgs_cons (pg_name (i := 4) scL.nd rfl (Or.inr rfl)) pgs_nil))))
        (pss_cons (ps_set (i := 5) scL.nd rfl (Or.inr rfl) (pe_make M GI hr6 (by rfl) TW.mgC bI .nil pass0 (pa_cons (pv 3) (pa_cons (pv 4) pa_nil))))
        (Evl.pss_cut (ps_set (i := 6) scL.nd rfl (Or.inl rfl) (pe_op op_cat (pe_lc (own := [("_law_k", 7)]) (g := gName 7) (tt := tYes) (by rfl) scL.nd (pi_range1 (by rfl) B.range (pa_cons pe_int pa_nil)) (blkOk_by (N := nmL) (sc := defScope sLaw) (by decide +kernel)) (fun _ _ _ _ _ => pg_name (i := 7) scL.nd rfl (Or.inl rfl)) (fun _ _ _ _ _ => pts_nil)
              (fun _ _ _ _ _ => C8.pe_c cDw hr (by decide) (by rfl) (pa_cons (pv 1) (pa_cons (pv 3) (pa_cons (pv 4) pa_nil)))))
            (pe_slice (r := rSlL K) sl_list (C8.pe_c cM hr (by decide) (by rfl) (pa_cons (pv 1) (pa_cons (C8.pe_c cRn hr (by decide) (by rfl) (pa_cons (pv 4) pa_nil)) pa_nil))) po_none (po_some pe_int))))
        (Evl.pss_cut (ps_for PassesOwn.never rfl (pi_list (pe_callTy (r := rLoF K) call_list_of (by rfl) B.list boot_list (pa_cons (pv 6) pa_nil))) (pg_name (i := 8) scL.nd rfl (Or.inr rfl))
            (pss_one (ps_expr (pe_bm PySem.F.plainAttrs_list PySem.F.slot_list_extend PySem.F.type_list_extend mt_extend (pv 6) (pa_cons (pe_lc (own := [("_law_k", 7)]) (g := gName 7) (tt := tYes) (by rfl) scL.nd (pi_range1 (by rfl) B.range (pa_cons pe_int pa_nil)) (blkOk_by (N := nmL) (sc := defScope sLaw) (by decide +kernel)) (fun _ _ _ _ _ => pg_name (i := 7) scL.nd rfl (Or.inl rfl)) (fun _ _ _ _ _ => pts_nil)
              (fun _ _ _ _ _ => C8.pe_c cB hr (by decide) (by rfl) (pa_cons (pv 1) (pa_cons (pv 4) (pa_cons (pv 8) pa_nil))))) pa_nil)))))
        (Evl.pss_cut (ps_if (pt_not (pt_val (pe_callB (r := rAll K) (cr_all (by rfl)) (by rfl) B.all boot_all (pa_cons (pe_lc (own := [("_law_thing", 9)]) (g := gName 9) (tt := tYes) (by rfl) scL.nd (pi_list (pv 6)) (blkOk_by (N := nmL) (sc := defScope sLaw) (by decide +kernel)) (fun _ _ _ _ _ => pg_name (i := 9) scL.nd rfl (Or.inl rfl)) (fun _ _ _ _ _ => pts_nil)
              (fun _ _ _ _ _ => C8.pe_c cTR hr (by decide) (by rfl) (pa_cons (pv 1) (pa_cons (pv 5) (pa_cons (pv 4) (pa_cons (pv 9) pa_nil)))))) pa_nil)))) (pss_one (ps_ret pe_bl)) pss_nil)
        (Evl.pss_cut (ps_for PassesOwn.never rfl (pi_range1 (by rfl) B.range (pa_cons (pv 3) pa_nil)) (pg_name (i := 10) scL.nd rfl (Or.inl rfl))
            (pss_cons (ps_set (i := 11) scL.nd rfl (Or.inl rfl) (pe_call GY hr4 (by rfl) mR kR bR .nil pass0 (pa_cons (pv 5) (pa_cons (pv 10) pa_nil))))
            (pss_cons (ps_if (pt_not (pt_val (C8.pe_c cS hr (by decide) (by rfl) (pa_cons (pv 11) (pa_cons (C8.pe_c cLR hr (by decide) (by rfl) (pa_cons (pv 4) (pa_cons (pv 10) pa_nil))) pa_nil))))) (pss_one (ps_ret pe_bl)) pss_nil)
            (pss_one (ps_expr (pe_bm PySem.F.plainAttrs_list PySem.F.slot_list_append PySem.F.type_list_append mt_append (pv 11) (pa_cons pe_str pa_nil)))))))
        (pss_cons (ps_set (i := 12) scL.nd rfl (Or.inl rfl) (C8.pe_c cLL hr (by decide) (by rfl) (pa_cons (pv 3) (pa_cons (pv 4) pa_nil))))
        (Evl.pss_cut (ps_set (i := 13) scL.nd rfl (Or.inl rfl) (C8.pe_c cLo hr (by decide) (by rfl) (pa_cons (pv 5) pa_nil)))
        (Evl.pss_cut (ps_if (pt_not (pt_val (C8.pe_c cS hr (by decide) (by rfl) (pa_cons (pe_lst (pa_cons (pv 13) (pa_cons (pe_callK0 GY hr4 (by rfl) mR kR kbR pass0 (pk_cons pe_int (pk_cons (pv 5) pk_nil))) pa_nil))) (pa_cons (pe_lst (pa_cons (pv 12) (pa_cons (C8.pe_c cLR hr (by decide) (by rfl) (pa_cons (pv 4) (pa_cons pe_int pa_nil))) pa_nil))) pa_nil))))) (pss_one (ps_ret pe_bl)) pss_nil)
        (pss_cons (ps_expr (pe_bm PySem.F.plainAttrs_list PySem.F.slot_list_append PySem.F.type_list_append mt_append (pv 13) (pa_cons pe_str pa_nil)))
        (Evl.pss_cut (ps_asg (pe_lst pa_nil) (pg_sl (pv 13) pe_int pe_int))
        (Evl.pss_cut (ps_if (pt_not (pt_val (C8.pe_c cS hr (by decide) (by rfl) (pa_cons (C8.pe_c cLo hr (by decide) (by rfl) (pa_cons (pv 5) pa_nil)) (pa_cons (pv 12) pa_nil))))) (pss_one (ps_ret pe_bl)) pss_nil)
        (Evl.pss_cut (ps_for PassesOwn.never rfl (pi_list (C8.pe_c cLo hr (by decide) (by rfl) (pa_cons (pv 5) pa_nil))) (pg_name (i := 14) scL.nd rfl (Or.inl rfl))
            (pss_one (ps_expr (pe_bm PySem.F.plainAttrs_list PySem.F.slot_list_append PySem.F.type_list_append mt_append (pv 14) (pa_cons pe_str pa_nil)))))
        (Evl.pss_cut (ps_if (pt_not (pt_val (C8.pe_c cS hr (by decide) (by rfl) (pa_cons (C8.pe_c cLo hr (by decide) (by rfl) (pa_cons (pv 5) pa_nil)) (pa_cons (pv 12) pa_nil))))) (pss_one (ps_ret pe_bl)) pss_nil)
        (Evl.pss_cut (ps_for PassesOwn.never rfl (pi_list (pe_lst (pa_cons pe_non (pa_cons (pe_un un_neg pe_int) (pa_cons (pv 3) (pa_cons pe_bl (pa_cons pe_str (pa_cons (pe_tup (pa_cons pe_int pa_nil)) (pa_cons (pe_lst pa_nil) (pa_cons pe_dnewK (pa_cons (pe_glob (v := .ref fD) (by rfl) mD rfl) (pa_cons (pv 5) pa_nil)))))))))))) (pg_name (i := 15) scL.nd rfl (Or.inr rfl))
            (pss_one (ps_if (pt_not (pt_val (C8.pe_c cS hr (by decide) (by rfl) (pa_cons (pe_triedB (q0 := ("law" : Str) ++ ".<locals>.") (k := 4) rfl rfl rfl TR TB hT hu (by rfl) rfl rfl hr6 (LamX.lamS_by (by rfl)) rfl (fun _ _ _ _ _ => rfl) (fun _ _ _ _ _ _ _ hr' => pe_call GN hr' (by rfl) mR kR bR .nil (passes_call (takes_of rfl rfl rfl rfl) fun _ _ _ _ z => z) (pa_cons (pv 5) (pa_cons (pv 15) pa_nil))))
              (pa_cons (pe_tup (pa_cons pe_str (pa_cons (pv 15) pa_nil))) pa_nil))))) (pss_one (ps_ret pe_bl)) pss_nil)))
        (Evl.pss_cut (ps_asg (pe_tup (pa_cons (pe_lst (pa_cons pe_non pa_nil)) (pa_cons (pe_lst (pa_cons pe_int pa_nil)) pa_nil))) (pg_tup (n := 2) rfl (pgs_cons (pg_name (i := 16) scL.nd rfl (Or.inr rfl)) (pgs_cons (pg_name (i := 17) scL.nd rfl (Or.inr rfl)) pgs_nil))))
        (Evl.pss_cut (ps_set (i := 13) scL.nd rfl (Or.inl rfl) (pe_lst (pa_cons (pe_triedB (q0 := ("law" : Str) ++ ".<locals>.") (k := 6) rfl rfl rfl TR TB hT hu (by rfl) rfl rfl hr8 (LamX.lamS_by (by rfl)) rfl (fun _ _ _ _ _ => rfl) (fun _ _ _ _ _ _ _ hr' => pe_call GS hr' (by rfl) mS kS bS .nil (passes_call (takes_of rfl rfl rfl rfl) fun _ _ _ _ z => z) (pa_cons (pv 5) (pa_cons (pv 16) pa_nil)))) (pa_cons (pe_tup (pa_cons pe_str (pa_cons pe_non pa_nil))) pa_nil))))
        (Evl.pss_cut (ps_asg (pe_triedB (q0 := ("law" : Str) ++ ".<locals>.") (k := 4) rfl rfl rfl TR TB hT hu (by rfl) rfl rfl hr6 (LamX.lamS_by (by rfl)) rfl (fun _ _ _ _ _ => rfl) (fun _ _ _ _ _ _ _ hr' => pe_call GN hr' (by rfl) mR kR bR .nil (passes_call (takes_of rfl rfl rfl rfl) fun _ _ _ _ z => z) (pa_cons (pv 5) (pa_cons (pv 17) pa_nil)))) (pg_sub (pv 13) pe_int set_list))
        (pss_cons (ps_expr (pe_bm PySem.F.plainAttrs_list PySem.F.slot_list_append PySem.F.type_list_append mt_append (pv 16) (pa_cons pe_str pa_nil)))
        (pss_cons (ps_expr (pe_bm PySem.F.plainAttrs_list PySem.F.slot_list_append PySem.F.type_list_append mt_append (pv 17) (pa_cons pe_str pa_nil)))
        (pss_one (ps_if (pt_not (pt_val (C8.pe_c cS hr (by decide) (by rfl) (pa_cons (pv 13) (pa_cons (pe_lst (pa_cons (pe_tup (pa_cons pe_str (pa_cons (pe_lst (pa_cons pe_non (pa_cons pe_str pa_nil))) pa_nil))) (pa_cons (pe_tup (pa_cons pe_str (pa_cons (pe_lst (pa_cons pe_int (pa_cons pe_str pa_nil))) pa_nil))) pa_nil))) pa_nil))))) (pss_one (ps_ret pe_bl)) pss_nil)))))))))))))))))))))))
      (pss_one (ps_ret pe_bl))), ?_⟩
    refine ⟨_, rfl, s0, ns, rfl, hS0, hns, fun H0 a b e0 ha hb hst => ?_⟩
    refine ⟨(4 : Int), rfl, by decide, by decide, for_range (lo := 0) (n := ((4 : Int)).toNat) (fun i σ G => ∃ (x2 x3 x4 x5 x6 x8 x10 x11 x12 x13 x14 x15 x16 x17 : Option V), σ = [some (.ref s0), some (.ref a), x2, x3, x4, x5, x6, none, x8, none, x10, x11, x12, x13, x14, x15, x16, x17] ∧ ∃ m, m ≤ 1000000 * i ∧ SAt G a b m ∧ LamX.Tabs T G) ?_ ?_ ?_⟩
    · exact ⟨none, none, none, none, none, none, none, none, none, none, none, none, none, none, rfl, 0, Nat.le_refl _, hst, hT0.ext e0⟩
    case refine_3 =>
      rintro σ G ⟨x2, x3, x4, x5, x6, x8, x10, x11, x12, x13, x14, x15, x16, x17, rfl, m, hm, hSG, hTG⟩
      exact k G
    rintro i σ G hi ⟨x2, x3, x4, x5, x6, x8, x10, x11, x12, x13, x14, x15, x16, x17, rfl, m, hm, hSG, hTG⟩
    have hi5 : i < 4 := hi
    -- the web's steps
    refine ⟨_, rfl, a, b, m, 6, 14, rfl, hSG, by omega, by decide, by decide, by decide, by decide, fun H2 p l kk vs ss e2 s2 hp0 hl0 hp hl hD hWb hk6 hlen => ?_⟩
    refine ⟨p, _, rfl, SqT.of hp, rfl, _, _, rfl, _, _, rfl, rfl, ?_⟩
    have t2 := tabs_S hTG hSG e2
    have hsz : ss.length ≤ 14 := by omega
    -- the web
    refine ⟨_, rfl, _, rfl, fun x dx x0 dx0 ne => web_good x0 dx0 hWb.n1 rfl (.inl (SqL.of hl)) (rdall_st (dpa_ex tps_le _ _ hD) hWb.ok) hWb.nd (by omega) fun H3 lw ts e3 hW lw0 pm srs => ⟨rfl, ?_⟩⟩
    have s3 := s2.ex e3
    have t3 := t2.ext e3
    have la := s2.nea lw0
    have lb := s2.neb lw0
    have hWS := hW.hidS s3 (s2.nea x0) (s2.neb x0) la lb
    have tnd : ts.Nodup := pm.symm.nodup hWb.nd
    have tmem : ∀ s, s ∈ ts ↔ s ∈ ss := fun s => pm.mem_iff
    have htok : ∀ s ∈ ts, StOk kk s := fun s hs => hWb.ok s ((tmem s).mp hs)
    have htz : ts.length ≤ 14 := by rw [pm.length_eq]; exact hsz
    have lA : l ≠ a := hSG.nea hl0
    have lB : l ≠ b := hSG.neb hl0
    have bl : nt (hid a b H3) l = some (.lst vs) := nt_of (by rw [hid_ne lA lB]; exact e3 _ _ hl) fun ps z => nomatch z
    have bD : DpAll K (nt (hid a b H3)) vs (ss.map stD) := dpa_nt _ _ (dpa_ex ((tps_in s2).trans (hid_mono e3)) _ _ hD)
    have bW : WebL K C (nt (hid a b H3)) x lw kk ts := hWS.nt
    have r0 : RS T a b H3 (m + 20000) H3 := ⟨Ex.refl _, s3, t3⟩
    have Gl : ∀ {k : Nat} {G : Hp}, RS T a b H3 k G → G l = some (.lst vs) := fun r => r.at _ _ bl
    have GD : ∀ {k : Nat} {G : Hp}, RS T a b H3 k G → DpAll K G vs (ss.map stD) := fun r => dpa_ex r.at _ _ bD
    have Wat : ∀ {k : Nat} {G : Hp}, RS T a b H3 k G → WebAt K C G x kk ts := fun r => (bW.ex r.at).at
    have fr : ∀ {k : Nat} {G : Hp} {p : Addr}, RS T a b H3 k G → G p = none → ∀ z o, nt (hid a b H3) z = some o → z ≠ p := fun r hp z o hz e => by
      have := r.at _ _ hz
      rw [e, hp] at this
      cases this
    have hk0 : 0 < kk := by have := hWb.n1; omega
    have blS : ∀ {k : Nat} {G : Hp}, RS T a b H3 k G → hid a b G l = some (.lst vs) := fun r => nt_le _ _ (r.e _ _ bl)
    have bDS : ∀ {k : Nat} {G : Hp}, RS T a b H3 k G → DpAll K (hid a b G) vs (ss.map stD) := fun r => dpa_ex (Ex.trans r.e nt_le) _ _ bD
    -- the walks
    refine ⟨fun σ G => ∃ (Th : Addr) (os : List V) (k : Nat), σ = [some (.ref s0), some (.ref a), some (.int (0 + (i : Int))), some (.int kk), some (.ref l), some (.ref x), some (.ref Th), none, x8, none, x10, x11, x12, x13, x14, x15, x16, x17] ∧ RS T a b H3 k G ∧ k ≤ m + 921000 ∧ G Th = some (.lst os) ∧ os.length ≤ 6 ∧ H3 Th = none ∧ ∀ o ∈ os, WkF K (hid Th Th (hid a b G)) ss o, ?_, ?_⟩
    · refine ⟨(3 : Int), rfl, by decide, by decide, fun D hD0 => ?_⟩
      have Da := s3.nea hD0
      have Db := s3.neb hD0
      refine lc_range (lo := 0) (n := (3 : Int).toNat) (fun i G => ExS a b H3 G ∧ SAt G a b (m + 20000 + 10 * i) ∧ ∃ acc : List V, G D = some (.lst acc) ∧ acc.length = i ∧ ∀ o ∈ acc, WkF K (hid D D (hid a b G)) ss o) ⟨ExS.own ExS.rfl hD0 Da Db, s3.upd Da Db, [], upd_same, rfl, fun y hy => absurd hy (by simp)⟩ ?_ ?_
      · rintro j G hj ⟨q1, q2, acc, q3, q4, q5⟩
        have hj3 : j < 3 := hj
        have rj := r0.go q1 q2
        refine ⟨rfl, _, rfl, _, rfl, _, rfl, a, b, m + 20000 + 10 * j, kk, l, vs, ss, rfl, q2, by omega, hk0, by omega, blS rj, ?_, by omega, fun G' p' us' ws' e' s' p0 hp' hD' hsub hwl => ?_⟩
        · exact dpa_ex ((tps_mono e3).trans (tps_hid q1 s3)) _ _ hD
        have pD : p' ≠ D := (ne_of_none q3 p0).symm
        have q3' := e'.at q3 Da Db
        refine ⟨acc, q3', by rw [q4]; exact sz_m (by omega), ExS.own (q1.trans e') hD0 Da Db, (s'.upd Da Db), acc ++ [.ref p'], upd_same, by rw [List.length_append, q4]; rfl, fun o ho => ?_⟩
        rw [show hid D D (hid a b (upd G' D (.lst (acc ++ [V.ref p'])))) = hid D D (hid a b G') from by rw [hid_upd Da Db, hid_upda]]
        rcases List.mem_append.mp ho with ho | ho
        · exact (q5 o ho).ex (hid_mono e')
        · rw [List.mem_singleton.mp ho]
          refine ⟨p', us', ws', rfl, by rw [hid_ne pD pD, hid_ne (q2.nea p0) (q2.neb p0)]; exact hp', dpa_ex (tps_in2 s' q3') _ _ hD', by omega, hsub⟩
      · rintro G1 ⟨q1, q2, acc, q3, q4, q5⟩
        have q4 : acc.length = 3 := q4
        have q2 : SAt G1 a b (m + 20000 + 10 * 3) := q2
        have r1 := r0.go q1 q2
        refine ⟨_, rfl, _, rfl, l, vs, ss, kk, rfl, SqL.of (Gl r1), GD r1, hk6, hWb.ok, hsz, fun G2 Fr os rws e2 F0 hF hwy hrg hwl => ?_⟩
        have r2 := r1.ex e2
        have hol := hwy.len
        have Fa := q2.nea F0
        have Fb := q2.neb F0
        refine ⟨a, b, m + 20000 + 10 * 3, Fr, os, rfl, r2.s, SqL.of (by rw [hid_ne Fa Fb]; exact hF), by omega, by omega, fun G3 p3 ys e3' s3' p30 hp3 pm3 => ?_⟩
        have r3 := r2.go e3' s3'
        refine ⟨3, rfl, p3, ys, rfl, SqL.of hp3, fun c1 hc1 => ?_⟩
        rw [show cutV ys none (some 3) = ys.take 3 from cut_to ys 3]
        have y4 := Ex.new (o := .lst (ys.take 3)) hc1
        have j4 : upd G3 c1 (.lst (ys.take 3)) c1 = some (.lst (ys.take 3)) := upd_same
        generalize upd G3 c1 (.lst (ys.take 3)) = G4 at y4 j4 ⊢
        have hD4 : G4 D = some (.lst acc) := y4 _ _ (e3'.at (e2 _ _ q3) Da Db)
        refine ⟨D, c1, acc, ys.take 3, rfl, rfl, hD4, j4, sz_le (by rw [q4, List.length_take]; omega), fun Th hTh => ?_⟩
        have y5 := Ex.new (o := .lst (acc ++ ys.take 3)) hTh
        have r4 := r3.ex y4
        have r5 := r4.ex y5
        have Tha := r4.s.nea hTh
        have Thb := r4.s.neb hTh
        have x14 : ExS a b G1 G4 := Ex.trans (Ex.trans (hid_mono (a := a) (b := b) e2) e3') (hid_mono (a := a) (b := b) y4)
        have Th1 : G1 Th = none := ExS.back x14 r4.s hTh
        have Th3 : H3 Th = none := ExS.back q1 q2 Th1
        have emb : ∀ {F : Hp}, Ex F (hid a b G4) → F Th = none → Ex F (hid Th Th (hid a b (upd G4 Th (.lst (acc ++ ys.take 3))))) := fun e h => gh_ex h (Ex.trans e (hid_mono y5))
        refine ⟨Th, acc ++ ys.take 3, _, rfl, r5, by rw [hol]; omega, upd_same, by rw [List.length_append, List.length_take, q4]; omega, Th3, fun o ho => ?_⟩
        rcases List.mem_append.mp ho with ho | ho
        · refine (q5 o ho).ex (emb (Ex.trans hid_ex x14) (hid_none (hid_none Th1)))
        · have ho2 := pm3.mem_iff.mp (List.mem_of_mem_take ho)
          obtain ⟨u, hu, q, xs, rfl, q0, qF, hq, hqd⟩ := hwy.get o ho2
          have rg := hrg u hu
          have qa := q2.nea q0
          have qb := q2.neb q0
          have hq4 : hid a b G4 q = some (.lst xs) := by
            rw [hid_ne qa qb]
            exact y4 _ _ (e3'.at hq qa qb)
          refine ⟨q, xs, u, rfl, ?_, dpa_ex (emb (Ex.trans (hid_mono (a := a) (b := b) (Ex.refl G1)) x14) (hid_none Th1)) _ _ (sts_hid q2 hqd), by have := rg.len; omega, rg.sub⟩
          have qTh : q ≠ Th := fun z => by
            rw [z] at hq4
            rw [hid_none hTh] at hq4
            cases hq4
          rw [hid_ne qTh qTh]
          exact hid_mono y5 _ _ hq4
    rintro σ G5 ⟨Th, os, k5, rfl, r5, hk5, hTh5, hol, Th3, hos⟩
    have Tha := s3.nea Th3
    have Thb := s3.neb Th3
    have frTh : ∀ z o, nt (hid a b H3) z = some o → z ≠ Th := fun z o hz e => by
      have := r0.at _ _ hz
      rw [e, Th3] at this
      cases this
    have hidTh : ∀ {G : Hp} {o : HO}, hid Th Th (hid a b (upd G Th o)) = hid Th Th (hid a b G) := fun {G o} => by rw [hid_upd Tha Thb, hid_upda]
    have lTh : l ≠ Th := frTh _ _ bl
    -- and what is near to them
    refine ⟨fun σ G => ∃ (x8 : Option V) (os : List V) (k : Nat), σ = [some (.ref s0), some (.ref a), some (.int (0 + (i : Int))), some (.int kk), some (.ref l), some (.ref x), some (.ref Th), none, x8, none, x10, x11, x12, x13, x14, x15, x16, x17] ∧ RS T a b H3 k G ∧ k ≤ m + 921100 ∧ G Th = some (.lst os) ∧ os.length ≤ 24 ∧ ∀ o ∈ os, BtOk K (hid Th Th (hid a b G)) o, ?_, ?_⟩
    · refine ⟨_, rfl, Th, os, rfl, .inl (SqL.of hTh5), fun Cp hCp => ?_⟩
      have y6 := Ex.new (o := .lst os) hCp
      have j6 : upd G5 Cp (.lst os) Cp = some (.lst os) := upd_same
      have CpTh : Cp ≠ Th := (ne_of_none hTh5 hCp).symm
      have Cpa := r5.s.nea hCp
      have Cpb := r5.s.neb hCp
      generalize upd G5 Cp (.lst os) = G6 at y6 j6 ⊢
      have r6 := r5.ex y6
      have hTh6 := y6 _ _ hTh5
      have hos6 : ∀ o ∈ os, WkF K (hid Th Th (hid a b G6)) ss o := fun o ho => (hos o ho).ex (hid_mono (hid_mono y6))
      have jC : hid Th Th (hid a b G6) Cp = some (.lst os) := by
        rw [hid_ne CpTh CpTh, hid_ne Cpa Cpb]
        exact j6
      refine ⟨Cp, rfl, ⟨_, SqL.of j6⟩, for_list (K := K) (a := Cp) (xs := os) (fun j σ G => ∃ (x8 : Option V) (osi : List V) (k : Nat), σ = [some (.ref s0), some (.ref a), some (.int (0 + (i : Int))), some (.int kk), some (.ref l), some (.ref x), some (.ref Th), none, x8, none, x10, x11, x12, x13, x14, x15, x16, x17] ∧ RS T a b H3 k G ∧ k ≤ k5 + 15 * j ∧ Ex (hid Th Th (hid a b G6)) (hid Th Th (hid a b G)) ∧ G Th = some (.lst osi) ∧ osi.length = os.length + 3 * j ∧ ∀ o ∈ osi, BtOk K (hid Th Th (hid a b G)) o) ?_ ?_ ?_ ?_⟩
      · refine ⟨_, os, k5, rfl, r6, Nat.le_refl _, Ex.refl _, hTh6, rfl, fun o ho => ?_⟩
        obtain ⟨q, xs, u, rfl, hq, hX, hul, hsub⟩ := hos6 o ho
        exact bt_wk hq hX (by omega)
      · rintro j σ G _ ⟨x8, osi, k', rfl, rG, hk', eG, _⟩
        exact SqL.of (hid_ex _ _ (hid_ex _ _ (eG _ _ jC)))
      case refine_4 =>
        rintro σ G ⟨x8, osi, k', rfl, rG, hk', eG, hThG, hosl, hbt⟩
        exact ⟨_, osi, k', rfl, rG, by omega, hThG, by omega, hbt⟩
      rintro j xo σ G hxo ⟨x8', osi, k', rfl, rG, hk', eG, hThG, hosl, hbt⟩
      have jl := (List.getElem?_eq_some_iff.mp hxo).1
      obtain ⟨q, xs, u, rfl, hq, hX, hul, hsub⟩ := (hos6 xo (mem_of_get hxo)).ex eG
      refine ⟨_, rfl, .inl ⟨rfl, _, SqL.of hThG⟩, (3 : Int), rfl, by decide, by decide, fun D hD0 => ?_⟩
      have Da := rG.s.nea hD0
      have Db := rG.s.neb hD0
      have DTh : D ≠ Th := (ne_of_none hThG hD0).symm
      have embH : ∀ {G' : Hp}, ExS a b G G' → Ex (hid Th Th (hid a b G)) (h3 a b D Th G') := fun {G'} e z o hz => by
        obtain ⟨h1, h2, _⟩ := hid_some hz
        have zD : z ≠ D := fun w => by
          rw [w] at h1
          rw [hid_none hD0] at h1
          cases h1
        unfold h3
        rw [hid_ne zD h2]
        exact e _ _ h1
      have hlG : hid Th Th (hid a b G) l = some (.lst vs) := by
        rw [hid_ne lTh lTh]
        exact blS rG
      have hDG : DpAll K (hid Th Th (hid a b G)) vs (ss.map stD) := by
        refine dpa_ex (fun z o hz => ?_) _ _ bD
        have zTh := frTh z o hz
        rw [hid_ne zTh zTh]
        exact nt_le _ _ (rG.e _ _ hz)
      refine lc_range (lo := 0) (n := (3 : Int).toNat) (fun i2 G' => ExS a b G G' ∧ SAt G' a b (k' + 5 * i2) ∧ ∃ acc : List V, G' D = some (.lst acc) ∧ acc.length = i2 ∧ ∀ o ∈ acc, BtOk K (h3 a b D Th G') o) ⟨ExS.own ExS.rfl hD0 Da Db, rG.s.upd Da Db, [], upd_same, rfl, fun y hy => absurd hy (by simp)⟩ ?_ ?_
      · rintro i2 G' hi2 ⟨q1, q2, acc, q3, q4, q5⟩
        have hi3 : i2 < 3 := hi2
        have e1 := embH q1
        refine ⟨rfl, _, rfl, _, rfl, _, rfl, a, b, D, Th, _, _, k' + 5 * i2, l, q, vs, xs, ss, u, rfl, q2, by omega, q3, q1.at hThG Tha Thb, e1 _ _ hlG, dpa_ex e1 _ _ hDG, by omega, e1 _ _ hq, dpa_ex e1 _ _ hX, by omega, fun s hs => hWb.sm s (hsub s hs), fun G'' v e' s' hv => ?_⟩
        have q3' := e'.at q3 Da Db
        refine ⟨acc, q3', by rw [q4]; exact sz_m (by omega), ExS.own (q1.trans e') hD0 Da Db, (s'.upd Da Db).mono (by omega), acc ++ [v], upd_same, by rw [List.length_append, q4]; rfl, fun o ho => ?_⟩
        rw [show h3 a b D Th (upd G'' D (.lst (acc ++ [v]))) = h3 a b D Th G'' from by unfold h3; rw [hid_upd Da Db, hid_upda]]
        rcases List.mem_append.mp ho with ho | ho
        · exact (q5 o ho).ex (h3_S e')
        · rw [List.mem_singleton.mp ho]
          exact hv
      · rintro G7 ⟨q1, q2, acc, q3, q4, q5⟩
        have q4 : acc.length = 3 := q4
        have q2 : SAt G7 a b (k' + 5 * 3) := q2
        have hTh7 := q1.at hThG Tha Thb
        have r7 := (rG.go q1 q2).mut (ys := osi ++ acc) hTh7 frTh Tha Thb
        refine ⟨Th, D, osi, acc, rfl, rfl, hTh7, q3, sz_le (by rw [q4]; omega), _, osi ++ acc, _, rfl, r7, by omega, ?_, upd_same, by rw [List.length_append, q4]; omega, fun o ho => ?_⟩
        · rw [hidTh]
          exact Ex.trans eG (hid_mono q1)
        · rw [hidTh]
          rcases List.mem_append.mp ho with ho | ho
          · exact (hbt o ho).ex (hid_mono q1)
          · refine (q5 o ho).ex fun z w hz => ?_
            unfold h3 at hz
            obtain ⟨h1, h2, h3'⟩ := hid_some hz
            rw [hid_ne h3' h3']
            exact h1
    rintro σ G8 ⟨x8', os8, k8, rfl, r8, hk8, hTh8, hol8, hbt8⟩
    -- all of them are told as they should
    refine ⟨fun σ G => ∃ k, σ = [some (.ref s0), some (.ref a), some (.int (0 + (i : Int))), some (.int kk), some (.ref l), some (.ref x), some (.ref Th), none, x8', none, x10, x11, x12, x13, x14, x15, x16, x17] ∧ RS T a b H3 k G ∧ k ≤ m + 946000, ?_, ?_⟩
    · refine ⟨_, rfl, Th, rfl, ⟨_, SqL.of hTh8⟩, fun D hD0 => ?_⟩
      have Da := r8.s.nea hD0
      have Db := r8.s.neb hD0
      have DTh : D ≠ Th := (ne_of_none hTh8 hD0).symm
      have frD := fr r8 hD0
      have jTh : nt (hid a b G8) Th = some (.lst os8) := nt_of (by rw [hid_ne Tha Thb]; exact hTh8) fun ps z => nomatch z
      have bt8 : ∀ o ∈ os8, BtOk K (nt (hid a b G8)) o := fun o ho => ((hbt8 o ho).ex hid_ex).nt
      have frD8 : ∀ z o, nt (hid a b G8) z = some o → z ≠ D := fun z o hz e => by
        have := hid_ex _ _ (nt_le _ _ hz)
        rw [e, hD0] at this
        cases this
      refine lc_list (xs := os8) (fun j G => RS T a b H3 (k8 + 1000 * j) G ∧ Ex (nt (hid a b G8)) (nt (hid a b G)) ∧ G D = some (.lst ((List.replicate j true).map V.bl))) ⟨?_, ?_, upd_same⟩ (fun j G _ z => SqL.of (hid_ex _ _ (nt_le _ _ (z.2.1 _ _ jTh)))) ?_ ?_
      · exact r8.ex (Ex.new hD0)
      · exact nt_mono (hid_mono (Ex.new hD0))
      · rintro j v G hv ⟨q1, q2, q3⟩
        have jl := (List.getElem?_eq_some_iff.mp hv).1
        refine ⟨rfl, _, rfl, _, rfl, _, rfl, _, rfl, a, b, k8 + 1000 * j, x, lw, l, kk, vs, ss, ts, v, rfl, by omega, q1.t, q1.s, bW.ex (Ex.trans q1.e nt_le), tnd, tmem, blS q1, bDS q1, hk6, hWb.ok, hsz, (bt8 v (mem_of_get hv)).ex (Ex.trans q2 nt_le), fun G' r' => ?_⟩
        have q3' : G' D = some (.lst ((List.replicate j true).map V.bl)) := hid_ex _ _ (nt_le _ _ (r'.e _ _ (nt_of (by rw [hid_ne Da Db]; exact q3) fun ps z => nomatch z)))
        have rr : RS T a b H3 (k8 + 1000 * (j + 1)) G' := ⟨Ex.trans q1.e r'.e, r'.s, r'.t⟩
        refine ⟨_, q3', by rw [List.length_map, List.length_replicate]; exact sz_m (by omega), ?_⟩
        have ey : (List.replicate j true).map V.bl ++ [V.bl true] = (List.replicate (j + 1) true).map V.bl := by
          rw [List.replicate_succ', List.map_append]
          rfl
        rw [ey]
        refine ⟨rr.mut q3' frD Da Db, ?_, upd_same⟩
        intro z o hz
        have zD := frD8 z o hz
        obtain ⟨h1, h2⟩ := nt_some ((Ex.trans q2 r'.e) _ _ hz)
        refine nt_of ?_ h2
        rw [hid_upd Da Db, upd_ne zD]
        exact h1
      · rintro G9 ⟨q1, q2, q3⟩
        refine ⟨D, _, rfl, SqL.of q3, _, rfl, ?_⟩
        have hall : (List.replicate os8.length true).all id = true := by simp
        rw [hall]
        exact iteF ⟨_, rfl, q1, by omega⟩
    rintro σ G9 ⟨k9, rfl, r9, hk9⟩
    have rin : ∀ {p v : Int}, p ∈ plcs kk → Rch (edg ss) [p] v → v ∈ plcs kk := fun hp h => h.in (fun x hx => by rw [List.mem_singleton.mp hx]; exact hp) fun x y hxy => by
      obtain ⟨s, h1, h2, h3⟩ := edg_mem.mp hxy
      rw [← h3]
      exact plcs_mem.mpr ⟨(hWb.ok s h1).t0, (hWb.ok s h1).t1⟩
    have zsl : ∀ {p : Int} {zs : List Int}, p ∈ plcs kk → zs.Nodup → (∀ v, v ∈ zs ↔ Rch (edg ss) [p] v) → zs.length ≤ 1000000 := fun hp nd h => by
      have := nd_len _ (plcs kk) nd fun v hv => rin hp ((h v).mp hv)
      rw [plcs_len] at this
      omega
    have tr : ∀ {S : List Int} {v : Int}, Rch (edg ts) S v ↔ Rch (edg ss) S v := rch_same tmem
    have htok5 : ∀ s ∈ ss, s.other ∈ plcs kk := fun s hs => plcs_mem.mpr ⟨(hWb.ok s hs).t0, (hWb.ok s hs).t1⟩
    have pz : (plcs kk).length < 64 := by rw [plcs_len]; omega
    -- whom one comes to
    refine ⟨fun σ G => ∃ x10 x11 : Option V, σ = [some (.ref s0), some (.ref a), some (.int (0 + (i : Int))), some (.int kk), some (.ref l), some (.ref x), some (.ref Th), none, x8', none, x10, x11, x12, x13, x14, x15, x16, x17] ∧ RS T a b H3 k9 G, ?_, ?_⟩
    · refine ⟨_, rfl, kk, rfl, by omega, by omega, for_range (lo := 0) (n := kk.toNat) (fun j σ G => ∃ x10 x11 : Option V, σ = [some (.ref s0), some (.ref a), some (.int (0 + (i : Int))), some (.int kk), some (.ref l), some (.ref x), some (.ref Th), none, x8', none, x10, x11, x12, x13, x14, x15, x16, x17] ∧ RS T a b H3 k9 G) ⟨_, _, rfl, r9⟩ ?_ fun σ G z => z⟩
      rintro j σ G hj ⟨x10', x11', rfl, rG⟩
      have jp : (0 + (j : Int)) ∈ plcs kk := plcs_mem.mpr ⟨by omega, by omega⟩
      refine ⟨_, rfl, _, rfl, x, kk, ts, 0 + (j : Int), rfl, Wat rG, by omega, htok, by omega, by omega, by omega, fun G1 p zs e1 p0 hp nd so hmm => ?_⟩
      have r1 := rG.ex e1
      refine ⟨_, rfl, _, rfl, _, rfl, l, 0 + (j : Int), vs, ss, plcs kk, rfl, SqL.of (Gl r1), GD r1, by omega, jp, htok5, pz, fun G2 q zs2 e2 q0 hq nd2 so2 hm2 => ?_⟩
      obtain rfl : zs2 = zs := ord_uniq nd2 so2 nd so fun v => (hm2 v).trans (tr.symm.trans (hmm v).symm)
      have zl := zsl jp nd2 hm2
      refine ⟨.ref p, .ref q, rfl, sm_two (inD zs2) _ _ 7 (dp_inD (SqL.of (e2 _ _ hp))) (dp_inD (SqL.of hq)) (dok_inD zl) (by have := dep_inD zs2; omega), fun G3 e3 => ⟨_, rfl, iteF ?_⟩⟩
      have hp3 := (e2.trans e3) _ _ hp
      have r3 := r1.ex (e2.trans e3)
      refine ⟨_, rfl, .inl ⟨rfl, _, SqL.of hp3⟩, p, _, _, rfl, rfl, hp3, by rw [List.length_map]; exact Nat.lt_of_le_of_lt zl (by decide), ?_⟩
      exact ⟨_, _, rfl, r3.mut hp3 (fr rG p0) (rG.s.nea p0) (rG.s.neb p0)⟩
    rintro σ G10 ⟨x10', x11', rfl, r10⟩
    -- the lots, by the law
    refine ⟨_, rfl, _, rfl, kk, l, vs, ss, rfl, SqL.of (Gl r10), GD r10, hWb.n1, by omega, hWb.ok, by omega, fun G11 Fd rows ps e11 Fd0 hFd LR hrows => ?_⟩
    have r11 := r10.ex e11
    have Fda := r10.s.nea Fd0
    have Fdb := r10.s.neb Fd0
    have rS0 : RS T a b G11 k9 G11 := ⟨Ex.refl _, r11.s, r11.t⟩
    -- what is known of G11 is known of what comes behind
    have up : ∀ {k : Nat} {G : Hp}, RS T a b G11 k G → RS T a b H3 k G := fun r => ⟨Ex.trans r11.e r.e, r.s, r.t⟩
    have bF : nt (hid a b G11) Fd = some (.lst (rows.map fun r => V.ref r.1)) := nt_of (by rw [hid_ne Fda Fdb]; exact hFd) fun ps z => nomatch z
    have bR : ∀ r ∈ rows, nt (hid a b G11) r.1 = some (.lst (r.2.map V.int)) := fun r hr => nt_of (by
      obtain ⟨h1, h2⟩ := hrows r hr
      rw [hid_ne (r10.s.nea h1) (r10.s.neb h1)]
      exact h2) fun ps z => nomatch z
    have ll := lot_len LR hWb.ok (by omega)
    have dpDue : ∀ {k : Nat} {G : Hp}, RS T a b G11 k G → Dp K G (.ref Fd) (.list ((rows.map (·.2)).map inD)) := fun r => .lst (SqL.of (r.at _ _ bF)) (lots_dp rows fun q hq => r.at _ _ (bR q hq))
    have fr2 : ∀ {k : Nat} {G : Hp} {p : Addr}, RS T a b G11 k G → G p = none → ∀ z o, nt (hid a b G11) z = some o → z ≠ p := fun r hp z o hz e => by
      have := r.at _ _ hz
      rw [e, hp] at this
      cases this
    have lsm : ∀ {G : Hp} {F1 : Addr} {rw1 : List (Addr × List Int)}, G F1 = some (.lst (rw1.map fun r => V.ref r.1)) → rw1.map (·.2) = rows.map (·.2) → (∀ r ∈ rw1, G r.1 = some (.lst (r.2.map V.int))) → Dp K G (.ref F1) (.list ((rows.map (·.2)).map inD)) := fun h1 h2 h3 => by
      rw [← h2]
      exact .lst (SqL.of h1) (lots_dp _ h3)
    have hrl : rows.length ≤ 1000000 := by
      have h1 := LR.len
      rw [List.length_map] at h1
      have h2 := nd_len ps (plcs kk) (List.nodup_iff_pairwise_ne.mpr (LR.asc.imp fun {u v} h => by omega)) fun p hp => by
        obtain ⟨s, hs, h3⟩ := fst_one ((LR.m p).mp hp)
        have o := hWb.ok s hs
        rcases h3 with h3 | h3
        · rw [← h3]
          exact plcs_mem.mpr ⟨o.o0, o.o1⟩
        · rw [← h3]
          exact plcs_mem.mpr ⟨o.t0, o.t1⟩
      rw [plcs_len] at h2
      omega
    have dokL : dOk (.list ((rows.map (·.2)).map inD)) = true := by
      show (decide (((rows.map (·.2)).map inD).length ≤ 1000000) && dOkA ((rows.map (·.2)).map inD)) = true
      rw [dok_lots ll, List.length_map, List.length_map, decide_eq_true hrl]
      rfl
    have depL : PyData.depth (.list ((rows.map (·.2)).map inD)) ≤ 3 := by
      have := dep_lots (rows.map (·.2))
      show PyData.depthAll ((rows.map (·.2)).map inD) + 1 ≤ 3
      omega
    have uq : ∀ {ps' : List Int} {L' : List (List Int)}, LotsR ts ps' L' → L' = rows.map (·.2) := fun h => (h.same tmem).uniq LR
    have smL : ∀ {k : Nat} {G : Hp} {F1 : Addr}, RS T a b G11 k G → Dp K G (.ref F1) (.list ((rows.map (·.2)).map inD)) → Sm K C (WbR K C) G 7 (.ref F1) (.ref Fd) := fun r h => sm_two _ _ _ 7 h (dpDue r) dokL (by omega)
    -- the lots
    refine ⟨fun σ G => ∃ (F1 : Addr) (rw1 : List (Addr × List Int)), σ = [some (.ref s0), some (.ref a), some (.int (0 + (i : Int))), some (.int kk), some (.ref l), some (.ref x), some (.ref Th), none, x8', none, x10', x11', some (.ref Fd), some (.ref F1), x14, x15, x16, x17] ∧ RS T a b G11 k9 G ∧ G F1 = some (.lst (rw1.map fun r => V.ref r.1)) ∧ rw1.map (·.2) = rows.map (·.2) ∧ (∀ r ∈ rw1, G r.1 = some (.lst (r.2.map V.int))) ∧ G11 F1 = none ∧ rw1.length < 64, ?_, ?_⟩
    · refine ⟨_, rfl, x, kk, ts, rfl, Wat r11, by omega, htok, by omega, fun G' F1 rw1 ps' e' F10 hF1 LR' hr1 hl1 => ?_⟩
      exact ⟨F1, rw1, rfl, rS0.ex e', hF1, uq LR', fun r hr => (hr1 r hr).2.2, F10, hl1⟩
    rintro σ G12 ⟨F1, rw1, rfl, r12, hF1, hrw, hr1, F10, hl1⟩
    have F1a := r11.s.nea F10
    have F1b := r11.s.neb F10
    have zp : (0 : Int) ∈ plcs kk := plcs_mem.mpr ⟨by omega, by omega⟩
    -- and whom the first one comes to
    refine ⟨fun σ G => σ = [some (.ref s0), some (.ref a), some (.int (0 + (i : Int))), some (.int kk), some (.ref l), some (.ref x), some (.ref Th), none, x8', none, x10', x11', some (.ref Fd), some (.ref F1), x14, x15, x16, x17] ∧ Ex G12 G, ?_, ?_⟩
    · refine ⟨_, rfl, _, rfl, x, kk, ts, 0, rfl, Wat (up r12), by omega, htok, by omega, by omega, by omega, fun G1 p zs e1 p0 hp nd so hmm => ?_⟩
      have r1 := r12.ex e1
      refine ⟨by show 2 ≤ sizeLine; decide, fun L1 hL1 => ?_⟩
      have y2 := Ex.new (o := .lst [V.ref F1, V.ref p]) hL1
      have j2 : upd G1 L1 (.lst [V.ref F1, V.ref p]) L1 = some (.lst [V.ref F1, V.ref p]) := upd_same
      generalize upd G1 L1 (.lst [V.ref F1, V.ref p]) = G2 at y2 j2 ⊢
      have r2 := r1.ex y2
      refine ⟨_, rfl, _, rfl, l, 0, vs, ss, plcs kk, rfl, SqL.of (Gl (up r2)), GD (up r2), by omega, zp, htok5, pz, fun G3 q zs2 e3 q0 hq nd2 so2 hm2 => ?_⟩
      obtain rfl : zs2 = zs := ord_uniq nd2 so2 nd so fun v => (hm2 v).trans (tr.symm.trans (hmm v).symm)
      have zl := zsl zp nd2 hm2
      have r3 := r2.ex e3
      refine ⟨by show 2 ≤ sizeLine; decide, fun L2 hL2 => ?_⟩
      have y4 := Ex.new (o := .lst [V.ref Fd, V.ref q]) hL2
      have j4 : upd G3 L2 (.lst [V.ref Fd, V.ref q]) L2 = some (.lst [V.ref Fd, V.ref q]) := upd_same
      generalize upd G3 L2 (.lst [V.ref Fd, V.ref q]) = G4 at y4 j4 ⊢
      have r4 := r3.ex y4
      have e24 := e3.trans y4
      have e124 := e1.trans (y2.trans e24)
      have dF1 : Dp K G4 (.ref F1) (.list ((rows.map (·.2)).map inD)) := lsm (e124 _ _ hF1) hrw fun r hr => e124 _ _ (hr1 r hr)
      have dp1 : Dp K G4 (.ref p) (inD zs2) := dp_inD (SqL.of ((y2.trans e24) _ _ hp))
      have dq1 : Dp K G4 (.ref q) (inD zs2) := dp_inD (SqL.of (y4 _ _ hq))
      refine ⟨.ref L1, .ref L2, rfl, sm_two (.list [.list ((rows.map (·.2)).map inD), inD zs2]) _ _ 7 (.lst (SqL.of (e24 _ _ j2)) (.cons dF1 (.cons dp1 .nil))) (.lst (SqL.of j4) (.cons (dpDue r4) (.cons dq1 .nil))) ?_ ?_, fun G5 e5 => ⟨_, rfl, iteF ⟨rfl, e124.trans e5⟩⟩⟩
      · show (decide ((2 : Nat) ≤ 1000000) && (dOk (.list ((rows.map (·.2)).map inD)) && (dOk (inD zs2) && true))) = true
        rw [dokL, dok_inD zl]
        rfl
      · have := dep_inD zs2
        show max (PyData.depth (.list ((rows.map (·.2)).map inD))) (max (PyData.depth (inD zs2)) 0) + 1 < 7
        omega
    rintro σ G13 ⟨rfl, e13⟩
    have r13 := r12.ex e13
    have hF13 := e13 _ _ hF1
    -- one more, and the first one away
    refine ⟨_, rfl, .inl ⟨rfl, _, SqL.of hF13⟩, F1, _, _, rfl, rfl, hF13, by rw [List.length_map]; exact sz_m (by omega), ?_⟩
    have frF1 : ∀ z o, nt (hid a b G11) z = some o → z ≠ F1 := fr2 rS0 F10
    have r14 := r13.mut (ys := (rw1.map fun r => V.ref r.1) ++ [V.str "late"]) hF13 frF1 F1a F1b
    have j14 : upd G13 F1 (.lst ((rw1.map fun r => V.ref r.1) ++ [V.str "late"])) F1 = some (.lst ((rw1.map fun r => V.ref r.1) ++ [V.str "late"])) := upd_same
    generalize upd G13 F1 (.lst ((rw1.map fun r => V.ref r.1) ++ [V.str "late"])) = G14 at r14 j14 ⊢
    refine ⟨fun σ G => σ = [some (.ref s0), some (.ref a), some (.int (0 + (i : Int))), some (.int kk), some (.ref l), some (.ref x), some (.ref Th), none, x8', none, x10', x11', some (.ref Fd), some (.ref F1), x14, x15, x16, x17] ∧ RS T a b G11 k9 G, ?_, ?_⟩
    · refine ⟨Nat.zero_le _, fun E1 hE1 => ?_⟩
      have y := Ex.new (o := .lst []) hE1
      have jE : upd G14 E1 (.lst []) E1 = some (.lst []) := upd_same
      have nE : F1 ≠ E1 := ne_of_none j14 hE1
      generalize upd G14 E1 (.lst []) = G15 at y jE ⊢
      refine ⟨_, rfl, F1, E1, _, [], 0, 1, rfl, rfl, rfl, rfl, y _ _ j14, jE, nE, by decide, by decide, ?_, ?_, rfl, ?_⟩
      · rw [List.length_append, List.length_singleton]
        omega
      · exact sz_le (by rw [List.length_append, List.length_map]; show _ + 1 + 0 ≤ _; omega)
      · exact (r14.ex y).mut (y _ _ j14) frF1 F1a F1b
    rintro σ G16 ⟨rfl, r16⟩
    -- told anew
    refine ⟨fun σ G => σ = [some (.ref s0), some (.ref a), some (.int (0 + (i : Int))), some (.int kk), some (.ref l), some (.ref x), some (.ref Th), none, x8', none, x10', x11', some (.ref Fd), some (.ref F1), x14, x15, x16, x17] ∧ RS T a b G11 k9 G, ?_, ?_⟩
    · refine ⟨_, rfl, x, kk, ts, rfl, Wat (up r16), by omega, htok, by omega, fun G' F2 rw2 ps' e' F20 hF2 LR' hr2 hl2 => ?_⟩
      have r' := r16.ex e'
      refine ⟨_, rfl, .ref F2, .ref Fd, rfl, smL r' (lsm hF2 (uq LR') fun r hr => (hr2 r hr).2.2), fun G5 e5 => ⟨_, rfl, iteF ⟨rfl, r'.ex e5⟩⟩⟩
    rintro σ G17 ⟨rfl, r17⟩
    -- and one more in each
    refine ⟨fun σ G => ∃ x14, σ = [some (.ref s0), some (.ref a), some (.int (0 + (i : Int))), some (.int kk), some (.ref l), some (.ref x), some (.ref Th), none, x8', none, x10', x11', some (.ref Fd), some (.ref F1), x14, x15, x16, x17] ∧ RS T a b G11 k9 G, ?_, ?_⟩
    · refine ⟨_, rfl, x, kk, ts, rfl, Wat (up r17), by omega, htok, by omega, fun G' F2 rw2 ps' e' F20 hF2 LR' hr2 hl2 => ?_⟩
      have r' := r17.ex e'
      have hz2 : ∀ r ∈ rw2, r.2.length ≤ 1000000 := fun r hr => ll r.2 (by rw [← uq LR']; exact List.mem_map.mpr ⟨r, hr, rfl⟩)
      refine ⟨F2, rfl, ⟨_, SqL.of hF2⟩, for_list (K := K) (a := F2) (xs := rw2.map fun r => V.ref r.1) (fun j σ G => ∃ x14, σ = [some (.ref s0), some (.ref a), some (.int (0 + (i : Int))), some (.int kk), some (.ref l), some (.ref x), some (.ref Th), none, x8', none, x10', x11', some (.ref Fd), some (.ref F1), x14, x15, x16, x17] ∧ RS T a b G11 k9 G ∧ G F2 = some (.lst (rw2.map fun r => V.ref r.1)) ∧ ∀ r ∈ rw2, ∃ ys : List V, G r.1 = some (.lst ys) ∧ ys.length ≤ 1000000 + j) ?_ (fun j σ G _ ⟨_, _, _, z, _⟩ => SqL.of z) ?_ ?_⟩
      · exact ⟨_, rfl, r', hF2, fun r hr => ⟨_, (hr2 r hr).2.2, by rw [List.length_map]; have := hz2 r hr; omega⟩⟩
      · rintro j v σ G hv ⟨x14', rfl, rG, hG2, hys⟩
        have jl := (List.getElem?_eq_some_iff.mp hv).1
        rw [List.length_map] at jl
        obtain ⟨r, hr, rfl⟩ : ∃ r ∈ rw2, v = V.ref r.1 := by
          rw [List.getElem?_map] at hv
          cases e : rw2[j]? with
          | none => rw [e] at hv; cases hv
          | some t => rw [e] at hv; exact ⟨t, mem_of_get e, (Option.some.inj hv).symm⟩
        obtain ⟨ys, h1, h2⟩ := hys r hr
        obtain ⟨h3, h4, h5⟩ := hr2 r hr
        refine ⟨_, rfl, .inl ⟨rfl, _, SqL.of h1⟩, r.1, ys, _, rfl, rfl, h1, by show ys.length < 16777216; omega, ?_⟩
        refine ⟨_, rfl, rG.mut h1 (fr2 r17 h3) (r17.s.nea h3) (r17.s.neb h3), by rw [upd_ne h4.symm]; exact hG2, fun q hq => ?_⟩
        by_cases e : q.1 = r.1
        · rw [e]
          exact ⟨_, upd_same, by rw [List.length_append]; show _ + 1 ≤ _; omega⟩
        · obtain ⟨ys', g1, g2⟩ := hys q hq
          exact ⟨ys', by rw [upd_ne e]; exact g1, by omega⟩
      · rintro σ G ⟨x14', rfl, rG, _⟩
        exact ⟨_, rfl, rG⟩
    rintro σ G18 ⟨x14', rfl, r18⟩
    refine ⟨fun σ G => σ = [some (.ref s0), some (.ref a), some (.int (0 + (i : Int))), some (.int kk), some (.ref l), some (.ref x), some (.ref Th), none, x8', none, x10', x11', some (.ref Fd), some (.ref F1), x14', x15, x16, x17] ∧ RS T a b G11 k9 G, ?_, ?_⟩
    · refine ⟨_, rfl, x, kk, ts, rfl, Wat (up r18), by omega, htok, by omega, fun G' F2 rw2 ps' e' F20 hF2 LR' hr2 hl2 => ?_⟩
      have r' := r18.ex e'
      refine ⟨_, rfl, .ref F2, .ref Fd, rfl, smL r' (lsm hF2 (uq LR') fun r hr => (hr2 r hr).2.2), fun G5 e5 => ⟨_, rfl, iteF ⟨rfl, r'.ex e5⟩⟩⟩
    rintro σ G19 ⟨rfl, r19'⟩
    have r19 := up r19'
    -- what is no place
    refine ⟨fun σ G => ∃ x15, σ = [some (.ref s0), some (.ref a), some (.int (0 + (i : Int))), some (.int kk), some (.ref l), some (.ref x), some (.ref Th), none, x8', none, x10', x11', some (.ref Fd), some (.ref F1), x14', x15, x16, x17] ∧ RS T a b H3 k9 G, ?_, ?_⟩
    · refine ⟨_, rfl, _, rfl, by show 1 ≤ sizeLine; decide, fun t5 ht5 => ⟨Nat.zero_le _, fun l5 hl5 => fun d5 hd5 => ⟨_, rfl, by show 10 ≤ sizeLine; decide, fun u5 hu5 => ?_⟩⟩⟩
      have y1 := Ex.new (o := .tup [V.int 0]) ht5
      have j1 : upd G19 t5 (.tup [V.int 0]) t5 = some (.tup [V.int 0]) := upd_same
      generalize upd G19 t5 (.tup [V.int 0]) = A1 at y1 j1 hl5 hd5 hu5 ⊢
      have y2 := Ex.new (o := .lst []) hl5
      have j2 : upd A1 l5 (.lst []) l5 = some (.lst []) := upd_same
      generalize upd A1 l5 (.lst []) = A2 at y2 j2 hd5 hu5 ⊢
      have y3 := Ex.new (o := .dK []) hd5
      have j3 : upd A2 d5 (.dK []) d5 = some (.dK []) := upd_same
      generalize upd A2 d5 (.dK []) = A3 at y3 j3 hu5 ⊢
      generalize hLs : ([V.non, V.int (-1), V.int kk, V.bl true, V.str "0", V.ref t5, V.ref l5, V.ref d5, V.ref fD, V.ref x] : List V) = Ls
      have y4 := Ex.new (o := .lst Ls) hu5
      have j4 : upd A3 u5 (.lst Ls) u5 = some (.lst Ls) := upd_same
      refine ⟨u5, rfl, ⟨_, SqL.of j4⟩, ?_⟩
      generalize upd A3 u5 (.lst Ls) = A4 at y4 j4 ⊢
      have r5' := r19.ex (y1.trans (y2.trans (y3.trans y4)))
      have put : ∀ {p : Addr} {o : HO}, G19 p = none → A4 p = some o → (∀ ps, o ≠ .tbl ps) → nt (hid a b A4) p = some o := fun h0 h nn => nt_of (by rw [hid_ne (r19.s.nea h0) (r19.s.neb h0)]; exact h) nn
      have bu5 := put (fresh_back (y1.trans (y2.trans y3)) hu5) j4 fun ps z => nomatch z
      have odd5 : ∀ o ∈ Ls, OddP K C kk (nt (hid a b A4)) o := fun o ho => by
        rw [← hLs] at ho
        simp only [List.mem_cons, List.not_mem_nil, or_false] at ho
        rcases ho with rfl | rfl | rfl | rfl | rfl | rfl | rfl | rfl | rfl | rfl
        · exact oddp_dp (d := .none) .non rfl rfl (by decide)
        · exact oddp_int (.inl (by decide))
        · exact oddp_int (.inr (Int.le_refl _))
        · exact oddp_dp (d := .bool true) (.bl true) rfl rfl (by decide)
        · exact oddp_dp (d := .str _) (.str _) rfl (by decide +kernel) (by show 0 < 6; decide)
        · exact oddp_dp (d := .tuple [.int 0]) (.tup (SqT.of (put ht5 ((y2.trans (y3.trans y4)) _ _ j1) fun ps z => nomatch z)) (.cons (.int 0) .nil)) rfl rfl (by decide)
        · exact oddp_dp (d := .list []) (.lst (SqL.of (put (fresh_back y1 hl5) ((y3.trans y4) _ _ j2) fun ps z => nomatch z)) .nil) rfl rfl (by decide)
        · exact oddp_dict (put (fresh_back (y1.trans y2) hd5) (y4 _ _ j3) fun ps z => nomatch z)
        · exact oddp_fn vD
        · exact oddp_web IC hCi hCb (bW.ex r5'.e)
      refine for_list (K := K) (a := u5) (xs := Ls) (fun j σ G => ∃ x15, σ = [some (.ref s0), some (.ref a), some (.int (0 + (i : Int))), some (.int kk), some (.ref l), some (.ref x), some (.ref Th), none, x8', none, x10', x11', some (.ref Fd), some (.ref F1), x14', x15, x16, x17] ∧ RS T a b H3 k9 G ∧ NXs a b A4 G) ⟨_, rfl, r5', Ex.refl _⟩ (fun j σ G _ ⟨_, _, _, e⟩ => SqL.of (hid_ex _ _ (nt_le _ _ (e _ _ bu5)))) ?_ ?_
      · rintro j o σ G ho ⟨x15', rfl, rG, nG⟩
        obtain ⟨ob, oS⟩ := odd5 o (mem_of_get ho)
        refine ⟨rG.t, fun A6 eN t6 => ?_⟩
        have r6 := rG.N eN t6
        have n6 : NXs a b A4 A6 := Ex.trans nG (nxs_N eN)
        have emb : Ex (nt (hid a b A4)) A6 := Ex.trans n6 (nt_le.trans hid_ex)
        refine ⟨_, rfl, _, rfl, x, kk, ts, o, rfl, Wat r6, by omega, htok, by omega, ob.ex emb, fun A8 dd e8 h0 h1 => .inr ⟨rfl, dd, o, rfl, h1, fun p8 hp8 => ?_⟩⟩
        have v2 := Ex.new (o := .tup [V.str "place", o]) hp8
        have i2 : upd A8 p8 (.tup [V.str "place", o]) p8 = some (.tup [V.str "place", o]) := upd_same
        generalize upd A8 p8 (.tup [V.str "place", o]) = A9 at v2 i2 ⊢
        refine ⟨_, rfl, by show 2 ≤ sizeLine; decide, fun p10 hp10 => ?_⟩
        have v3 := Ex.new (o := .tup [V.str "place", o]) hp10
        have i3 : upd A9 p10 (.tup [V.str "place", o]) p10 = some (.tup [V.str "place", o]) := upd_same
        generalize upd A9 p10 (.tup [V.str "place", o]) = A10 at v3 i3 ⊢
        have sS : Sm K C (WbR K C) A10 6 (.str "place") (.str "place") := .inl ⟨rfl, by decide +kernel⟩
        refine ⟨.ref p8, .ref p10, rfl, .inr (.inr (.inl ⟨p8, p10, _, _, rfl, rfl, SqT.of (v3 _ _ i2), SqT.of i3, .cons sS (.cons (oS _ (emb.trans (e8.trans (v2.trans v3)))) .nil), by show 2 ≤ 1000000; decide⟩)), fun A11 e11 => ⟨_, rfl, iteF ?_⟩⟩
        have e := e8.trans (v2.trans (v3.trans e11))
        exact ⟨_, rfl, r6.ex e, Ex.trans n6 (nt_mono (hid_mono e))⟩
      · rintro σ G ⟨x15', rfl, rG, _⟩
        exact ⟨_, rfl, rG⟩
    rintro σ G20 ⟨x15', rfl, r20⟩
    -- two lists that are none
    refine ⟨fun σ G => ∃ Hd Od, σ = [some (.ref s0), some (.ref a), some (.int (0 + (i : Int))), some (.int kk), some (.ref l), some (.ref x), some (.ref Th), none, x8', none, x10', x11', some (.ref Fd), some (.ref F1), x14', x15', some (.ref Hd), some (.ref Od)] ∧ RS T a b H3 k9 G ∧ nt (hid a b G) Hd = some (.lst [V.non]) ∧ nt (hid a b G) Od = some (.lst [V.int 0]) ∧ Od ≠ Hd ∧ Fz a b H3 Hd ∧ Fz a b H3 Od, ?_, ?_⟩
    · refine ⟨by show 1 ≤ sizeLine; decide, fun Hd hHd => ⟨by show 1 ≤ sizeLine; decide, fun Od hOd => ⟨by show 2 ≤ sizeLine; decide, fun T0 hT0 => ⟨T0, _, rfl, SqT.of upd_same, rfl, _, _, rfl, _, _, rfl, rfl, ?_⟩⟩⟩⟩
      have y1 := Ex.new (o := .lst [V.non]) hHd
      have j1 : upd G20 Hd (.lst [V.non]) Hd = some (.lst [V.non]) := upd_same
      generalize upd G20 Hd (.lst [V.non]) = A1 at y1 j1 hOd hT0 ⊢
      have y2 := Ex.new (o := .lst [V.int 0]) hOd
      have j2 : upd A1 Od (.lst [V.int 0]) Od = some (.lst [V.int 0]) := upd_same
      generalize upd A1 Od (.lst [V.int 0]) = A2 at y2 j2 hT0 ⊢
      have y3 := Ex.new (o := .tup [V.ref Hd, V.ref Od]) hT0
      have Od0 := fresh_back y1 hOd
      have y123 := y1.trans (y2.trans y3)
      have Ha := r20.s.nea hHd
      have Hb := r20.s.neb hHd
      have Oa := r20.s.nea Od0
      have Ob := r20.s.neb Od0
      refine ⟨Hd, Od, rfl, r20.ex y123, nt_of (by rw [hid_ne Ha Hb]; exact (y2.trans y3) _ _ j1) (fun ps z => nomatch z), nt_of (by rw [hid_ne Oa Ob]; exact y3 _ _ j2) (fun ps z => nomatch z), (ne_of_none j1 hOd).symm, ⟨fr r20 hHd, Ha, Hb⟩, fr r20 Od0, Oa, Ob⟩
    rintro σ G21 ⟨Hd, Od, rfl, r21, bHd, bOd, neHO, fHd, fOd⟩
    have gH := hid_ex _ _ (nt_le _ _ bHd)
    have gO := hid_ex _ _ (nt_le _ _ bOd)
    have rT : RS T a b G21 k9 G21 := ⟨Ex.refl _, r21.s, r21.t⟩
    have up2 : ∀ {k : Nat} {G : Hp}, RS T a b G21 k G → RS T a b H3 k G := fun r => ⟨Ex.trans r21.e r.e, r.s, r.t⟩
    have thN : ∀ {G : Hp}, G Hd = some (.lst [V.non]) → ThV K G kk ts (.ref Hd) none := fun h => .inr ⟨.list [.none], .lst (SqL.of h) (.cons .non .nil), rfl, by decide, rfl⟩
    -- what is told of the first one
    refine ⟨fun σ G => ∃ Fl p8 p9, σ = [some (.ref s0), some (.ref a), some (.int (0 + (i : Int))), some (.int kk), some (.ref l), some (.ref x), some (.ref Th), none, x8', none, x10', x11', some (.ref Fd), some (.ref Fl), x14', x15', some (.ref Hd), some (.ref Od)] ∧ RS T a b G21 k9 G ∧ nt (hid a b G) Fl = some (.lst [V.ref p8, V.ref p9]) ∧ nt (hid a b G) p8 = some (.tup [V.str "walk", V.ref Hd]) ∧ Fz a b G21 Fl, ?_, ?_⟩
    · refine ⟨r21.t, fun A6 eN t6 => ?_⟩
      have r6 := rT.N eN t6
      refine ⟨_, rfl, _, rfl, x, kk, ts, .ref Hd, rfl, Wat (up2 r6), tnd, by omega, thN (r6.at _ _ bHd), fun A8 dd e8 h0 h1 => .inl ⟨rfl, dd, .ref Hd, rfl, h1, fun p8 hp8 => ?_⟩⟩
      have r8 := r6.ex e8
      have p8a := r8.s.nea hp8
      have p8b := r8.s.neb hp8
      have v2 := Ex.new (o := .tup [V.str "walk", V.ref Hd]) hp8
      have i2 : upd A8 p8 (.tup [V.str "walk", V.ref Hd]) p8 = some (.tup [V.str "walk", V.ref Hd]) := upd_same
      generalize upd A8 p8 (.tup [V.str "walk", V.ref Hd]) = A9 at v2 i2 ⊢
      refine ⟨by show 2 ≤ sizeLine; decide, fun p9 hp9 => ⟨by show 2 ≤ sizeLine; decide, fun Fl hFl => ?_⟩⟩
      have v3 := Ex.new (o := .tup [V.str "place", V.non]) hp9
      generalize upd A9 p9 (.tup [V.str "place", V.non]) = A10 at v3 hFl ⊢
      have v4 := Ex.new (o := .lst [V.ref p8, V.ref p9]) hFl
      have r10' := (r8.ex v2).ex v3
      have Fla := r10'.s.nea hFl
      have Flb := r10'.s.neb hFl
      refine ⟨Fl, p8, p9, rfl, r10'.ex v4, nt_of (by rw [hid_ne Fla Flb]; exact upd_same) (fun ps z => nomatch z), nt_of (by rw [hid_ne p8a p8b]; exact (v3.trans v4) _ _ i2) (fun ps z => nomatch z), fun z o hz e => ?_, Fla, Flb⟩
      have := r10'.at _ _ hz
      rw [e, hFl] at this
      cases this
    rintro σ G22 ⟨Fl, p8, p9, rfl, r22, bFl, bp8, fFl⟩
    -- and of the other
    refine ⟨fun σ G => ∃ p10, σ = [some (.ref s0), some (.ref a), some (.int (0 + (i : Int))), some (.int kk), some (.ref l), some (.ref x), some (.ref Th), none, x8', none, x10', x11', some (.ref Fd), some (.ref Fl), x14', x15', some (.ref Hd), some (.ref Od)] ∧ RS T a b G21 k9 G ∧ nt (hid a b G) Fl = some (.lst [V.ref p8, V.ref p10]) ∧ nt (hid a b G) p8 = some (.tup [V.str "walk", V.ref Hd]) ∧ nt (hid a b G) p10 = some (.tup [V.str "place", V.ref Od]), ?_, ?_⟩
    · refine ⟨r22.t, fun A6 eN t6 => ?_⟩
      have r6 := r22.N eN t6
      have nx6 : NXs a b G22 A6 := nxs_N eN
      refine ⟨_, rfl, _, rfl, x, kk, ts, .ref Od, rfl, Wat (up2 r6), by omega, htok, by omega, .inl (ni_dp (d := .list [.int 0]) (.lst (SqL.of (r6.at _ _ bOd)) (.cons (.int 0) .nil)) rfl), fun A8 dd e8 h0 h1 => .inr ⟨rfl, dd, .ref Od, rfl, h1, fun p10 hp10 => ?_⟩⟩
      have r8 := r6.ex e8
      have p10a := r8.s.nea hp10
      have p10b := r8.s.neb hp10
      have v2 := Ex.new (o := .tup [V.str "place", V.ref Od]) hp10
      have i2 : upd A8 p10 (.tup [V.str "place", V.ref Od]) p10 = some (.tup [V.str "place", V.ref Od]) := upd_same
      have j8 : Ex (nt (hid a b G22)) (nt (hid a b (upd A8 p10 (.tup [V.str "place", V.ref Od])))) := Ex.trans nx6 (nt_mono (hid_mono (e8.trans v2)))
      generalize upd A8 p10 (.tup [V.str "place", V.ref Od]) = A9 at v2 i2 j8 ⊢
      have bFl9 := j8 _ _ bFl
      have bp89 := j8 _ _ bp8
      have gFl := hid_ex _ _ (nt_le _ _ bFl9)
      have gp8 := hid_ex _ _ (nt_le _ _ bp89)
      have p8F : p8 ≠ Fl := fun z => by rw [z, gFl] at gp8; cases gp8
      have p10F : p10 ≠ Fl := fun z => by rw [z, gFl] at i2; cases i2
      have r9' := r8.ex v2
      obtain ⟨q1, q2⟩ := nt_some bp89
      refine ⟨_, rfl, Fl, _, _, 1, rfl, rfl, gFl, rfl, p10, rfl, r9'.mut gFl fFl.1 fFl.2.1 fFl.2.2, nt_of (by rw [hid_ne fFl.2.1 fFl.2.2]; exact upd_same) (fun ps z => nomatch z), nt_of (by rw [hid_upd fFl.2.1 fFl.2.2, upd_ne p8F]; exact q1) q2, nt_of (by rw [hid_ne p10a p10b, upd_ne p10F]; exact i2) fun ps z => nomatch z⟩
    rintro σ G23 ⟨p10, rfl, r23, bFl, bp8, bp10⟩
    have gH3 := r23.at _ _ bHd
    have gO3 := r23.at _ _ bOd
    have gF3 := hid_ex _ _ (nt_le _ _ bFl)
    have g83 := hid_ex _ _ (nt_le _ _ bp8)
    have g103 := hid_ex _ _ (nt_le _ _ bp10)
    have r23' := up2 r23
    have FlH : Fl ≠ Hd := fun z => by rw [z, gH3] at gF3; cases gF3
    have FlO : Fl ≠ Od := fun z => by rw [z, gO3] at gF3; cases gF3
    have p8H : p8 ≠ Hd := fun z => by rw [z, gH3] at g83; cases g83
    have p8O : p8 ≠ Od := fun z => by rw [z, gO3] at g83; cases g83
    have p10H : p10 ≠ Hd := fun z => by rw [z, gH3] at g103; cases g103
    have p10O : p10 ≠ Od := fun z => by rw [z, gO3] at g103; cases g103
    -- more in both
    refine ⟨_, rfl, .inl ⟨rfl, _, SqL.of gH3⟩, Hd, _, _, rfl, rfl, gH3, by show 1 < sizeLine; decide, ?_⟩
    have r24 := r23'.mut (ys := [V.non] ++ [V.str "late"]) gH3 fHd.1 fHd.2.1 fHd.2.2
    have gO4 : upd G23 Hd (.lst ([V.non] ++ [V.str "late"])) Od = some (.lst [V.int 0]) := by rw [upd_ne neHO]; exact gO3
    have gF4 : upd G23 Hd (.lst ([V.non] ++ [V.str "late"])) Fl = some (.lst [V.ref p8, V.ref p10]) := by rw [upd_ne FlH]; exact gF3
    have g84 : upd G23 Hd (.lst ([V.non] ++ [V.str "late"])) p8 = some (.tup [V.str "walk", V.ref Hd]) := by rw [upd_ne p8H]; exact g83
    have g104 : upd G23 Hd (.lst ([V.non] ++ [V.str "late"])) p10 = some (.tup [V.str "place", V.ref Od]) := by rw [upd_ne p10H]; exact g103
    have gH4 : upd G23 Hd (.lst ([V.non] ++ [V.str "late"])) Hd = some (.lst ([V.non] ++ [V.str "late"])) := upd_same
    generalize upd G23 Hd (.lst ([V.non] ++ [V.str "late"])) = G24 at r24 gO4 gF4 g84 g104 gH4 ⊢
    refine ⟨_, rfl, .inl ⟨rfl, _, SqL.of gO4⟩, Od, _, _, rfl, rfl, gO4, by show 1 < sizeLine; decide, ?_⟩
    have r25 := r24.mut (ys := [V.int 0] ++ [V.str "late"]) gO4 fOd.1 fOd.2.1 fOd.2.2
    have gF5 : upd G24 Od (.lst ([V.int 0] ++ [V.str "late"])) Fl = some (.lst [V.ref p8, V.ref p10]) := by rw [upd_ne FlO]; exact gF4
    have g85 : upd G24 Od (.lst ([V.int 0] ++ [V.str "late"])) p8 = some (.tup [V.str "walk", V.ref Hd]) := by rw [upd_ne p8O]; exact g84
    have g105 : upd G24 Od (.lst ([V.int 0] ++ [V.str "late"])) p10 = some (.tup [V.str "place", V.ref Od]) := by rw [upd_ne p10O]; exact g104
    have gH5 : upd G24 Od (.lst ([V.int 0] ++ [V.str "late"])) Hd = some (.lst ([V.non] ++ [V.str "late"])) := by rw [upd_ne neHO.symm]; exact gH4
    have gO5 : upd G24 Od (.lst ([V.int 0] ++ [V.str "late"])) Od = some (.lst ([V.int 0] ++ [V.str "late"])) := upd_same
    generalize upd G24 Od (.lst ([V.int 0] ++ [V.str "late"])) = G25 at r25 gF5 g85 g105 gH5 gO5 ⊢
    -- the two are told
    refine ⟨_, rfl, by show 2 ≤ sizeLine; decide, fun q1 hq1 => ⟨by show 2 ≤ sizeLine; decide, fun q2 hq2 => ⟨by show 2 ≤ sizeLine; decide, fun q3 hq3 => ⟨by show 2 ≤ sizeLine; decide, fun q4 hq4 => ⟨by show 2 ≤ sizeLine; decide, fun q5 hq5 => ?_⟩⟩⟩⟩⟩
    have y1 := Ex.new (o := .lst [V.non, V.str "late"]) hq1
    have j1 : upd G25 q1 (.lst [V.non, V.str "late"]) q1 = some (.lst [V.non, V.str "late"]) := upd_same
    generalize upd G25 q1 (.lst [V.non, V.str "late"]) = B1 at y1 j1 hq2 hq3 hq4 hq5 ⊢
    have y2 := Ex.new (o := .tup [V.str "walk", V.ref q1]) hq2
    have j2 : upd B1 q2 (.tup [V.str "walk", V.ref q1]) q2 = some (.tup [V.str "walk", V.ref q1]) := upd_same
    generalize upd B1 q2 (.tup [V.str "walk", V.ref q1]) = B2 at y2 j2 hq3 hq4 hq5 ⊢
    have y3 := Ex.new (o := .lst [V.int 0, V.str "late"]) hq3
    have j3 : upd B2 q3 (.lst [V.int 0, V.str "late"]) q3 = some (.lst [V.int 0, V.str "late"]) := upd_same
    generalize upd B2 q3 (.lst [V.int 0, V.str "late"]) = B3 at y3 j3 hq4 hq5 ⊢
    have y4 := Ex.new (o := .tup [V.str "place", V.ref q3]) hq4
    have j4 : upd B3 q4 (.tup [V.str "place", V.ref q3]) q4 = some (.tup [V.str "place", V.ref q3]) := upd_same
    generalize upd B3 q4 (.tup [V.str "place", V.ref q3]) = B4 at y4 j4 hq5 ⊢
    have y5 := Ex.new (o := .lst [V.ref q2, V.ref q4]) hq5
    have j5 : upd B4 q5 (.lst [V.ref q2, V.ref q4]) q5 = some (.lst [V.ref q2, V.ref q4]) := upd_same
    generalize upd B4 q5 (.lst [V.ref q2, V.ref q4]) = B5 at y5 j5 ⊢
    have z45 := y4.trans y5
    have z35 := y3.trans z45
    have z25 := y2.trans z35
    have z15 := y1.trans z25
    refine ⟨.ref Fl, .ref q5, rfl, sm_two (.list [.tuple [.str "walk", .list [.none, .str "late"]], .tuple [.str "place", .list [.int 0, .str "late"]]]) _ _ 7
      (.lst (SqL.of (z15 _ _ gF5)) (.cons (.tup (SqT.of (z15 _ _ g85)) (.cons (.str _) (.cons (.lst (SqL.of (z15 _ _ gH5)) (.cons .non (.cons (.str _) .nil))) .nil))) (.cons (.tup (SqT.of (z15 _ _ g105)) (.cons (.str _) (.cons (.lst (SqL.of (z15 _ _ gO5)) (.cons (.int _) (.cons (.str _) .nil))) .nil))) .nil)))
      (.lst (SqL.of j5) (.cons (.tup (SqT.of (z35 _ _ j2)) (.cons (.str _) (.cons (.lst (SqL.of (z25 _ _ j1)) (.cons .non (.cons (.str _) .nil))) .nil))) (.cons (.tup (SqT.of (y5 _ _ j4)) (.cons (.str _) (.cons (.lst (SqL.of (z45 _ _ j3)) (.cons (.int _) (.cons (.str _) .nil))) .nil))) .nil))) (by decide +kernel) (by decide +kernel), fun B6 e6 => ⟨_, rfl, iteF ?_⟩⟩
    have r26 := r25.ex (z15.trans e6)
    exact ⟨_, _, _, _, _, _, _, _, _, _, _, _, _, _, rfl, k9, by omega, r26.s, r26.t⟩
end
end AA

set_option Elab.async false
set_option linter.all false
set_option maxRecDepth 100000
set_option maxHeartbeats 4000000
/-! All that stands behind the top. -/
namespace AA
open PySem PySem.Spec PyProof.Rows L2 Evl
/-- a def of the module as it stands behind the top -/
structure GFn (K : PySem.W.Frag) (x : Str) (st : Stmt) (f : Addr) (fd : FuncData) : Prop where
  a : PySem.W.nsIn K mainGlobals x = some (some (.ref f))
  F : L2.Fun K x x st f fd
theorem gfn {K : PySem.W.Frag} {x : Str} {st : Stmt} {f : Addr} {oc : Value} {od an : Option Addr} {osl : Array (Option Value)} {kV doc pm cdv ct : Value} (a : PySem.W.nsIn K mainGlobals x = some (some (.ref f)))
    (l : K.lookup f = some ⟨oc, od, .func (PySem.W.fnOf x x (defArgs st) (defBody st) (defScope st) .none kV doc pm an cdv ct), osl⟩) (c : PySem.W.codeIn K cdv x = true) (k : PySem.W.keepIn K (.ref f) = true) : ∃ f fd, GFn K x st f fd := ⟨_, _, a, fun_mk (st := st) l c k⟩
theorem gfnc {K : PySem.W.Frag} {x : Str} {st : Stmt} {f : Addr} {od an : Option Addr} {osl : Array (Option Value)} {kV doc pm cdv ct : Value} (a : PySem.W.nsIn K mainGlobals x = some (some (.ref f)))
    (l : K.lookup f = some ⟨.type "function", od, .func (PySem.W.fnOf x x (defArgs st) (defBody st) (defScope st) .none kV doc pm an cdv ct), osl⟩) (c : PySem.W.codeIn K cdv x = true) (k : PySem.W.keepIn K (.ref f) = true) : ∃ f fd, GFn K x st f fd ∧ FnV K f := ⟨_, _, ⟨a, fun_mk (st := st) l c k⟩, _, _, _, l⟩
structure MFn (K : PySem.W.Frag) (C : Addr) (x q : Str) (st : Stmt) (f : Addr) (fd : FuncData) : Prop where
  a : PySem.W.findIn K (.ref C) x = some (some (.ref f))
  i : PySem.W.isFn K (.ref f) = true
  F : L2.Fun K x q st f fd
theorem mfn {K : PySem.W.Frag} {C : Addr} {x q : Str} {st : Stmt} {f : Addr} {oc : Value} {od an : Option Addr} {osl : Array (Option Value)} {kV doc pm cdv ct : Value} (a : PySem.W.findIn K (.ref C) x = some (some (.ref f))) (i : PySem.W.isFn K (.ref f) = true)
    (l : K.lookup f = some ⟨oc, od, .func (PySem.W.fnOf x q (defArgs st) (defBody st) (defScope st) .none kV doc pm an cdv ct), osl⟩) (c : PySem.W.codeIn K cdv q = true) (k : PySem.W.keepIn K (.ref f) = true) : ∃ f fd, MFn K C x q st f fd := ⟨_, _, a, i, fun_mk (st := st) l c k⟩
structure BnK (K : PySem.W.Frag) : Prop where
  abs : PySem.W.nsIn K mainGlobals "abs" = some none
  int : PySem.W.nsIn K mainGlobals "int" = some none
  len : PySem.W.nsIn K mainGlobals "len" = some none
  list : PySem.W.nsIn K mainGlobals "list" = some none
  tuple : PySem.W.nsIn K mainGlobals "tuple" = some none
  dict : PySem.W.nsIn K mainGlobals "dict" = some none
  bool : PySem.W.nsIn K mainGlobals "bool" = some none
  range : PySem.W.nsIn K mainGlobals "range" = some none
  enumerate : PySem.W.nsIn K mainGlobals "enumerate" = some none
  isinstance : PySem.W.nsIn K mainGlobals "isinstance" = some none
  all : PySem.W.nsIn K mainGlobals "all" = some none
  zip : PySem.W.nsIn K mainGlobals "zip" = some none
  sorted : PySem.W.nsIn K mainGlobals "sorted" = some none
  max : PySem.W.nsIn K mainGlobals "max" = some none
  sum : PySem.W.nsIn K mainGlobals "sum" = some none
  repr : PySem.W.nsIn K mainGlobals "repr" = some none
  min : PySem.W.nsIn K mainGlobals "min" = some none
  st : PySem.W.nsIn K mainGlobals "set" = some none
  any : PySem.W.nsIn K mainGlobals "any" = some none
  str : PySem.W.nsIn K mainGlobals "str" = some none
  rev : PySem.W.nsIn K mainGlobals "reversed" = some none
/-- what stands of a class of the program -/
structure ClsK (K : PySem.W.Frag) (C : Addr) (nm : Str) : Prop where
  aC : PySem.W.nsIn K mainGlobals nm = some (some (.ref C))
  pg : PySem.W.plainGet K C Str.empty = true
  hd : PySem.W.hasDictIn K C = true
  po : PySem.W.plainOver K C = true
  sa : PySem.W.findIn K (.ref C) "__setattr__" = some (some (.builtin "object.__setattr__"))
  mkc : PySem.W.makesIn K C = true
  kc : PySem.W.keepIn K (.ref C) = true
  ha : PySem.W.findIn K (.ref C) "__class__" = some (some (.builtin "object.__class__"))
  hn : PySem.W.specialIn K (.builtin "object.__class__") "__get__" = some (some (.builtin "getset_descriptor.__get__"))
  ht : PySem.W.takesIn K (.builtin "object.__class__") = some true
  hm : PySem.W.mroIn K C (.type "object") = some true
  n1 : PySem.W.kitAny K (.ref C) [.type "list", .type "tuple"] = some false
  n2 : PySem.W.kitOne K (.ref C) (.type "dict") = some false
  n3 : PySem.W.kitOne K (.ref C) (.type "bool") = some false
  n4 : PySem.W.kitAny K (.ref C) [.type "list", .type "tuple", .type "dict"] = some false
  cc : PySem.W.kitOne K (.ref C) (.ref C) = some true
  ne : PySem.W.findIn K (.ref C) "__ne__" = some (some (.builtin "object.__ne__"))
  ni : PySem.W.kitOne K (.ref C) (.type "int") = some false
structure WebN (K : PySem.W.Frag) (C : Addr) : Prop where
  nP : PySem.W.findIn K (.ref C) "_places" = some none
  nS : PySem.W.findIn K (.ref C) "_steps" = some none
  nK : PySem.W.findIn K (.ref C) "known" = some none
structure BadK (K : PySem.W.Frag) (x m : Str) (CB fI : Addr) : Prop where
  gC : PySem.W.nsIn K mainGlobals x = some (some (.ref CB))
  ox : OexC K CB
  xf : XfC K CB
  no : PySem.W.findIn K (.ref CB) m = some none
  tC : PySem.W.typeIn K (.ref fI) = some (.type "function")
/-- a def that makes lambdas -/
structure LFn (K : PySem.W.Frag) (x : Str) (st : Stmt) (f : Addr) (fd : FuncData) (c PT : Addr) : Prop where
  a : PySem.W.nsIn K mainGlobals x = some (some (.ref f))
  L : FunC K x st f fd c
  F : L2.Fun K x x st f fd
  hd : PySem.W.codeHdIn K c PT = true
theorem lfn {K : PySem.W.Frag} {x : Str} {st : Stmt} {f c PT : Addr} {oc : Value} {od an : Option Addr} {osl : Array (Option Value)} {kV doc pm ct : Value} (a : PySem.W.nsIn K mainGlobals x = some (some (.ref f)))
    (l : K.lookup f = some ⟨oc, od, .func (PySem.W.fnOf x x (defArgs st) (defBody st) (defScope st) .none kV doc pm an (.ref c) ct), osl⟩) (hc : PySem.W.codeIn K (.ref c) x = true) (k : PySem.W.keepIn K (.ref f) = true) (hd : PySem.W.codeHdIn K c PT = true) :
    ∃ f fd c, LFn K x st f fd c PT := ⟨_, _, _, a, ⟨⟨_, _, _, _, _, _, _, _, rfl, l, hc⟩, k⟩, fun_mk (st := st) l hc k, hd⟩
theorem eq_web {P : Program} {w : World} {K : PySem.W.Frag} {mg : Str → Option Value} {base : Heap} {f C : Addr} {fd : FuncData} (GE : FnOk P w K mg base CX0 1 f fd ["self", "other"] (spEqV K C)) : FnOk P w K mg base CX0 2 f fd ["self", "other"] (spEq (WbR K C)) :=
  fn_imp (GE.mono (by decide)) fun vs H Q E h => by
    obtain ⟨a, b, rfl, ⟨rfl, n, ss, hp⟩, k⟩ := h
    refine ⟨a, .ref a, n, ss, rfl, hp, .inr ⟨a, n, ss, rfl, hp, fun H' e => ?_⟩⟩
    rw [decide_eq_true (rfl : n = n), decide_eq_true (rfl : ss = ss)]
    exact k H' e
theorem all_mk {l : PySem.W.OpenLaw} {w : World} {K : PySem.W.Frag} {h : Heap} {mg : Str → Option Value} {fa C CP CS CD CY P1 P2 : Addr} (X : K.In h) (G : h.Ns mainGlobals mg) (hfa : mg "law" = some (.ref fa)) (t1 : h.get? P1 = some { cls := .none, data := .fields #[] }) (t2 : h.get? P2 = some { cls := .none, data := .fields #[] }) (n1 : K.lookup P1 = none) (n2 : K.lookup P2 = none) (n12 : P1 ≠ P2)
    (bk : BnK K) (cw : ClsK K C "Web") (wn : WebN K C) (ex : ExmK K CD CY)
    (hsIsInteger : ∃ f fd, GFn K "is_integer" sIsInteger f fd)
    (hsIsList : ∃ f fd, GFn K "is_list" sIsList f fd)
    (hsCheckPlace : ∃ f fd, GFn K "check_place" sCheckPlace f fd)
    (hsSpread : ∃ f fd, GFn K "spread" sSpread f fd)
    (hsComeTo : ∃ f fd, GFn K "come_to" sComeTo f fd)
    (hsLeftLast : ∃ f fd, GFn K "left_last" sLeftLast f fd)
    (hsTogether : ∃ f fd, GFn K "together_of" sTogether f fd)
    (hsComeBack : ∃ f fd, GFn K "come_back" sComeBack f fd)
    (hsLotsOf : ∃ f fd, GFn K "lots_of" sLotsOf f fd)
    (hsRowAlong : ∃ f fd, GFn K "row_along" sRowAlong f fd)
    (hsReadStep : ∃ f fd, GFn K "read_step" sReadStep f fd)
    (hsReadSteps : ∃ f fd, GFn K "read_steps" sReadSteps f fd)
    (hsReadWalk : ∃ f fd, GFn K "read_walk" sReadWalk f fd)
    (hsCheckedWalk : ∃ f fd, GFn K "checked_walk" sCheckedWalk f fd)
    (hsIsWalk : ∃ f fd, GFn K "is_walk" sIsWalk f fd)
    (hsIsRing : ∃ f fd, GFn K "is_ring" sIsRing f fd)
    (hsSumOf : ∃ f fd, GFn K "sum_of" sSumOf f fd)
    (hsReached : ∃ f fd, GFn K "reached" sReached f fd)
    (hsLots : ∃ f fd, GFn K "lots" sLots f fd)
    (hsStream : ∃ f fd, GFn K "_law_stream" sStream f fd)
    (hsDraw : ∃ f fd, GFn K "_law_draw" sDraw f fd ∧ FnV K f)
    (hsPick : ∃ f fd, GFn K "_law_pick" sPick f fd)
    (hsMixed : ∃ f fd, GFn K "_law_mixed" sMixed f fd)
    (hsSame : ∃ f fd, GFn K "_law_same" sSame f fd)
    (hsLoose : ∃ f fd, GFn K "_law_loose" sLoose f fd)
    (hsAmounts : ∃ f fd, GFn K "_law_amounts" sAmounts f fd)
    (hsStep : ∃ f fd, GFn K "_law_step" sStep f fd)
    (hsWeb : ∃ f fd, GFn K "_law_web" sWeb f fd)
    (hsLReached : ∃ f fd, GFn K "_law_reached" sLReached f fd)
    (hsLRings : ∃ f fd, GFn K "_law_rings" sLRings f fd)
    (hsLSum : ∃ f fd, GFn K "_law_sum" sLSum f fd)
    (hsTried : ∃ f fd, GFn K "_law_tried" sTried f fd)
    (hsIsWhole : ∃ f fd, GFn K "_law_is_whole" sIsWhole f fd)
    (hsStepOf : ∃ f fd, GFn K "_law_step_of" sStepOf f fd)
    (hsWalkOf : ∃ f fd, GFn K "_law_walk_of" sWalkOf f fd)
    (hsLIsRing : ∃ f fd, GFn K "_law_is_ring" sLIsRing f fd)
    (hsDrawnWalk : ∃ f fd, GFn K "_law_drawn_walk" sDrawnWalk f fd)
    (hsBent : ∃ f fd, GFn K "_law_bent" sBent f fd)
    (hsLLots : ∃ f fd, GFn K "_law_lots" sLLots f fd)
    (hTR : ∃ f fd c, LFn K "_law_thing_right" sThingRight f fd c P1)
    (hLW : ∃ f fd c, LFn K "law" sLaw f fd c P2)
    (h_wi : ∃ f fd, MFn K C "__init__" "Web.__init__" sWebInit f fd)
    (h_wp : ∃ f fd, MFn K C "places" "Web.places" sWebPlaces f fd)
    (h_ws : ∃ f fd, MFn K C "steps" "Web.steps" sWebSteps f fd)
    (h_we : ∃ f fd, MFn K C "__eq__" "Web.__eq__" sWebEq f fd)
    (h_bp : ∃ f fd, MFn K CP "__init__" "BadPlaces.__init__" sBadPlInit f fd ∧ BadK K "BadPlaces" "places" CP f)
    (h_bs : ∃ f fd, MFn K CS "__init__" "BadSteps.__init__" sBadStInit f fd ∧ BadK K "BadSteps" "index" CS f)
    (h_bw : ∃ f fd, MFn K CD "__init__" "BadWalk.__init__" sBadWkInit f fd ∧ BadK K "BadWalk" "walk" CD f)
    (h_bc : ∃ f fd, MFn K CY "__init__" "BadPlace.__init__" sBadPcInit f fd ∧ BadK K "BadPlace" "place" CY f)
    : LamX.LawAtS l w K C8.CX0 12 63 "_law_script" mg fa h := by
  obtain ⟨f_sIsInteger, d_sIsInteger, g_sIsInteger⟩ := hsIsInteger
  have m_sIsInteger := PySem.W.mg_of X G g_sIsInteger.a
  have b_sIsInteger : Binds K d_sIsInteger ["thing"] [] := g_sIsInteger.F.binds fun _ _ _ _ _ _ us hl => match us, hl with | [_], _ => rfl
  obtain ⟨f_sIsList, d_sIsList, g_sIsList⟩ := hsIsList
  have m_sIsList := PySem.W.mg_of X G g_sIsList.a
  have b_sIsList : Binds K d_sIsList ["thing"] [] := g_sIsList.F.binds fun _ _ _ _ _ _ us hl => match us, hl with | [_], _ => rfl
  obtain ⟨f_sCheckPlace, d_sCheckPlace, g_sCheckPlace⟩ := hsCheckPlace
  have m_sCheckPlace := PySem.W.mg_of X G g_sCheckPlace.a
  have b_sCheckPlace : Binds K d_sCheckPlace ["web", "place"] [] := g_sCheckPlace.F.binds fun _ _ _ _ _ _ us hl => match us, hl with | [_, _], _ => rfl
  obtain ⟨f_sSpread, d_sSpread, g_sSpread⟩ := hsSpread
  have m_sSpread := PySem.W.mg_of X G g_sSpread.a
  have b_sSpread : Binds K d_sSpread ["neighbours", "starts"] [] := g_sSpread.F.binds fun _ _ _ _ _ _ us hl => match us, hl with | [_, _], _ => rfl
  obtain ⟨f_sComeTo, d_sComeTo, g_sComeTo⟩ := hsComeTo
  have m_sComeTo := PySem.W.mg_of X G g_sComeTo.a
  have b_sComeTo : Binds K d_sComeTo ["steps", "starts"] [] := g_sComeTo.F.binds fun _ _ _ _ _ _ us hl => match us, hl with | [_, _], _ => rfl
  obtain ⟨f_sLeftLast, d_sLeftLast, g_sLeftLast⟩ := hsLeftLast
  have m_sLeftLast := PySem.W.mg_of X G g_sLeftLast.a
  have b_sLeftLast : Binds K d_sLeftLast ["ahead", "starts"] [] := g_sLeftLast.F.binds fun _ _ _ _ _ _ us hl => match us, hl with | [_, _], _ => rfl
  obtain ⟨f_sTogether, d_sTogether, g_sTogether⟩ := hsTogether
  have m_sTogether := PySem.W.mg_of X G g_sTogether.a
  have b_sTogether : Binds K d_sTogether ["steps"] [] := g_sTogether.F.binds fun _ _ _ _ _ _ us hl => match us, hl with | [_], _ => rfl
  obtain ⟨f_sComeBack, d_sComeBack, g_sComeBack⟩ := hsComeBack
  have m_sComeBack := PySem.W.mg_of X G g_sComeBack.a
  have b_sComeBack : Binds K d_sComeBack ["back", "start", "taken"] [] := g_sComeBack.F.binds fun _ _ _ _ _ _ us hl => match us, hl with | [_, _, _], _ => rfl
  obtain ⟨f_sLotsOf, d_sLotsOf, g_sLotsOf⟩ := hsLotsOf
  have m_sLotsOf := PySem.W.mg_of X G g_sLotsOf.a
  have b_sLotsOf : Binds K d_sLotsOf ["steps"] [] := g_sLotsOf.F.binds fun _ _ _ _ _ _ us hl => match us, hl with | [_], _ => rfl
  obtain ⟨f_sRowAlong, d_sRowAlong, g_sRowAlong⟩ := hsRowAlong
  have m_sRowAlong := PySem.W.mg_of X G g_sRowAlong.a
  have b_sRowAlong : Binds K d_sRowAlong ["walk"] [] := g_sRowAlong.F.binds fun _ _ _ _ _ _ us hl => match us, hl with | [_], _ => rfl
  obtain ⟨f_sReadStep, d_sReadStep, g_sReadStep⟩ := hsReadStep
  have m_sReadStep := PySem.W.mg_of X G g_sReadStep.a
  have b_sReadStep : Binds K d_sReadStep ["places", "thing"] [] := g_sReadStep.F.binds fun _ _ _ _ _ _ us hl => match us, hl with | [_, _], _ => rfl
  obtain ⟨f_sReadSteps, d_sReadSteps, g_sReadSteps⟩ := hsReadSteps
  have m_sReadSteps := PySem.W.mg_of X G g_sReadSteps.a
  have b_sReadSteps : Binds K d_sReadSteps ["places", "things"] [] := g_sReadSteps.F.binds fun _ _ _ _ _ _ us hl => match us, hl with | [_, _], _ => rfl
  obtain ⟨f_sReadWalk, d_sReadWalk, g_sReadWalk⟩ := hsReadWalk
  have m_sReadWalk := PySem.W.mg_of X G g_sReadWalk.a
  have b_sReadWalk : Binds K d_sReadWalk ["web", "thing"] [] := g_sReadWalk.F.binds fun _ _ _ _ _ _ us hl => match us, hl with | [_, _], _ => rfl
  obtain ⟨f_sCheckedWalk, d_sCheckedWalk, g_sCheckedWalk⟩ := hsCheckedWalk
  have m_sCheckedWalk := PySem.W.mg_of X G g_sCheckedWalk.a
  have b_sCheckedWalk : Binds K d_sCheckedWalk ["web", "thing"] [] := g_sCheckedWalk.F.binds fun _ _ _ _ _ _ us hl => match us, hl with | [_, _], _ => rfl
  obtain ⟨f_sIsWalk, d_sIsWalk, g_sIsWalk⟩ := hsIsWalk
  have m_sIsWalk := PySem.W.mg_of X G g_sIsWalk.a
  have b_sIsWalk : Binds K d_sIsWalk ["web", "thing"] [] := g_sIsWalk.F.binds fun _ _ _ _ _ _ us hl => match us, hl with | [_, _], _ => rfl
  obtain ⟨f_sIsRing, d_sIsRing, g_sIsRing⟩ := hsIsRing
  have m_sIsRing := PySem.W.mg_of X G g_sIsRing.a
  have b_sIsRing : Binds K d_sIsRing ["web", "thing"] [] := g_sIsRing.F.binds fun _ _ _ _ _ _ us hl => match us, hl with | [_, _], _ => rfl
  obtain ⟨f_sSumOf, d_sSumOf, g_sSumOf⟩ := hsSumOf
  have m_sSumOf := PySem.W.mg_of X G g_sSumOf.a
  have b_sSumOf : Binds K d_sSumOf ["web", "walk"] [] := g_sSumOf.F.binds fun _ _ _ _ _ _ us hl => match us, hl with | [_, _], _ => rfl
  obtain ⟨f_sReached, d_sReached, g_sReached⟩ := hsReached
  have m_sReached := PySem.W.mg_of X G g_sReached.a
  have b_sReached : Binds K d_sReached ["web", "place"] [] := g_sReached.F.binds fun _ _ _ _ _ _ us hl => match us, hl with | [_, _], _ => rfl
  obtain ⟨f_sLots, d_sLots, g_sLots⟩ := hsLots
  have m_sLots := PySem.W.mg_of X G g_sLots.a
  have b_sLots : Binds K d_sLots ["web"] [] := g_sLots.F.binds fun _ _ _ _ _ _ us hl => match us, hl with | [_], _ => rfl
  obtain ⟨f_sStream, d_sStream, g_sStream⟩ := hsStream
  have m_sStream := PySem.W.mg_of X G g_sStream.a
  have b_sStream : Binds K d_sStream ["_law_script"] [] := g_sStream.F.binds fun _ _ _ _ _ _ us hl => match us, hl with | [_], _ => rfl
  obtain ⟨f_sDraw, d_sDraw, g_sDraw, vD⟩ := hsDraw
  have m_sDraw := PySem.W.mg_of X G g_sDraw.a
  have b_sDraw : Binds K d_sDraw ["_law_stream_here", "_law_many"] [] := g_sDraw.F.binds fun _ _ _ _ _ _ us hl => match us, hl with | [_, _], _ => rfl
  obtain ⟨f_sPick, d_sPick, g_sPick⟩ := hsPick
  have m_sPick := PySem.W.mg_of X G g_sPick.a
  have b_sPick : Binds K d_sPick ["_law_stream_here", "_law_things"] [] := g_sPick.F.binds fun _ _ _ _ _ _ us hl => match us, hl with | [_, _], _ => rfl
  obtain ⟨f_sMixed, d_sMixed, g_sMixed⟩ := hsMixed
  have m_sMixed := PySem.W.mg_of X G g_sMixed.a
  have b_sMixed : Binds K d_sMixed ["_law_stream_here", "_law_things"] [] := g_sMixed.F.binds fun _ _ _ _ _ _ us hl => match us, hl with | [_, _], _ => rfl
  obtain ⟨f_sSame, d_sSame, g_sSame⟩ := hsSame
  have m_sSame := PySem.W.mg_of X G g_sSame.a
  have b_sSame : Binds K d_sSame ["_law_found", "_law_due"] [] := g_sSame.F.binds fun _ _ _ _ _ _ us hl => match us, hl with | [_, _], _ => rfl
  obtain ⟨f_sLoose, d_sLoose, g_sLoose⟩ := hsLoose
  have m_sLoose := PySem.W.mg_of X G g_sLoose.a
  have b_sLoose : Binds K d_sLoose ["_law_stream_here", "_law_thing"] [] := g_sLoose.F.binds fun _ _ _ _ _ _ us hl => match us, hl with | [_, _], _ => rfl
  obtain ⟨f_sAmounts, d_sAmounts, g_sAmounts⟩ := hsAmounts
  have m_sAmounts := PySem.W.mg_of X G g_sAmounts.a
  have b_sAmounts : Binds K d_sAmounts ["_law_stream_here", "_law_way"] [] := g_sAmounts.F.binds fun _ _ _ _ _ _ us hl => match us, hl with | [_, _], _ => rfl
  obtain ⟨f_sStep, d_sStep, g_sStep⟩ := hsStep
  have m_sStep := PySem.W.mg_of X G g_sStep.a
  have b_sStep : Binds K d_sStep ["_law_stream_here", "_law_one", "_law_other", "_law_way"] [] := g_sStep.F.binds fun _ _ _ _ _ _ us hl => match us, hl with | [_, _, _, _], _ => rfl
  obtain ⟨f_sWeb, d_sWeb, g_sWeb⟩ := hsWeb
  have m_sWeb := PySem.W.mg_of X G g_sWeb.a
  have b_sWeb : Binds K d_sWeb ["_law_stream_here", "_law_most", "_law_many"] [] := g_sWeb.F.binds fun _ _ _ _ _ _ us hl => match us, hl with | [_, _, _], _ => rfl
  obtain ⟨f_sLReached, d_sLReached, g_sLReached⟩ := hsLReached
  have m_sLReached := PySem.W.mg_of X G g_sLReached.a
  have b_sLReached : Binds K d_sLReached ["_law_steps", "_law_place"] [] := g_sLReached.F.binds fun _ _ _ _ _ _ us hl => match us, hl with | [_, _], _ => rfl
  obtain ⟨f_sLRings, d_sLRings, g_sLRings⟩ := hsLRings
  have m_sLRings := PySem.W.mg_of X G g_sLRings.a
  have b_sLRings : Binds K d_sLRings ["_law_steps"] [] := g_sLRings.F.binds fun _ _ _ _ _ _ us hl => match us, hl with | [_], _ => rfl
  obtain ⟨f_sLSum, d_sLSum, g_sLSum⟩ := hsLSum
  have m_sLSum := PySem.W.mg_of X G g_sLSum.a
  have b_sLSum : Binds K d_sLSum ["_law_walk"] [] := g_sLSum.F.binds fun _ _ _ _ _ _ us hl => match us, hl with | [_], _ => rfl
  obtain ⟨f_sTried, d_sTried, g_sTried⟩ := hsTried
  have m_sTried := PySem.W.mg_of X G g_sTried.a
  have b_sTried : Binds K d_sTried ["_law_ask"] [] := g_sTried.F.binds fun _ _ _ _ _ _ us hl => match us, hl with | [_], _ => rfl
  obtain ⟨f_sIsWhole, d_sIsWhole, g_sIsWhole⟩ := hsIsWhole
  have m_sIsWhole := PySem.W.mg_of X G g_sIsWhole.a
  have b_sIsWhole : Binds K d_sIsWhole ["_law_thing"] [] := g_sIsWhole.F.binds fun _ _ _ _ _ _ us hl => match us, hl with | [_], _ => rfl
  obtain ⟨f_sStepOf, d_sStepOf, g_sStepOf⟩ := hsStepOf
  have m_sStepOf := PySem.W.mg_of X G g_sStepOf.a
  have b_sStepOf : Binds K d_sStepOf ["_law_thing"] [] := g_sStepOf.F.binds fun _ _ _ _ _ _ us hl => match us, hl with | [_], _ => rfl
  obtain ⟨f_sWalkOf, d_sWalkOf, g_sWalkOf⟩ := hsWalkOf
  have m_sWalkOf := PySem.W.mg_of X G g_sWalkOf.a
  have b_sWalkOf : Binds K d_sWalkOf ["_law_steps", "_law_thing"] [] := g_sWalkOf.F.binds fun _ _ _ _ _ _ us hl => match us, hl with | [_, _], _ => rfl
  obtain ⟨f_sLIsRing, d_sLIsRing, g_sLIsRing⟩ := hsLIsRing
  have m_sLIsRing := PySem.W.mg_of X G g_sLIsRing.a
  have b_sLIsRing : Binds K d_sLIsRing ["_law_steps", "_law_thing"] [] := g_sLIsRing.F.binds fun _ _ _ _ _ _ us hl => match us, hl with | [_, _], _ => rfl
  obtain ⟨f_sDrawnWalk, d_sDrawnWalk, g_sDrawnWalk⟩ := hsDrawnWalk
  have m_sDrawnWalk := PySem.W.mg_of X G g_sDrawnWalk.a
  have b_sDrawnWalk : Binds K d_sDrawnWalk ["_law_stream_here", "_law_places", "_law_steps"] [] := g_sDrawnWalk.F.binds fun _ _ _ _ _ _ us hl => match us, hl with | [_, _, _], _ => rfl
  obtain ⟨f_sBent, d_sBent, g_sBent⟩ := hsBent
  have m_sBent := PySem.W.mg_of X G g_sBent.a
  have b_sBent : Binds K d_sBent ["_law_stream_here", "_law_steps", "_law_walk"] [] := g_sBent.F.binds fun _ _ _ _ _ _ us hl => match us, hl with | [_, _, _], _ => rfl
  obtain ⟨f_sLLots, d_sLLots, g_sLLots⟩ := hsLLots
  have m_sLLots := PySem.W.mg_of X G g_sLLots.a
  have b_sLLots : Binds K d_sLLots ["_law_places", "_law_steps"] [] := g_sLLots.F.binds fun _ _ _ _ _ _ us hl => match us, hl with | [_, _], _ => rfl
  obtain ⟨f_TR, d_TR, c1, g_TR⟩ := hTR
  have m_TR := PySem.W.mg_of X G g_TR.a
  have b_TR : Binds K d_TR ["_law_stream_here", "_law_web_here", "_law_steps", "_law_thing"] [] := g_TR.F.binds fun _ _ _ _ _ _ us hl => match us, hl with | [_, _, _, _], _ => rfl
  obtain ⟨f_LW, d_LW, c2, g_LW⟩ := hLW
  have m_LW := PySem.W.mg_of X G g_LW.a
  obtain ⟨f_wi, d_wi, g_wi⟩ := h_wi
  have b_wi : Binds K d_wi ["self", "places", "steps"] [] := g_wi.F.binds fun _ _ _ _ _ _ us hl => match us, hl with | [_, _, _], _ => rfl
  obtain ⟨f_wp, d_wp, g_wp⟩ := h_wp
  have b_wp : Binds K d_wp ["self"] [] := g_wp.F.binds fun _ _ _ _ _ _ us hl => match us, hl with | [_], _ => rfl
  obtain ⟨f_ws, d_ws, g_ws⟩ := h_ws
  have b_ws : Binds K d_ws ["self"] [] := g_ws.F.binds fun _ _ _ _ _ _ us hl => match us, hl with | [_], _ => rfl
  obtain ⟨f_we, d_we, g_we⟩ := h_we
  have b_we : Binds K d_we ["self", "other"] [] := g_we.F.binds fun _ _ _ _ _ _ us hl => match us, hl with | [_, _], _ => rfl
  obtain ⟨f_bp, d_bp, g_bp, k_bp⟩ := h_bp
  have b_bp : Binds K d_bp ["self", "places"] [] := g_bp.F.binds fun _ _ _ _ _ _ us hl => match us, hl with | [_, _], _ => rfl
  have T_bp : ExT K mg "BadPlaces" "places" CP f_bp := ⟨k_bp.ox, k_bp.xf, k_bp.no, PySem.W.mg_of X G k_bp.gC, g_bp.a, k_bp.tC⟩
  obtain ⟨f_bs, d_bs, g_bs, k_bs⟩ := h_bs
  have b_bs : Binds K d_bs ["self", "index"] [] := g_bs.F.binds fun _ _ _ _ _ _ us hl => match us, hl with | [_, _], _ => rfl
  have T_bs : ExT K mg "BadSteps" "index" CS f_bs := ⟨k_bs.ox, k_bs.xf, k_bs.no, PySem.W.mg_of X G k_bs.gC, g_bs.a, k_bs.tC⟩
  obtain ⟨f_bw, d_bw, g_bw, k_bw⟩ := h_bw
  have b_bw : Binds K d_bw ["self", "walk"] [] := g_bw.F.binds fun _ _ _ _ _ _ us hl => match us, hl with | [_, _], _ => rfl
  have T_bw : ExT K mg "BadWalk" "walk" CD f_bw := ⟨k_bw.ox, k_bw.xf, k_bw.no, PySem.W.mg_of X G k_bw.gC, g_bw.a, k_bw.tC⟩
  obtain ⟨f_bc, d_bc, g_bc, k_bc⟩ := h_bc
  have b_bc : Binds K d_bc ["self", "place"] [] := g_bc.F.binds fun _ _ _ _ _ _ us hl => match us, hl with | [_, _], _ => rfl
  have T_bc : ExT K mg "BadPlace" "place" CY f_bc := ⟨k_bc.ox, k_bc.xf, k_bc.no, PySem.W.mg_of X G k_bc.gC, g_bc.a, k_bc.tC⟩
  have e := hfa.symm.trans m_LW
  cases e
  have B : Bn mg := { abs := PySem.W.mg_none_of X G bk.abs, int := PySem.W.mg_none_of X G bk.int, len := PySem.W.mg_none_of X G bk.len, list := PySem.W.mg_none_of X G bk.list, tuple := PySem.W.mg_none_of X G bk.tuple, dict := PySem.W.mg_none_of X G bk.dict, bool := PySem.W.mg_none_of X G bk.bool, range := PySem.W.mg_none_of X G bk.range, enumerate := PySem.W.mg_none_of X G bk.enumerate, isinstance := PySem.W.mg_none_of X G bk.isinstance, all := PySem.W.mg_none_of X G bk.all, zip := PySem.W.mg_none_of X G bk.zip, sorted := PySem.W.mg_none_of X G bk.sorted, max := PySem.W.mg_none_of X G bk.max, sum := PySem.W.mg_none_of X G bk.sum, repr := PySem.W.mg_none_of X G bk.repr }
  have cls : Cls K C := ⟨cw.pg, cw.hd, cw.po, cw.sa⟩
  have T : WebTxt K mg C := ⟨cls, wn.nP, wn.nS, wn.nK, PySem.W.mg_of X G cw.aC⟩
  have IC : InsK K C := ⟨cls, cw.ha, cw.hn, cw.ht, cw.hm, cw.n1, cw.n2, cw.n3, cw.n4⟩
  have hset := PySem.W.mg_none_of X G bk.st
  have kb_sIsWalk : KBinds K d_sIsWalk ["web", "thing"] ["thing", "web"] revK revK := by
    obtain ⟨_, _, _, _, _, _, _, _, _, eL, _, _⟩ := id g_sIsWalk.F.ex
    refine { to := fun s us ws _ hl => ?_, rel := fun h k => revK_rel h k }
    cases us with
    | cons u us => exact absurd (show (0 : Nat) = 2 from hl) (by decide)
    | nil =>
      have hw : ws.length = 2 := by
        rw [← List.length_reverse]
        exact hl
      match ws, hw with
      | [w1, p1], _ =>
        rw [eL]
        exact .of_eq rfl
  have kb_sIsRing : KBinds K d_sIsRing ["web", "thing"] ["thing", "web"] revK revK := by
    obtain ⟨_, _, _, _, _, _, _, _, _, eL, _, _⟩ := id g_sIsRing.F.ex
    refine { to := fun s us ws _ hl => ?_, rel := fun h k => revK_rel h k }
    cases us with
    | cons u us => exact absurd (show (0 : Nat) = 2 from hl) (by decide)
    | nil =>
      have hw : ws.length = 2 := by
        rw [← List.length_reverse]
        exact hl
      match ws, hw with
      | [w1, p1], _ =>
        rw [eL]
        exact .of_eq rfl
  have kb_sSumOf : KBinds K d_sSumOf ["web", "walk"] ["walk", "web"] revK revK := by
    obtain ⟨_, _, _, _, _, _, _, _, _, eL, _, _⟩ := id g_sSumOf.F.ex
    refine { to := fun s us ws _ hl => ?_, rel := fun h k => revK_rel h k }
    cases us with
    | cons u us => exact absurd (show (0 : Nat) = 2 from hl) (by decide)
    | nil =>
      have hw : ws.length = 2 := by
        rw [← List.length_reverse]
        exact hl
      match ws, hw with
      | [w1, p1], _ =>
        rw [eL]
        exact .of_eq rfl
  have kb_sReached : KBinds K d_sReached ["web", "place"] ["place", "web"] revK revK := by
    obtain ⟨_, _, _, _, _, _, _, _, _, eL, _, _⟩ := id g_sReached.F.ex
    refine { to := fun s us ws _ hl => ?_, rel := fun h k => revK_rel h k }
    cases us with
    | cons u us => exact absurd (show (0 : Nat) = 2 from hl) (by decide)
    | nil =>
      have hw : ws.length = 2 := by
        rw [← List.length_reverse]
        exact hl
      match ws, hw with
      | [w1, p1], _ =>
        rw [eL]
        exact .of_eq rfl
  have bl : ∀ (s : Shared) (v : Value), BindsTo s d_LW ⟨[v], []⟩ [("_law_script", v)] := by
    obtain ⟨_, _, _, _, _, _, _, _, _, eL, _, _⟩ := id g_LW.F.ex
    intro s v
    rw [eL]
    exact .of_eq rfl
  have two : ∀ {Pr : Addr × Addr → Prop}, Pr (c1, P1) → Pr (c2, P2) → ∀ q ∈ [(c1, P1), (c2, P2)], Pr q := fun h1 h2 q hq => by
    simp only [List.mem_cons, List.not_mem_nil, or_false] at hq
    rcases hq with rfl | rfl
    · exact h1
    · exact h2
  refine ⟨d_LW, [(c1, P1), (c2, P2)], spLaw02 K [(P1, qP), (P2, qC)], two t1 t2, two n1 n2, two (PySem.W.codeHd_of_K X g_TR.hd) (PySem.W.codeHd_of_K X g_LW.hd), bl, ?_, fun base hb1 hb2 hTB => ?_⟩
  · intro H a ns hl _ hTab hS
    refine ⟨a, ns, rfl, hS, hl, fun p hp => ?_, fun _ => rfl⟩
    simp only [List.mem_cons, List.not_mem_nil, or_false] at hp
    rcases hp with rfl | rfl
    · exact LamX.TabS.nil (hTab (c1, P1) (by simp))
    · exact LamX.TabS.nil (hTab (c2, P2) (by simp))
  have TB1 := hTB (c1, P1) (by simp)
  have TB2 := hTB (c2, P2) (by simp)
  have c_sDraw := cal_of (P := l.prog) (w := w) (base := base) g_sDraw.F m_sDraw b_sDraw (ok_draw g_sDraw.F B)
  have c_sStream := cal_of (P := l.prog) (w := w) (base := base) g_sStream.F m_sStream b_sStream (ok_stream g_sStream.F B)
  have c_sPick := cal_of (P := l.prog) (w := w) (base := base) g_sPick.F m_sPick b_sPick (ok_pick g_sPick.F B c_sDraw)
  have c_sMixed := cal_of (P := l.prog) (w := w) (base := base) g_sMixed.F m_sMixed b_sMixed (ok_mixed g_sMixed.F B c_sDraw)
  have c_sAmounts := cal_of (P := l.prog) (w := w) (base := base) g_sAmounts.F m_sAmounts b_sAmounts (ok_amounts g_sAmounts.F B c_sDraw c_sPick)
  have c_sStep := cal_of (P := l.prog) (w := w) (base := base) g_sStep.F m_sStep b_sStep (ok_step g_sStep.F B c_sDraw c_sPick c_sAmounts)
  have c_sWeb := cal_of (P := l.prog) (w := w) (base := base) g_sWeb.F m_sWeb b_sWeb (ok_web g_sWeb.F B c_sDraw c_sMixed c_sStep)
  have c_sLoose := cal_of (P := l.prog) (w := w) (base := base) g_sLoose.F m_sLoose b_sLoose (fn_imp (ok_looseB g_sLoose.F B m_sLoose b_sLoose c_sDraw 6) looseT)
  have c_sIsInteger := cal_of (P := l.prog) (w := w) (base := base) g_sIsInteger.F m_sIsInteger b_sIsInteger (ok_isIntegerV g_sIsInteger.F B)
  have c_sIsList := cal_of (P := l.prog) (w := w) (base := base) g_sIsList.F m_sIsList b_sIsList (ok_isList g_sIsList.F B)
  have c_sReadStep := cal_of (P := l.prog) (w := w) (base := base) g_sReadStep.F m_sReadStep b_sReadStep (ok_readStep g_sReadStep.F B c_sIsList)
  have c_sIsWhole := cal_of (P := l.prog) (w := w) (base := base) g_sIsWhole.F m_sIsWhole b_sIsWhole (ok_whole g_sIsWhole.F B)
  have c_sStepOf := cal_of (P := l.prog) (w := w) (base := base) g_sStepOf.F m_sStepOf b_sStepOf (ok_stepOf g_sStepOf.F B c_sIsWhole)
  have GLW := ok_lwalk (P := l.prog) (w := w) (base := base) g_sWalkOf.F B c_sStepOf
  have c_sWalkOf := cal_of (P := l.prog) (w := w) (base := base) g_sWalkOf.F m_sWalkOf b_sWalkOf (GLW)
  have c_sWalkT := cal_of (P := l.prog) (w := w) (base := base) g_sWalkOf.F m_sWalkOf b_sWalkOf (fn_imp GLW lWalkT)
  have GLR := ok_lisRing (P := l.prog) (w := w) (base := base) g_sLIsRing.F B hset c_sWalkOf
  have c_sLIsRing := cal_of (P := l.prog) (w := w) (base := base) g_sLIsRing.F m_sLIsRing b_sLIsRing (fn_imp GLR lRingT)
  have c_sLReached := cal_of (P := l.prog) (w := w) (base := base) g_sLReached.F m_sLReached b_sLReached (ok_lreached g_sLReached.F B hset)
  have c_sLRings := cal_of (P := l.prog) (w := w) (base := base) g_sLRings.F m_sLRings b_sLRings (ok_lrings g_sLRings.F B hset)
  have c_sLSum := cal_of (P := l.prog) (w := w) (base := base) g_sLSum.F m_sLSum b_sLSum (ok_lsum g_sLSum.F B)
  have c_sDrawnWalk := cal_of (P := l.prog) (w := w) (base := base) g_sDrawnWalk.F m_sDrawnWalk b_sDrawnWalk (ok_drw g_sDrawnWalk.F B c_sDraw c_sPick)
  have c_sBent := cal_of (P := l.prog) (w := w) (base := base) g_sBent.F m_sBent b_sBent (ok_bent g_sBent.F B (PySem.W.mg_none_of X G bk.str) m_sDraw vD c_sDraw c_sPick)
  have c_sLLots := cal_of (P := l.prog) (w := w) (base := base) g_sLLots.F m_sLLots b_sLLots (ok_llots g_sLLots.F B (PySem.W.mg_none_of X G bk.any) c_sLReached)
  have GBP := ok_badPl (P := l.prog) (w := w) (base := base) g_bp.F T_bp
  have GBS := ok_badSt (P := l.prog) (w := w) (base := base) g_bs.F T_bs
  have GBW := ok_badWk (P := l.prog) (w := w) (base := base) g_bw.F T_bw
  have GBC := ok_badPc (P := l.prog) (w := w) (base := base) g_bc.F T_bc
  have GR := ok_readSteps (P := l.prog) (w := w) (base := base) g_sReadSteps.F B T_bs GBS b_bs c_sReadStep c_sIsList
  have GX := ok_webInit (fS := f_bs) (P := l.prog) (w := w) (base := base) g_wi.F B T T_bp GBP b_bp c_sIsInteger GR m_sReadSteps g_sReadSteps.F.kp b_sReadSteps
  have GI0 : FnOk l.prog w K mg base CX0 5 f_wi d_wi ["self", "places", "steps"] (spWebI0 K C CP CS) := fn_calm GX
  have MW : Mk K C f_wi := ⟨cw.mkc, g_wi.a, g_wi.i, cw.kc⟩
  have GP := ok_places (P := l.prog) (w := w) (base := base) g_wp.F T
  have mP : Meth K C "places" f_wp := ⟨g_wp.a, g_wp.i, g_wp.F.kp⟩
  have GS := ok_steps (P := l.prog) (w := w) (base := base) g_ws.F B T
  have mS : Meth K C "steps" f_ws := ⟨g_ws.a, g_ws.i, g_ws.F.kp⟩
  have GE := ok_webEqV (P := l.prog) (w := w) (base := base) g_we.F B T IC cw.cc
  have c_sSame := cal_of (P := l.prog) (w := w) (base := base) g_sSame.F m_sSame b_sSame (ok_same g_sSame.F B m_sSame b_sSame IC wbR_ex (eq_web GE) g_we.a g_we.i b_we 7)
  have c_sReadWalk := cal_of (P := l.prog) (w := w) (base := base) g_sReadWalk.F m_sReadWalk b_sReadWalk (ok_readWalk g_sReadWalk.F B T c_sReadStep c_sIsList GP b_wp mP GS b_ws mS)
  have GPl := ok_plc (P := l.prog) (w := w) (base := base) g_sCheckPlace.F B T T_bc GBC b_bc GP b_wp mP c_sIsInteger
  have c_sSpread := cal_of (P := l.prog) (w := w) (base := base) g_sSpread.F m_sSpread b_sSpread (ok_spread g_sSpread.F B)
  have c_sComeTo := cal_of (P := l.prog) (w := w) (base := base) g_sComeTo.F m_sComeTo b_sComeTo (ok_comeTo g_sComeTo.F c_sSpread)
  have GRd := ok_reached (P := l.prog) (w := w) (base := base) g_sReached.F T GPl m_sCheckPlace g_sCheckPlace.F.kp b_sCheckPlace GS b_ws mS c_sComeTo
  have c_sLeftLast := cal_of (P := l.prog) (w := w) (base := base) g_sLeftLast.F m_sLeftLast b_sLeftLast (ok_left g_sLeftLast.F B)
  have c_sComeBack := cal_of (P := l.prog) (w := w) (base := base) g_sComeBack.F m_sComeBack b_sComeBack (ok_back g_sComeBack.F B)
  have c_sTogether := cal_of (P := l.prog) (w := w) (base := base) g_sTogether.F m_sTogether b_sTogether (ok_tog g_sTogether.F B (PySem.W.mg_none_of X G bk.min) (PySem.W.mg_none_of X G bk.rev) c_sLeftLast c_sComeBack)
  have c_sLotsOf := cal_of (P := l.prog) (w := w) (base := base) g_sLotsOf.F m_sLotsOf b_sLotsOf (ok_lotsOf g_sLotsOf.F B c_sTogether)
  have c_sLots := cal_of (P := l.prog) (w := w) (base := base) g_sLots.F m_sLots b_sLots (ok_lots g_sLots.F T GS b_ws mS c_sLotsOf)
  have c_sRowAlong := cal_of (P := l.prog) (w := w) (base := base) g_sRowAlong.F m_sRowAlong b_sRowAlong (ok_rowA g_sRowAlong.F B)
  have GCk := ok_chk (P := l.prog) (w := w) (base := base) g_sCheckedWalk.F T_bw GBW b_bw c_sReadWalk
  have GIW := ok_isWalk (P := l.prog) (w := w) (base := base) g_sIsWalk.F c_sReadWalk
  have GIR := ok_isRing (P := l.prog) (w := w) (base := base) g_sIsRing.F B c_sReadWalk
  have GSO := ok_sumOf (P := l.prog) (w := w) (base := base) g_sSumOf.F B GCk m_sCheckedWalk g_sCheckedWalk.F.kp b_sCheckedWalk c_sRowAlong
  have TR : TrP K mg CD CY f_sTried f_bw f_bc d_sTried := ⟨g_sTried.F, m_sTried, b_sTried, T_bw, T_bc, ex⟩
  have one : ∀ p ∈ [(P1, qP), (P2, qC)], p.1 = P1 → p.2 = qP := fun p hp e => by
    simp only [List.mem_cons, List.not_mem_nil, or_false] at hp
    rcases hp with rfl | rfl
    · rfl
    · exact absurd e.symm n12
  have other : ∀ p ∈ [(P1, qP), (P2, qC)], p.1 = P2 → p.2 = qC := fun p hp e => by
    simp only [List.mem_cons, List.not_mem_nil, or_false] at hp
    rcases hp with rfl | rfl
    · exact absurd e n12
    · rfl
  have c_TR := cal_of (P := l.prog) (w := w) (base := base) g_TR.F m_TR b_TR (ok_thR (R := WbR K C) (T := [(P1, qP), (P2, qC)]) g_TR.L B TB1 (List.mem_cons_self ..) one TR (fn_imp GIW isWalkT) m_sIsWalk g_sIsWalk.F.kp b_sIsWalk kb_sIsWalk (fn_imp GIR isRingT) m_sIsRing g_sIsRing.F.kp b_sIsRing kb_sIsRing
    (fn_imp GSO sumNo) (fn_imp (fn_calm GSO) sumYes) m_sSumOf g_sSumOf.F.kp b_sSumOf kb_sSumOf c_sWalkT c_sLIsRing c_sLoose c_sLSum c_sSame)
  exact ok_law02 (CP := CP) (CS := CS) (T := [(P1, qP), (P2, qC)]) g_LW.L B hset TB2 (List.mem_cons_of_mem _ (List.mem_cons_self ..)) other TR T MW GI0 b_wi IC cw.ni cw.n3 (fn_imp (fn_calm GRd) rdY) (fn_imp GRd rdN) m_sReached g_sReached.F.kp b_sReached kb_sReached
    (fn_imp GSO sumNo) m_sSumOf g_sSumOf.F.kp b_sSumOf m_sDraw vD c_sStream c_sWeb c_sDrawnWalk c_sLRings c_sMixed c_sBent c_TR c_sSame c_sLReached c_sLLots c_sLots
end AA

set_option Elab.async false
set_option linter.all false
set_option maxRecDepth 100000
namespace AA
open PySem PySem.Spec PyProof.Rows L2 Evl
theorem bad_mk {K : PySem.W.Frag} {CB : Addr} {y m x q : Str} {st : Stmt} {f : Addr} {oc : Value} {od an : Option Addr} {osl : Array (Option Value)} {kV doc pm cdv ct : Value}
    {nm qn : Str} {N : Addr} {bs bm : List Value} {sn : List Str} {sub : List Value} {ab : Bool} {col : Option Bool} {dd : Option Addr} {k0 k1 k2 k3 k5 : Option Value}
    (a : PySem.W.findIn K (.ref CB) x = some (some (.ref f))) (i : PySem.W.isFn K (.ref f) = true)
    (l : K.lookup f = some ⟨oc, od, .func (PySem.W.fnOf x q (defArgs st) (defBody st) (defScope st) .none kV doc pm an cdv ct), osl⟩) (c : PySem.W.codeIn K cdv q = true) (k : PySem.W.keepIn K (.ref f) = true)
    (gC : PySem.W.nsIn K mainGlobals y = some (some (.ref CB)))
    (xL : K.lookup CB = some (excClassObj nm qn CB N bs bm true sn sub ab col dd k0 k1 k2 k3 k5 "ValueError.__new__")) (rv : PySem.HandSPX.refsVE bm = true)
    (sa : PySem.W.findIn K (.ref CB) "__setattr__" = some (some (.builtin "object.__setattr__")))
    (exC : PySem.W.subIn K (.ref CB) (.type "BaseException") = some true)
    (tyC : PySem.W.typeIn K (.ref CB) = some (.type "type")) (kC : PySem.W.keepIn K (.ref CB) = true)
    (ga : PySem.W.findIn K (.ref CB) "__getattribute__" = some (some (.builtin "BaseException.__getattribute__")))
    (gg : PySem.W.findIn K (.ref CB) "__getattr__" = some none) (hdC : PySem.W.hasDictIn K CB = true)
    (no : PySem.W.findIn K (.ref CB) m = some none) (tC : PySem.W.typeIn K (.ref f) = some (.type "function")) :
    ∃ f fd, MFn K CB x q st f fd ∧ BadK K y m CB f :=
  ⟨_, _, ⟨a, i, fun_mk (st := st) l c k⟩, ⟨gC, ⟨⟨_, _, _, _, _, _, _, _, _, _, _, _, _, _, _, xL, rv⟩, sa, exC, tyC, kC⟩, ⟨ga, gg, exC, hdC⟩, no, tC⟩⟩
end AA
open PySem PySem.W PyProof.Rows in
set_option maxRecDepth 100000 in
set_option maxHeartbeats 0 in
theorem PySem.Challenge.cw_anyaround_k02_walks_and_lots_holds : PySem.Challenge.rw_anyaround_k02_walks_and_lots.Holds := by
  w_on; o_law; km_head; (case hw => w_witness2)
  k_fill
  refine LamX.walk_ofTs (l := PySem.Challenge.rw_anyaround_k02_walks_and_lots) (n := 63) (k := 12) (x := "_law_script") (CX := fun _ => C8.CX0) rfl (by decide) rfl ⟨rfl, by decide, by decide⟩ (fun w h Y => PySem.W.km_in_of Y) ?F (fun _ _ _ _ _ z => z)
  case F =>
    intro w mg fa h Y KX G hmg
    refine' AA.all_mk (CP := ?CP) (CS := ?CS) (CD := ?CD) (CY := ?CY) (C := ?C) (P1 := ?P1) (P2 := ?P2) KX G hmg ?t1 ?t2 ?n1 ?n2 ?n12 ?bk ?cw ?wn ?ex ?f1 ?f2 ?f3 ?f4 ?f5 ?f6 ?f7 ?f8 ?f9 ?f10 ?f11 ?f12 ?f13 ?f14 ?f15 ?f16 ?f17 ?f18 ?f19 ?f20 ?f21 ?f22 ?f23 ?f24 ?f25 ?f26 ?f27 ?f28 ?f29 ?f30 ?f31 ?f32 ?f33 ?f34 ?f35 ?f36 ?f37 ?f38 ?f39 ?l1 ?l2 ?m1 ?m2 ?m3 ?m4 ?x1 ?x2 ?x3 ?x4
    (case t1 => exact PySem.W.km_tabs_of Y 384 (by simp))
    (case t2 => exact PySem.W.km_tabs_of Y 391 (by simp))
    (case n1 => kernel_rfl)
    (case n2 => kernel_rfl)
    (case n12 => decide)
    (case bk => refine' ⟨?_, ?_, ?_, ?_, ?_, ?_, ?_, ?_, ?_, ?_, ?_, ?_, ?_, ?_, ?_, ?_, ?_, ?_, ?_, ?_, ?_⟩ <;> k_is)
    (case cw => refine' ⟨?cw_aC, ?cw_pg, ?cw_hd, ?cw_po, ?cw_sa, ?cw_mk, ?cw_kc, ?cw_ha, ?cw_hn, ?cw_ht, ?cw_hm, ?cw_n1, ?cw_n2, ?cw_n3, ?cw_n4, ?cw_cc, ?cw_ne, ?cw_ni⟩; (case cw_aC => k_is); (case cw_pg => k_is); (case cw_hd => k_is); (case cw_po => k_is); (case cw_sa => k_is); (case cw_mk => k_is); (case cw_kc => k_is); (case cw_ha => k_is); (case cw_hn => k_is); (case cw_ht => k_is); (case cw_hm => k_is); (case cw_n1 => kit_is); (case cw_n2 => kit_is); (case cw_n3 => kit_is); (case cw_n4 => kit_is); (case cw_cc => kit_is); (case cw_ne => k_is); (case cw_ni => kit_is))
    (case wn => refine' ⟨?wn_nP, ?wn_nS, ?wn_nK⟩; (case wn_nP => k_is); (case wn_nS => k_is); (case wn_nK => k_is))
    (case f1 => refine' AA.gfn ?a ?l ?c ?k; (case a => k_is); (case l => k_is); (case c => k_is); (case k => k_is))
    (case f2 => refine' AA.gfn ?a ?l ?c ?k; (case a => k_is); (case l => k_is); (case c => k_is); (case k => k_is))
    (case f3 => refine' AA.gfn ?a ?l ?c ?k; (case a => k_is); (case l => k_is); (case c => k_is); (case k => k_is))
    (case f4 => refine' AA.gfn ?a ?l ?c ?k; (case a => k_is); (case l => k_is); (case c => k_is); (case k => k_is))
    (case f5 => refine' AA.gfn ?a ?l ?c ?k; (case a => k_is); (case l => k_is); (case c => k_is); (case k => k_is))
    (case f6 => refine' AA.gfn ?a ?l ?c ?k; (case a => k_is); (case l => k_is); (case c => k_is); (case k => k_is))
    (case f7 => refine' AA.gfn ?a ?l ?c ?k; (case a => k_is); (case l => k_is); (case c => k_is); (case k => k_is))
    (case f8 => refine' AA.gfn ?a ?l ?c ?k; (case a => k_is); (case l => k_is); (case c => k_is); (case k => k_is))
    (case f9 => refine' AA.gfn ?a ?l ?c ?k; (case a => k_is); (case l => k_is); (case c => k_is); (case k => k_is))
    (case f10 => refine' AA.gfn ?a ?l ?c ?k; (case a => k_is); (case l => k_is); (case c => k_is); (case k => k_is))
    (case f11 => refine' AA.gfn ?a ?l ?c ?k; (case a => k_is); (case l => k_is); (case c => k_is); (case k => k_is))
    (case f12 => refine' AA.gfn ?a ?l ?c ?k; (case a => k_is); (case l => k_is); (case c => k_is); (case k => k_is))
    (case f13 => refine' AA.gfn ?a ?l ?c ?k; (case a => k_is); (case l => k_is); (case c => k_is); (case k => k_is))
    (case f14 => refine' AA.gfn ?a ?l ?c ?k; (case a => k_is); (case l => k_is); (case c => k_is); (case k => k_is))
    (case f15 => refine' AA.gfn ?a ?l ?c ?k; (case a => k_is); (case l => k_is); (case c => k_is); (case k => k_is))
    (case f16 => refine' AA.gfn ?a ?l ?c ?k; (case a => k_is); (case l => k_is); (case c => k_is); (case k => k_is))
    (case f17 => refine' AA.gfn ?a ?l ?c ?k; (case a => k_is); (case l => k_is); (case c => k_is); (case k => k_is))
    (case f18 => refine' AA.gfn ?a ?l ?c ?k; (case a => k_is); (case l => k_is); (case c => k_is); (case k => k_is))
    (case f19 => refine' AA.gfn ?a ?l ?c ?k; (case a => k_is); (case l => k_is); (case c => k_is); (case k => k_is))
    (case f20 => refine' AA.gfn ?a ?l ?c ?k; (case a => k_is); (case l => k_is); (case c => k_is); (case k => k_is))
    (case f21 => refine' AA.gfnc ?a ?l ?c ?k; (case a => k_is); (case l => k_is); (case c => k_is); (case k => k_is))
    (case f22 => refine' AA.gfn ?a ?l ?c ?k; (case a => k_is); (case l => k_is); (case c => k_is); (case k => k_is))
    (case f23 => refine' AA.gfn ?a ?l ?c ?k; (case a => k_is); (case l => k_is); (case c => k_is); (case k => k_is))
    (case f24 => refine' AA.gfn ?a ?l ?c ?k; (case a => k_is); (case l => k_is); (case c => k_is); (case k => k_is))
    (case f25 => refine' AA.gfn ?a ?l ?c ?k; (case a => k_is); (case l => k_is); (case c => k_is); (case k => k_is))
    (case f26 => refine' AA.gfn ?a ?l ?c ?k; (case a => k_is); (case l => k_is); (case c => k_is); (case k => k_is))
    (case f27 => refine' AA.gfn ?a ?l ?c ?k; (case a => k_is); (case l => k_is); (case c => k_is); (case k => k_is))
    (case f28 => refine' AA.gfn ?a ?l ?c ?k; (case a => k_is); (case l => k_is); (case c => k_is); (case k => k_is))
    (case f29 => refine' AA.gfn ?a ?l ?c ?k; (case a => k_is); (case l => k_is); (case c => k_is); (case k => k_is))
    (case f30 => refine' AA.gfn ?a ?l ?c ?k; (case a => k_is); (case l => k_is); (case c => k_is); (case k => k_is))
    (case f31 => refine' AA.gfn ?a ?l ?c ?k; (case a => k_is); (case l => k_is); (case c => k_is); (case k => k_is))
    (case f32 => refine' AA.gfn ?a ?l ?c ?k; (case a => k_is); (case l => k_is); (case c => k_is); (case k => k_is))
    (case f33 => refine' AA.gfn ?a ?l ?c ?k; (case a => k_is); (case l => k_is); (case c => k_is); (case k => k_is))
    (case f34 => refine' AA.gfn ?a ?l ?c ?k; (case a => k_is); (case l => k_is); (case c => k_is); (case k => k_is))
    (case f35 => refine' AA.gfn ?a ?l ?c ?k; (case a => k_is); (case l => k_is); (case c => k_is); (case k => k_is))
    (case f36 => refine' AA.gfn ?a ?l ?c ?k; (case a => k_is); (case l => k_is); (case c => k_is); (case k => k_is))
    (case f37 => refine' AA.gfn ?a ?l ?c ?k; (case a => k_is); (case l => k_is); (case c => k_is); (case k => k_is))
    (case f38 => refine' AA.gfn ?a ?l ?c ?k; (case a => k_is); (case l => k_is); (case c => k_is); (case k => k_is))
    (case f39 => refine' AA.gfn ?a ?l ?c ?k; (case a => k_is); (case l => k_is); (case c => k_is); (case k => k_is))
    (case l1 => refine' AA.lfn ?a ?l ?c ?k ?hd; (case a => k_is); (case l => k_is); (case c => k_is); (case k => k_is); (case hd => kernel_rfl))
    (case l2 => refine' AA.lfn ?a ?l ?c ?k ?hd; (case a => k_is); (case l => k_is); (case c => k_is); (case k => k_is); (case hd => kernel_rfl))
    (case m1 => refine' AA.mfn ?a ?i ?l ?c ?k; (case a => k_is); (case i => k_is); (case l => k_is); (case c => k_is); (case k => k_is))
    (case m2 => refine' AA.mfn ?a ?i ?l ?c ?k; (case a => k_is); (case i => k_is); (case l => k_is); (case c => k_is); (case k => k_is))
    (case m3 => refine' AA.mfn ?a ?i ?l ?c ?k; (case a => k_is); (case i => k_is); (case l => k_is); (case c => k_is); (case k => k_is))
    (case m4 => refine' AA.mfn ?a ?i ?l ?c ?k; (case a => k_is); (case i => k_is); (case l => k_is); (case c => k_is); (case k => k_is))
    (case x1 => refine' AA.bad_mk ?a ?i ?l ?c ?k ?gC ?xL ?rv ?sa ?exC ?tyC ?kC ?ga ?gg ?hdC ?no ?tC; (case gC => k_is); (case a => k_is); (case i => k_is); (case l => k_is); (case c => k_is); (case k => k_is); (case xL => k_is); (case rv => decide +kernel); (case sa => k_is); (case exC => k_is); (case tyC => k_is); (case kC => k_is); (case ga => k_is); (case gg => k_is); (case hdC => k_is); (case no => k_is); (case tC => k_is))
    (case x2 => refine' AA.bad_mk ?a ?i ?l ?c ?k ?gC ?xL ?rv ?sa ?exC ?tyC ?kC ?ga ?gg ?hdC ?no ?tC; (case gC => k_is); (case a => k_is); (case i => k_is); (case l => k_is); (case c => k_is); (case k => k_is); (case xL => k_is); (case rv => decide +kernel); (case sa => k_is); (case exC => k_is); (case tyC => k_is); (case kC => k_is); (case ga => k_is); (case gg => k_is); (case hdC => k_is); (case no => k_is); (case tC => k_is))
    (case x3 => refine' AA.bad_mk ?a ?i ?l ?c ?k ?gC ?xL ?rv ?sa ?exC ?tyC ?kC ?ga ?gg ?hdC ?no ?tC; (case gC => k_is); (case a => k_is); (case i => k_is); (case l => k_is); (case c => k_is); (case k => k_is); (case xL => k_is); (case rv => decide +kernel); (case sa => k_is); (case exC => k_is); (case tyC => k_is); (case kC => k_is); (case ga => k_is); (case gg => k_is); (case hdC => k_is); (case no => k_is); (case tC => k_is))
    (case x4 => refine' AA.bad_mk ?a ?i ?l ?c ?k ?gC ?xL ?rv ?sa ?exC ?tyC ?kC ?ga ?gg ?hdC ?no ?tC; (case gC => k_is); (case a => k_is); (case i => k_is); (case l => k_is); (case c => k_is); (case k => k_is); (case xL => k_is); (case rv => decide +kernel); (case sa => k_is); (case exC => k_is); (case tyC => k_is); (case kC => k_is); (case ga => k_is); (case gg => k_is); (case hdC => k_is); (case no => k_is); (case tC => k_is))
    (case ex => refine' ⟨?_, ?_, ?_⟩ <;> first | k_is | rfl)

