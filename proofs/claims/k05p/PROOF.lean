import PyProof.Rows.All
import Wide.All
import OpenK.AllK
import Wide.FinOn
import HandS.ForMost
import HandS.Wide
import HandS.ExcInit
import HandS.IsInst
import HandS.Deep
import HandS.Evl
import HandS.Conv
import HandS.NoneIn
import HandS.Codes
import HandS.OwnEq
import HandS.DictComp
import HandS.SortOrd
import HandS.SortRule
import HandS.RaiseMore
import HandS.TryOnly
import HandS.Lambda
import HandS.Zip
import HandS.ListItems
import KE.DatumIndex
import HandS.TryMany
import HandS.MakeKwOnly
import HandS.EndTab
import HandS.HeadWalk
import HandS.ExcField
import HandS.WordsExc
import PyProof.IsiNone
import PyProof.IsiH_set
import PyProof.InstEq
import PyProof.InstNe
import KE.KRevSl
import HandS.SetKeys
import HandS.More
import HandS.TupSets
import PySem.Challenge.RW_anyaround_k05_whole_credits
import KE.KeyNested
import KE.GoesMore
import HandS.Rev
import HandS.RevTup
import HandS.GenList
import KE.KRevIter
import HandS.Gcd
import HandS.SetFor
import HandS.Strs
import KE.SortData
import KE.KDictList
import KE.KNestM
set_option Elab.async false
set_option linter.all false
set_option maxRecDepth 100000
namespace AA
open PySem PySem.Spec PyProof.Rows L2
def top (i : Nat) : Stmt := PySem.Challenge.pw_anyaround_k05_whole_credits.main.body.getD i (.Pass ⟨0, 0, 0, 0⟩)
abbrev sIsInteger : Stmt := top 9
abbrev sIsList : Stmt := top 10
abbrev sIsIntegers : Stmt := top 11
abbrev sUndivided : Stmt := top 12
abbrev sReadFraction : Stmt := top 13
abbrev sCheckedFraction : Stmt := top 14
abbrev sCheckedPrices : Stmt := top 15
abbrev sCheckPlace : Stmt := top 16
abbrev sRingBack : Stmt := top 18
abbrev sLowered : Stmt := top 19
abbrev sLeastSums : Stmt := top 20
abbrev sSumsOrRing : Stmt := top 21
abbrev sCostOf : Stmt := top 22
abbrev sWeightsAbove : Stmt := top 23
abbrev sRowAlong : Stmt := top 24
abbrev sCheapestRing : Stmt := top 25
abbrev sReadStep : Stmt := top 28
abbrev sReadSteps : Stmt := top 29
abbrev sRateAt : Stmt := top 31
abbrev sBestRing : Stmt := top 32
abbrev sHeightsOrRing : Stmt := top 33
abbrev sHeights : Stmt := top 34
abbrev sCredit : Stmt := top 35
abbrev sStream : Stmt := top 37
abbrev sDraw : Stmt := top 38
abbrev sPick : Stmt := top 39
abbrev sMixed : Stmt := top 40
abbrev sSame : Stmt := top 41
abbrev sLoose : Stmt := top 42
abbrev sAmounts : Stmt := top 43
abbrev sStep : Stmt := top 44
abbrev sWeb : Stmt := top 45
abbrev sLReached : Stmt := top 46
abbrev sLAhead : Stmt := top 47
abbrev sLSum : Stmt := top 48
abbrev sLCommon : Stmt := top 49
abbrev sLLow : Stmt := top 50
abbrev sLCost : Stmt := top 51
abbrev sTried : Stmt := top 52
abbrev sLSimple : Stmt := top 53
abbrev sLLeft : Stmt := top 54
abbrev sLLongWalk : Stmt := top 55
abbrev sPlaceRight : Stmt := top 56
abbrev sLaw : Stmt := top 57
abbrev sWebInit : Stmt := inClass (top 27) 0
abbrev sWebPlaces : Stmt := inClass (top 27) 1
abbrev sWebSteps : Stmt := inClass (top 27) 2
abbrev sWebEq : Stmt := inClass (top 27) 3
abbrev sBadFrInit : Stmt := inClass (top 3) 0
abbrev sBadPrInit : Stmt := inClass (top 4) 0
abbrev sBadPlInit : Stmt := inClass (top 5) 0
abbrev sBadStInit : Stmt := inClass (top 6) 0
abbrev sBadPcInit : Stmt := inClass (top 7) 0
end AA

set_option Elab.async false
set_option linter.all false
set_option maxRecDepth 100000
set_option maxHeartbeats 4000000
namespace AA
open PySem PySem.Spec PyProof.Rows L2 Evl

/-- built-in names that the program's top leaves alone -/
structure Bn (mg : Str → Option Value) : Prop where
  abs : mg "abs" = none
  int : mg "int" = none
  len : mg "len" = none
  list : mg "list" = none
  tuple : mg "tuple" = none
  dict : mg "dict" = none
  bool : mg "bool" = none
  range : mg "range" = none
  enumerate : mg "enumerate" = none
  isinstance : mg "isinstance" = none
  all : mg "all" = none
  zip : mg "zip" = none
  sorted : mg "sorted" = none
  max : mg "max" = none
  sum : mg "sum" = none
  repr : mg "repr" = none

theorem cal_of {P : Program} {w : World} {K : PySem.W.Frag} {mg : Str → Option Value} {base : Heap} {k : Nat} {x : Str} {st : Stmt} {f : Addr} {fd : FuncData} {ps : List Str} {sp : Sp}
    (F : L2.Fun K x x st f fd) (hm : mg x = some (.ref f)) (b : Binds K fd ps []) (G : FnOk P w K mg base CX0 k f fd ps sp) : C8.Cal P w K mg base k x sp [] := ⟨f, fd, ps, [], G, hm, F.kp, b, .nil⟩

/-! ### the heap without the stream's two lists -/
def hid (a b : Addr) (H : Hp) : Hp := fun x => if x = a ∨ x = b then none else H x
theorem hid_some {a b x : Addr} {H : Hp} {o : HO} (h : hid a b H x = some o) : H x = some o ∧ x ≠ a ∧ x ≠ b := by
  unfold hid at h
  by_cases e : x = a ∨ x = b
  · rw [if_pos e] at h
    cases h
  · rw [if_neg e] at h
    exact ⟨h, fun z => e (.inl z), fun z => e (.inr z)⟩
theorem hid_ne {a b x : Addr} {H : Hp} (ha : x ≠ a) (hb : x ≠ b) : hid a b H x = H x := by
  unfold hid
  rw [if_neg (fun z => z.elim ha hb)]
theorem hid_ex {a b : Addr} {H : Hp} : Ex (hid a b H) H := fun x o h => (hid_some h).1
theorem hid_upda {a b : Addr} {H : Hp} {o : HO} : hid a b (upd H a o) = hid a b H := by
  funext x
  unfold hid upd
  by_cases e : x = a ∨ x = b
  · rw [if_pos e, if_pos e]
  · rw [if_neg e, if_neg e, if_neg (fun z => e (.inl z))]
theorem hid_updb {a b : Addr} {H : Hp} {o : HO} : hid a b (upd H b o) = hid a b H := by
  funext x
  unfold hid upd
  by_cases e : x = a ∨ x = b
  · rw [if_pos e, if_pos e]
  · rw [if_neg e, if_neg e, if_neg (fun z => e (.inr z))]
theorem hid_upd {a b p : Addr} {H : Hp} {o : HO} (ha : p ≠ a) (hb : p ≠ b) : hid a b (upd H p o) = upd (hid a b H) p o := by
  funext x
  unfold hid upd
  by_cases e : x = a ∨ x = b
  · rw [if_pos e]
    by_cases q : x = p
    · rcases e with e | e
      · exact absurd (q.symm.trans e) ha
      · exact absurd (q.symm.trans e) hb
    · rw [if_neg q]
      exact (if_pos e).symm
  · rw [if_neg e]
    by_cases q : x = p
    · rw [if_pos q, if_pos q]
    · rw [if_neg q, if_neg q]
      exact (if_neg e).symm
theorem hid_none {a b p : Addr} {H : Hp} (h : H p = none) : hid a b H p = none := by
  unfold hid
  split
  · rfl
  · exact h
theorem hid_mono {a b : Addr} {H H' : Hp} (e : Ex H H') : Ex (hid a b H) (hid a b H') := fun x o h => by
  obtain ⟨h1, h2, h3⟩ := hid_some h
  rw [hid_ne h2 h3]
  exact e x o h1

/-- the stream: its list of four at a, the rest of the script at b; at most n draws so far -/
def SAt (H : Hp) (a b : Addr) (n : Nat) : Prop :=
  ∃ (ns : List Int) (c1 c2 c3 : Int), H a = some (.lst [.ref b, .int c1, .int c2, .int c3]) ∧ H b = some (.lst (ns.map V.int)) ∧ ns.length ≤ 63 ∧ 0 ≤ c1 ∧ 0 ≤ c2 ∧ c2 ≤ n ∧ 0 ≤ c3 ∧ c3 < 2147483647
theorem SAt.mono {H : Hp} {a b : Addr} {n m : Nat} (h : SAt H a b n) (l : n ≤ m) : SAt H a b m := by
  obtain ⟨ns, c1, c2, c3, h1, h2, h3, h4, h5, h6, h7⟩ := h
  exact ⟨ns, c1, c2, c3, h1, h2, h3, h4, h5, by omega, h7⟩
theorem SAt.ne {H : Hp} {a b : Addr} {n : Nat} (h : SAt H a b n) : a ≠ b := by
  obtain ⟨ns, c1, c2, c3, h1, h2, _⟩ := h
  intro e
  subst e
  rw [h1] at h2
  have := HO.lst.inj (Option.some.inj h2)
  cases ns with
  | nil => cases this
  | cons x r => cases (List.cons.inj this).1
theorem SAt.nea {H : Hp} {a b p : Addr} {n : Nat} (h : SAt H a b n) (hp : H p = none) : p ≠ a := fun e => by
  obtain ⟨ns, c1, c2, c3, h1, _⟩ := h
  rw [e, h1] at hp
  cases hp
theorem SAt.neb {H : Hp} {a b p : Addr} {n : Nat} (h : SAt H a b n) (hp : H p = none) : p ≠ b := fun e => by
  obtain ⟨ns, c1, c2, c3, _, h1, _⟩ := h
  rw [e, h1] at hp
  cases hp
theorem SAt.ex {H H' : Hp} {a b : Addr} {n : Nat} (h : SAt H a b n) (e : Ex H H') : SAt H' a b n := by
  obtain ⟨ns, c1, c2, c3, h1, h2, r⟩ := h
  exact ⟨ns, c1, c2, c3, e _ _ h1, e _ _ h2, r⟩
theorem SAt.upd {H : Hp} {a b p : Addr} {n : Nat} {o : HO} (h : SAt H a b n) (ha : p ≠ a) (hb : p ≠ b) : SAt (upd H p o) a b n := by
  obtain ⟨ns, c1, c2, c3, h1, h2, r⟩ := h
  exact ⟨ns, c1, c2, c3, by rw [upd_ne ha.symm]; exact h1, by rw [upd_ne hb.symm]; exact h2, r⟩

/-- the promise's heaps: all but the stream stands as it stood -/
abbrev ExS (a b : Addr) (H H' : Hp) : Prop := Ex (hid a b H) (hid a b H')
theorem ExS.at {a b p : Addr} {H H' : Hp} {o : HO} (e : ExS a b H H') (h : H p = some o) (ha : p ≠ a) (hb : p ≠ b) : H' p = some o :=
  hid_ex _ _ (e p o (by rw [hid_ne ha hb]; exact h))

theorem ExS.upda {a b : Addr} {H H1 : Hp} {o : HO} (p : ExS a b H H1) : ExS a b H (L2.upd H1 a o) := by
  show Ex _ (hid a b (L2.upd H1 a o))
  rw [hid_upda]
  exact p
theorem ExS.updb {a b : Addr} {H H1 : Hp} {o : HO} (p : ExS a b H H1) : ExS a b H (L2.upd H1 b o) := by
  show Ex _ (hid a b (L2.upd H1 b o))
  rw [hid_updb]
  exact p
theorem ExS.new {a b c : Addr} {H H1 : Hp} {o : HO} (p : ExS a b H H1) (n : H1 c = none) : ExS a b H (L2.upd H1 c o) := p.trans (hid_mono (Ex.new n))
theorem ExS.own {a b p : Addr} {H H1 : Hp} {o : HO} (e : ExS a b H H1) (hp : H p = none) (pa : p ≠ a) (pb : p ≠ b) : ExS a b H (L2.upd H1 p o) := by
  show Ex _ (hid a b (L2.upd H1 p o))
  rw [hid_upd pa pb]
  exact e.mut (hid_none hp)
theorem sz_m {n : Nat} (h : n ≤ 1000000) : n < sizeLine := Nat.lt_of_le_of_lt h (by decide)
theorem sz_le {n : Nat} (h : n ≤ 1000000) : n ≤ sizeLine := Nat.le_of_lt (sz_m h)
theorem ExS.back {a b p : Addr} {H H' : Hp} {n : Nat} (e : ExS a b H H') (S' : SAt H' a b n) (h : H' p = none) : H p = none := by
  cases q : H p with
  | none => rfl
  | some o =>
    rw [e.at q (S'.nea h) (S'.neb h)] at h
    cases h
theorem get_ints {ns : List Int} {i : Nat} {x : V} (h : (ns.map V.int)[i]? = some x) : ∃ c, ns[i]? = some c ∧ x = .int c := by
  rw [List.getElem?_map] at h
  cases e : ns[i]? with
  | none =>
    rw [e] at h
    cases h
  | some c =>
    rw [e] at h
    exact ⟨c, rfl, (Option.some.inj h).symm⟩
theorem mem_of_get {α : Type} {l : List α} {i : Nat} {x : α} (h : l[i]? = some x) : x ∈ l := by
  obtain ⟨h1, h2⟩ := List.getElem?_eq_some_iff.mp h
  rw [← h2]
  exact List.getElem_mem h1
theorem ExS.rfl {a b : Addr} {H : Hp} : ExS a b H H := Ex.refl _

/-! ### what is new since H -/
def nw (H H' : Hp) : Hp := fun z => match H z with
  | none => H' z
  | some _ => none
theorem nw_some {H H' : Hp} {z : Addr} {o : HO} (h : nw H H' z = some o) : H z = none ∧ H' z = some o := by
  unfold nw at h
  split at h
  · rename_i e
    exact ⟨e, h⟩
  · cases h
theorem nw_of {H H' : Hp} {z : Addr} {o : HO} (h : H z = none) (h' : H' z = some o) : nw H H' z = some o := by
  unfold nw
  rw [h]
  exact h'
theorem nw_le {H H' : Hp} : Ex (nw H H') H' := fun z o h => (nw_some h).2
theorem nw_hid {a b : Addr} {n : Nat} {H H' : Hp} (s : SAt H a b n) : Ex (nw H H') (hid a b H') := fun z o h => by
  obtain ⟨h1, h2⟩ := nw_some h
  rw [hid_ne (s.nea h1) (s.neb h1)]
  exact h2
theorem nw_step {a b : Addr} {n : Nat} {H H1 H2 : Hp} (s : SAt H a b n) (e : ExS a b H1 H2) : Ex (nw H H1) (nw H H2) := fun z o h => by
  obtain ⟨h1, h2⟩ := nw_some h
  exact nw_of h1 (e.at h2 (s.nea h1) (s.neb h1))
/-- what is new since a later heap is new since the earlier one -/
theorem nw_base {a b : Addr} {m : Nat} {H H1 H2 : Hp} (e : ExS a b H H1) (s : SAt H1 a b m) : Ex (nw H1 H2) (nw H H2) := fun z o h => by
  obtain ⟨h1, h2⟩ := nw_some h
  exact nw_of (e.back s h1) h2

/-! ### the heap's tuples: they never change -/
def tps (H : Hp) : Hp := fun x => match H x with
  | some (.tup xs) => some (.tup xs)
  | _ => none
theorem tps_some {H : Hp} {x : Addr} {o : HO} (h : tps H x = some o) : H x = some o ∧ ∃ xs, o = .tup xs := by
  unfold tps at h
  split at h
  · rename_i xs e
    cases h
    exact ⟨e, xs, rfl⟩
  · cases h
theorem tps_of {H : Hp} {x : Addr} {xs : List V} (h : H x = some (.tup xs)) : tps H x = some (.tup xs) := by
  unfold tps
  rw [h]
theorem tps_le {H : Hp} : Ex (tps H) H := fun x o h => (tps_some h).1
theorem tps_mono {H H' : Hp} (e : Ex H H') : Ex (tps H) (tps H') := fun x o h => by
  obtain ⟨h1, xs, rfl⟩ := tps_some h
  exact tps_of (e _ _ h1)
theorem tps_hid {a b : Addr} {n : Nat} {H H' : Hp} (e : ExS a b H H') (s : SAt H a b n) : Ex (tps H) (tps H') := fun x o h => by
  obtain ⟨h1, xs, rfl⟩ := tps_some h
  obtain ⟨ns, c1, c2, c3, ha, hb, _⟩ := s
  have xa : x ≠ a := fun z => by
    rw [z, ha] at h1
    cases h1
  have xb : x ≠ b := fun z => by
    rw [z, hb] at h1
    cases h1
  exact tps_of (e.at h1 xa xb)
/-- no tuple stands at p -/
def NoTup (H : Hp) (p : Addr) : Prop := ∀ xs, H p ≠ some (.tup xs)
theorem NoTup.lst {H : Hp} {p : Addr} {xs : List V} (h : H p = some (.lst xs)) : NoTup H p := fun ys z => by
  rw [h] at z
  cases z
theorem NoTup.none {H : Hp} {p : Addr} (h : H p = none) : NoTup H p := fun ys z => by
  rw [h] at z
  cases z
theorem tps_upd {H : Hp} {p : Addr} {o : HO} (h : NoTup H p) : Ex (tps H) (tps (L2.upd H p o)) := fun x u hx => by
  obtain ⟨h1, xs, rfl⟩ := tps_some hx
  have xp : x ≠ p := fun z => h xs (by rw [← z]; exact h1)
  exact tps_of (by rw [upd_ne xp]; exact h1)
theorem tps_tup {H : Hp} {p : Addr} {xs : List V} : tps (L2.upd H p (.tup xs)) p = some (.tup xs) := tps_of upd_same

/-! ### data on the heap -/
mutual
theorem dp_ex {K : PySem.W.Frag} {H H' : Hp} (e : Ex H H') : ∀ (d : PyData) (v : V), Dp K H v d → Dp K H' v d
  | .none, _, h => by cases h; exact .non
  | .bool b, _, h => by cases h; exact .bl _
  | .int i, _, h => by cases h; exact .int _
  | .str x, _, h => by cases h; exact .str _
  | .list ds, _, h => by
    cases h with
    | lst h1 h2 => exact .lst (ex_l e h1) (dpa_ex e ds _ h2)
  | .tuple ds, _, h => by
    cases h with
    | tup h1 h2 => exact .tup (ex_t e h1) (dpa_ex e ds _ h2)
  | .dict _, _, h => by cases h
theorem dpa_ex {K : PySem.W.Frag} {H H' : Hp} (e : Ex H H') : ∀ (ds : List PyData) (vs : List V), DpAll K H vs ds → DpAll K H' vs ds
  | [], _, h => by cases h; exact .nil
  | d :: ds, _, h => by
    cases h with
    | cons h1 h2 => exact .cons (dp_ex e d _ h1) (dpa_ex e ds _ h2)
end
theorem dp_ints {K : PySem.W.Frag} {H : Hp} : ∀ ns : List Int, DpAll K H (ns.map V.int) (ns.map PyData.int)
  | [] => .nil
  | n :: r => .cons (.int n) (dp_ints r)
theorem lay_ints : ∀ ns : List Int, PyData.canLayAll0 (ns.map PyData.int) = true
  | [] => rfl
  | n :: r => by
    show (PyData.canLay0 (.int n) && PyData.canLayAll0 (r.map PyData.int)) = true
    rw [lay_ints r]
    rfl
theorem dep_ints : ∀ ns : List Int, PyData.depthAll (ns.map PyData.int) = 0
  | [] => rfl
  | n :: r => by
    show max (PyData.depth (.int n)) (PyData.depthAll (r.map PyData.int)) = 0
    rw [dep_ints r]
    rfl
theorem shaped_ints (ns : List Int) : SeqAt.shaped (.list (ns.map PyData.int)) = true := by
  show (PyData.canLayAll0 (ns.map PyData.int) && decide (PyData.depthAll (ns.map PyData.int) + 1 ≤ 64)) = true
  rw [lay_ints, dep_ints]
  rfl
theorem eqv_ints_nil : ∀ ns : List Int, PyData.eqv (.list (ns.map PyData.int)) (.list []) = ns.isEmpty
  | [] => rfl
  | n :: r => rfl
theorem dpa_len {K : PySem.W.Frag} {H : Hp} : ∀ {vs : List V} {ds : List PyData}, DpAll K H vs ds → vs.length = ds.length
  | [], _, h => by cases h; rfl
  | v :: vs, _, h => by
    cases h with
    | cons h1 h2 => rw [List.length_cons, List.length_cons, dpa_len h2]
theorem dpa_get {K : PySem.W.Frag} {H : Hp} : ∀ {vs : List V} {ds : List PyData} {i : Nat} {v : V}, DpAll K H vs ds → vs[i]? = some v → ∃ d, ds[i]? = some d ∧ Dp K H v d
  | [], _, _, _, _, e => by simp at e
  | v :: vs, _, 0, x, h, e => by
    cases h with
    | cons h1 h2 =>
      cases (Option.some.inj e)
      exact ⟨_, rfl, h1⟩
  | v :: vs, _, i + 1, x, h, e => by
    cases h with
    | cons h1 h2 => exact dpa_get (i := i) h2 e
theorem dpa_app {K : PySem.W.Frag} {H : Hp} : ∀ {vs ws : List V} {ds es : List PyData}, DpAll K H vs ds → DpAll K H ws es → DpAll K H (vs ++ ws) (ds ++ es)
  | [], _, _, _, h, k => by cases h; exact k
  | v :: vs, _, _, _, h, k => by
    cases h with
    | cons h1 h2 => exact .cons h1 (dpa_app h2 k)

theorem Room.u65 {k : Nat} {A : Around} (r : Room k A) : A.units + 65 < cLine := by
  have := r.un
  omega
/-! ### steps -/
structure St5 where
  one : Int
  other : Int
  p : Int
  q : Int
  ticks : Int
  change : Int
  deriving DecidableEq
def stD (s : St5) : PyData := .tuple [.int s.one, .int s.other, .tuple [.int s.p, .int s.q], .int s.ticks, .int s.change]
theorem stD_inv {K : PySem.W.Frag} {H : Hp} {v : V} {s : St5} (h : Dp K H v (stD s)) : ∃ t u : Addr, v = .ref t ∧ SqT K H t [.int s.one, .int s.other, .ref u, .int s.ticks, .int s.change] ∧ SqT K H u [.int s.p, .int s.q] := by
  unfold stD at h
  cases h with
  | tup h1 h2 =>
    cases h2 with
    | cons a1 h2 =>
      cases h2 with
      | cons a2 h2 =>
        cases h2 with
        | cons a3 h2 =>
          cases h2 with
          | cons a4 h2 =>
            cases h2 with
            | cons a5 h2 =>
              cases h2
              cases a1
              cases a2
              cases a4
              cases a5
              cases a3 with
              | tup b1 b2 =>
                cases b2 with
                | cons c1 b2 =>
                  cases b2 with
                  | cons c2 b2 =>
                    cases b2
                    cases c1
                    cases c2
                    exact ⟨_, _, rfl, h1, b1⟩
theorem stD_mk {K : PySem.W.Frag} {H : Hp} {t u : Addr} {s : St5} (h1 : SqT K H t [.int s.one, .int s.other, .ref u, .int s.ticks, .int s.change]) (h2 : SqT K H u [.int s.p, .int s.q]) : Dp K H (.ref t) (stD s) :=
  .tup h1 (.cons (.int _) (.cons (.int _) (.cons (.tup h2 (.cons (.int _) (.cons (.int _) .nil))) (.cons (.int _) (.cons (.int _) .nil)))))
theorem stD_eqv (s t : St5) : PyData.eqv (stD s) (stD t) = decide (s = t) := by
  have : PyData.eqv (stD s) (stD t) = ((s.one == t.one) && ((s.other == t.other) && (((s.p == t.p) && ((s.q == t.q) && true)) && ((s.ticks == t.ticks) && ((s.change == t.change) && true))))) := rfl
  rw [this]
  cases s
  cases t
  simp only [St5.mk.injEq]
  rw [Bool.eq_iff_iff]
  simp [and_assoc]
theorem stD_lay (s : St5) : (stD s).canLay0 = true := rfl
theorem stD_depth (s : St5) : (stD s).depth = 2 := rfl
theorem stDs_lay : ∀ ss : List St5, PyData.canLayAll0 (ss.map stD) = true
  | [] => rfl
  | s :: r => by
    show (PyData.canLay0 (stD s) && PyData.canLayAll0 (r.map stD)) = true
    rw [stDs_lay r]
    rfl
theorem stDs_depth : ∀ ss : List St5, PyData.depthAll (ss.map stD) ≤ 2
  | [] => by decide
  | s :: r => by
    have := stDs_depth r
    show max (PyData.depth (stD s)) (PyData.depthAll (r.map stD)) ≤ 2
    rw [stD_depth]
    omega
theorem stD_shaped (s : St5) : SeqAt.shaped (stD s) = true := rfl
theorem stDs_shaped (ss : List St5) : SeqAt.shaped (.list (ss.map stD)) = true := by
  have h : PyData.depth (.list (ss.map stD)) ≤ 64 := by
    have := stDs_depth ss
    show PyData.depthAll (ss.map stD) + 1 ≤ 64
    omega
  show (PyData.canLayAll0 (ss.map stD) && decide (PyData.depth (.list (ss.map stD)) ≤ 64)) = true
  rw [stDs_lay, decide_eq_true h]
  rfl
/-- a step between so many places -/
structure StOk (n : Int) (s : St5) : Prop where
  o0 : 0 ≤ s.one
  o1 : s.one < n
  t0 : 0 ≤ s.other
  t1 : s.other < n
  k : 1 ≤ s.ticks
/-- and small -/
structure StSm (s : St5) : Prop where
  p0 : -9 ≤ s.p
  p1 : s.p ≤ 9
  q0 : -9 ≤ s.q
  q1 : s.q ≤ 9
  k1 : s.ticks ≤ 6
  c0 : -9 ≤ s.change
  c1 : s.change ≤ 9
/-! ### loops over enumerate(list) -/
theorem for_enumL {K : PySem.W.Frag} {a : Addr} {xs : List V} {g : TG} {tb : TS} {D : Ends} {σ : L2.St} {H : Hp} (Pv : Nat → L2.St → Hp → Prop) (h0 : Pv 0 σ H) (hl : ∀ i σ H, i ≤ xs.length → Pv i σ H → SqL K H a xs)
    (hs : ∀ (i : Nat) (x : V) (σ : L2.St) (H : Hp) (T : Addr), xs[i]? = some x → Pv i σ H → H T = none → g (.ref T) σ (upd H T (.tup [.int (i : Nat), x])) fun σ2 H2 => tb { D with nx := Pv (i + 1), ct := Pv (i + 1), bk := D.nx } σ2 H2) (hd : ∀ σ H, Pv xs.length σ H → D.nx σ H) :
    ∃ W : Nat → Nat → L2.St → Hp → Prop, (∃ m, W 0 m σ H) ∧ ∀ i m σ H, W i m σ H →
      ((Ite K a).stop i H ∧ D.nx σ H) ∨ ((Ite K a).go i H ∧ ∃ N : L2.St → Hp → Prop, (∀ σ' H', N σ' H' → ∃ m', m' < m ∧ W (i + 1) m' σ' H') ∧ ∀ x H', (Ite K a).yld i H x H' → g x σ H' fun σ2 H2 => tb { D with nx := N, ct := N, bk := D.nx } σ2 H2) := by
  refine ⟨fun i m σ H => m = xs.length - i ∧ i ≤ xs.length ∧ Pv i σ H, ⟨xs.length, by simp, Nat.zero_le _, h0⟩, ?_⟩
  rintro i m σ H ⟨rfl, hi, p⟩
  have q := hl i σ H hi p
  by_cases hlt : i < xs.length
  · refine .inr ⟨⟨xs, xs[i], q, by simp [hlt]⟩, Pv (i + 1), fun σ' H' p' => ⟨xs.length - (i + 1), by omega, rfl, hlt, p'⟩, fun x H' y => ?_⟩
    obtain ⟨T, z, rfl, hT, rfl, e⟩ := y
    exact hs i z σ _ T (e xs q) p hT
  · have e : i = xs.length := by omega
    subst e
    exact .inl ⟨⟨xs, q, Nat.le_refl _⟩, hd σ H p⟩
theorem atI_back {α : Type} {xs : List α} {i : Nat} (h : i < xs.length) : ∃ y, atI xs ((i : Int) - 1) = some y ∧ y ∈ xs := by
  cases i with
  | zero =>
    have e : ixN xs.length (((0 : Nat) : Int) - 1) = some (xs.length - 1) := by
      unfold ixN
      rw [if_neg (by omega), if_pos (by omega)]
      congr 1
      omega
    have hl : xs.length - 1 < xs.length := by omega
    refine ⟨xs[xs.length - 1], ?_, List.getElem_mem hl⟩
    unfold atI
    rw [e]
    exact List.getElem?_eq_getElem hl
  | succ i =>
    have e : ((i + 1 : Nat) : Int) - 1 = (i : Int) := by omega
    rw [e]
    have hl : i < xs.length := by omega
    exact ⟨xs[i], atI_nat (List.getElem?_eq_getElem hl), List.getElem_mem hl⟩
end AA

set_option Elab.async false
set_option linter.all false
set_option maxRecDepth 100000
set_option maxHeartbeats 4000000
namespace AA
open PySem PySem.Spec PyProof.Rows L2 Evl

section
variable {P : Program} {w : World} {K : PySem.W.Frag} {mg : Str → Option Value} {base : Heap}
def spDraw : Sp := fun vs H Q _ => ∃ (a b : Addr) (n : Nat) (m : Int), vs = [.ref a, .int m] ∧ SAt H a b n ∧ n < 1000000000 ∧ 0 < m ∧ m < 1000000000 ∧
  ∀ (H' : Hp) (i : Int), ExS a b H H' → SAt H' a b (n + 1) → 0 ≤ i → i < m → Q (.int i) H'
theorem scDraw : FnScope ["_law_stream_here", "_law_many", "_law_cell", "_law_digit", "_law_mixed_here"] ["_law_stream_here", "_law_many"] (defScope sDraw) := ⟨rfl, rfl, rfl, by decide +kernel, rfl, by decide +kernel, by decide +kernel⟩

theorem ok_draw {f : Addr} {fd : FuncData} (F : L2.Fun K "_law_draw" "_law_draw" sDraw f fd) (T : Bn mg) : FnOk P w K mg base CX0 1 f fd ["_law_stream_here", "_law_many"] spDraw := by
  refine F.ok scDraw (fun vs H Q E h => ?_) (fun cdv A outer s H vs Q E hr h => ?_)
  · obtain ⟨a, b, n, m, rfl, _⟩ := h
    rfl
  · obtain ⟨a, b, n, m, rfl, hS, hn, hm0, hm1, k⟩ := h
    refine ⟨_, pss_cons (ps_asg (pe_op op_add (pe_ix ix_list (pv 0) pe_int (fun _ _ => rfl)) pe_int) (pg_sub (pv 0) pe_int set_list))
      (Evl.pss_cut (ps_while PassesOwn.never (PW.pt (pw_and (pt_cmpR op_eq (pe_ix ix_list (pv 0) pe_int (fun _ _ => rfl)) pe_int (nomark _))
            (pw_and1 (pt_cmpR (op_neD hr.units) (pe_ix ix_list (pv 0) pe_int (fun _ _ => rfl)) (pe_lst pa_nil) (nomark _)))))
          (pss_cons (ps_set (i := 2) scDraw.nd rfl (Or.inl rfl) (pe_callB call_abs (by rfl) T.abs boot_abs (pa_cons (pe_bm PySem.F.plainAttrs_list PySem.F.slot_list_pop PySem.F.type_list_pop mt_popAt (pe_ix ix_list (pv 0) pe_int (fun _ _ => rfl)) (pa_cons pe_int pa_nil)) pa_nil)))
          (pss_cons (ps_asg (pe_op op_mod (pe_callTy call_int1 (by rfl) T.int boot_int (pa_cons (pe_op op_add (pe_op op_add (pe_op op_mul (pe_ix ix_list (pv 0) pe_int (fun _ _ => rfl)) pe_int) (pv 2)) pe_int) pa_nil)) pe_int) (pg_sub (pv 0) pe_int set_list))
          (pss_one (ps_asg (pe_ifExp (pt_cmpR op_ge (pv 2) (pe_op op_pow pe_int pe_int) (nomark _)) (pv 2) pe_int) (pg_sub (pv 0) pe_int set_list))))))
      (pss_cons (ps_if (pt_cmpR op_gt (pe_ix ix_list (pv 0) pe_int (fun _ _ => rfl)) pe_int (nomark _))
          (pss_cons (ps_set (i := 3) scDraw.nd rfl (Or.inl rfl) (pe_op op_mod (pe_callTy call_int1 (by rfl) T.int boot_int (pa_cons (pe_ix ix_list (pv 0) pe_int (fun _ _ => rfl)) pa_nil)) (pv 1)))
          (pss_cons (ps_asg (pe_op op_fdiv (pe_ix ix_list (pv 0) pe_int (fun _ _ => rfl)) (pv 1)) (pg_sub (pv 0) pe_int set_list))
          (pss_one (ps_ret (pv 3)))))
          pss_nil)
      (pss_cons (ps_set (i := 4) scDraw.nd rfl (Or.inl rfl) (pe_op op_mod (pe_callTy call_int1 (by rfl) T.int boot_int (pa_cons (pe_op op_pow (pe_op op_add (pe_op op_add (pe_ix ix_list (pv 0) pe_int (fun _ _ => rfl)) (pe_op op_mul pe_int (pe_ix ix_list (pv 0) pe_int (fun _ _ => rfl)))) pe_int) pe_int) pa_nil)) pe_int))
      (pss_one (ps_ret (pe_op op_mod (pe_op op_mod (pe_callTy call_int1 (by rfl) T.int boot_int (pa_cons (pe_op op_pow (pe_op op_add (pe_op op_add (pe_op op_mul (pv 4) pe_int) (pe_op op_mul pe_int (pe_ix ix_list (pv 0) pe_int (fun _ _ => rfl)))) pe_int) pe_int) pa_nil)) pe_int) (pv 1))))))), ?_⟩
    have hab := hS.ne
    obtain ⟨ns, c1, c2, c3, hA, hB, hl, p1, p2, p2', p3, p3'⟩ := hS
    -- stream[2] = stream[2] + 1
    refine ⟨_, rfl, a, _, 2, .int c2, rfl, rfl, SqL.of hA, rfl, _, _, rfl, rfl, _, rfl, a, _, 2, 2, rfl, rfl, hA, rfl, ?_⟩
    have eA : upd H a (.lst [.ref b, .int c1, .int (c2 + 1), .int c3]) a = some (.lst [.ref b, .int c1, .int (c2 + 1), .int c3]) := upd_same
    refine ⟨fun σ H2 => ∃ (ms : List Int) (d1 d3 : Int) (x2 : Option V), σ = [some (.ref a), some (.int m), x2, none, none] ∧ ExS a b H H2 ∧ H2 a = some (.lst [.ref b, .int d1, .int (c2 + 1), .int d3]) ∧
        H2 b = some (.lst (ms.map V.int)) ∧ ms.length ≤ 63 ∧ 0 ≤ d1 ∧ 0 ≤ d3 ∧ d3 < 2147483647, ?_, ?_⟩
    · refine ⟨fun mm σ H1 => ∃ (ms : List Int) (d1 d3 : Int) (x2 : Option V), σ = [some (.ref a), some (.int m), x2, none, none] ∧ ExS a b H H1 ∧ H1 a = some (.lst [.ref b, .int d1, .int (c2 + 1), .int d3]) ∧
          H1 b = some (.lst (ms.map V.int)) ∧ ms.length ≤ 63 ∧ ms.length = mm ∧ 0 ≤ d1 ∧ 0 ≤ d3 ∧ d3 < 2147483647, ⟨ns.length, ns, c1, c3, none, rfl, (ExS.rfl (H := H)).upda, eA, by rw [upd_ne hab.symm]; exact hB, hl, rfl, p1, p3, p3'⟩, ?_⟩
      rintro mm σ H1 ⟨ms, d1, d3, x2, rfl, hX, hA1, hB1, hl1, rfl, q1, q3, q3'⟩
      refine ⟨_, rfl, a, _, 1, .int d1, rfl, rfl, SqL.of hA1, rfl, rfl, _, rfl, ?_⟩
      by_cases hd : d1 = 0
      · subst hd
        refine iteT ?_
        refine ⟨_, rfl, a, _, 0, .ref b, rfl, rfl, SqL.of hA1, rfl, Nat.zero_le _, fun l hl0 => ?_⟩
        have hbl : b ≠ l := ne_of_none hB1 hl0
        have hal : a ≠ l := ne_of_none hA1 hl0
        have hB2 : upd H1 l (.lst []) b = some (.lst (ms.map V.int)) := by rw [upd_ne hbl]; exact hB1
        have hA2 : upd H1 l (.lst []) a = some (.lst [.ref b, .int 0, .int (c2 + 1), .int d3]) := by rw [upd_ne hal]; exact hA1
        refine ⟨.list (ms.map PyData.int), .list [], .lst (SqL.of hB2) (dp_ints ms), .lst (SqL.of upd_same) .nil, shaped_ints ms, rfl, _, rfl, ?_⟩
        rw [eqv_ints_nil]
        cases ms with
        | nil =>
          refine iteF ?_
          exact ⟨[], 0, d3, x2, rfl, hX.new hl0, hA2, hB2, hl1, q1, q3, q3'⟩
        | cons c ms =>
          refine iteT ?_
          refine ⟨fun σ H3 => ∃ (d1 d3 : Int) (x2 : Option V), σ = [some (.ref a), some (.int m), x2, none, none] ∧ ExS a b H H3 ∧ H3 a = some (.lst [.ref b, .int d1, .int (c2 + 1), .int d3]) ∧
            H3 b = some (.lst (ms.map V.int)) ∧ 0 ≤ d1 ∧ 0 ≤ d3 ∧ d3 < 2147483647, ?_, ?_⟩
          · rintro σ' H' ⟨d1, d3, x2, e, z1, z2, z3, z4, z5, z6⟩
            exact ⟨ms.length, Nat.lt_succ_self _, ms, d1, d3, x2, e, z1, z2, z3, by have : (c :: ms).length ≤ 63 := hl1; rw [List.length_cons] at this; omega, rfl, z4, z5, z6⟩
          · -- cell = abs(stream[0].pop(0))
            refine ⟨_, rfl, a, _, 0, .ref b, rfl, rfl, SqL.of hA2, rfl, .inl ⟨rfl, _, SqL.of hB2⟩, b, _, 0, 0, .int c, rfl, rfl, hB2, by decide, by decide, seqIndex_of (k := 0) (by decide) (by show (0 : Int) < (((c :: ms).map V.int).length : Int); rw [List.length_map, List.length_cons]; omega), rfl, _, rfl, ?_⟩
            have hA3 : upd (upd H1 l (.lst [])) b (.lst (ms.map V.int)) a = some (.lst [.ref b, .int 0, .int (c2 + 1), .int d3]) := by rw [upd_ne hab]; exact hA2
            -- stream[3] = int(stream[3] * 8191 + cell + 3) % 2147483647
            generalize hcell : (if c < 0 then -c else c) = cell
            have hc0 : 0 ≤ cell := by rw [← hcell]; split <;> omega
            refine ⟨_, rfl, a, _, 3, .int d3, rfl, rfl, SqL.of hA3, rfl, _, _, rfl, rfl, .inr ⟨by decide, by decide⟩, _, rfl, _, _, rfl, rfl, _, _, rfl, rfl, .inl ⟨_, rfl, ?_⟩⟩
            refine ⟨_, _, rfl, rfl, (by show (0 : Int) < 2147483647; decide), _, rfl, a, _, 3, 3, rfl, rfl, hA3, rfl, ?_⟩
            -- stream[1] = cell if cell >= 10 ** 18 else 0
            refine ⟨_, rfl, _, _, rfl, rfl, ⟨by decide, by decide, by decide⟩, _, _, rfl, rfl, _, rfl, ?_⟩
            refine ite2 (fun _ => ?_) (fun _ => ?_)
            · refine ⟨_, rfl, _, rfl, a, _, 1, 1, rfl, rfl, upd_same, rfl, ?_⟩
              exact ⟨cell, _, _, rfl, (((hX.new hl0).updb).upda).upda, upd_same, by rw [upd_ne hab.symm, upd_ne hab.symm, upd_same]; rfl, hc0, Int.emod_nonneg _ (by decide), Int.emod_lt_of_pos _ (by decide)⟩
            · refine ⟨_, rfl, a, _, 1, 1, rfl, rfl, upd_same, rfl, ?_⟩
              exact ⟨0, _, _, rfl, (((hX.new hl0).updb).upda).upda, upd_same, by rw [upd_ne hab.symm, upd_ne hab.symm, upd_same]; rfl, Int.le_refl _, Int.emod_nonneg _ (by decide), Int.emod_lt_of_pos _ (by decide)⟩
      · have e : decide (V.int d1 = V.int 0) = false := decide_eq_false (fun e => hd (V.int.inj e))
        rw [e]
        refine iteF ?_
        refine iteF ?_
        exact ⟨ms, d1, d3, x2, rfl, hX, hA1, hB1, hl1, q1, q3, q3'⟩
    · rintro σ H2 ⟨ms, d1, d3, x2, rfl, hX, hA2, hB2, hl2, q1, q3, q3'⟩
      refine ⟨_, rfl, a, _, 1, .int d1, rfl, rfl, SqL.of hA2, rfl, _, _, rfl, rfl, _, rfl, ?_⟩
      refine ite2 (fun hp => ?_) (fun hp => ?_)
      · refine ⟨_, rfl, a, _, 1, .int d1, rfl, rfl, SqL.of hA2, rfl, .inl ⟨_, rfl, _, rfl, _, _, rfl, rfl, hm0, ?_⟩⟩
        refine ⟨_, rfl, a, _, 1, .int d1, rfl, rfl, SqL.of hA2, rfl, _, rfl, _, _, rfl, rfl, ⟨hm0, by omega⟩, _, rfl, a, _, 1, 1, rfl, rfl, hA2, rfl, ?_⟩
        refine ⟨_, rfl, ?_⟩
        refine k _ _ hX.upda ⟨ms, d1 / m, c2 + 1, d3, upd_same, by rw [upd_ne hab.symm]; exact hB2, hl2, Int.ediv_nonneg q1 (by omega), by omega, by omega, q3, q3'⟩ (Int.emod_nonneg _ (by omega)) (Int.emod_lt_of_pos _ hm0)
      · refine ⟨_, rfl, a, _, 3, .int d3, rfl, rfl, SqL.of hA2, rfl, _, rfl, a, _, 2, .int (c2 + 1), rfl, rfl, SqL.of hA2, rfl, _, _, rfl, rfl, .inl ⟨by decide, by decide⟩, _, _, rfl, rfl, _, _, rfl, rfl, _, _, rfl, rfl, ⟨by decide, by decide, ?_⟩, .inl ⟨_, rfl, ?_⟩⟩
        · have : (2:Nat) ^ 64 = 18446744073709551616 := by decide
          rw [this]
          omega
        refine ⟨_, _, rfl, rfl, (by show (0 : Int) < 2147483629; decide), ?_⟩
        generalize hmx : ((d3 + 7919 * (c2 + 1) + 104729) ^ (5 : Int).toNat % 2147483629 : Int) = mx
        have hx0 : 0 ≤ mx := by rw [← hmx]; exact Int.emod_nonneg _ (by decide)
        have hx1 : mx < 2147483629 := by rw [← hmx]; exact Int.emod_lt_of_pos _ (by decide)
        refine ⟨_, rfl, _, _, rfl, rfl, .inr ⟨by decide, by decide⟩, _, rfl, a, _, 2, .int (c2 + 1), rfl, rfl, SqL.of hA2, rfl, _, _, rfl, rfl, .inl ⟨by decide, by decide⟩, _, _, rfl, rfl, _, _, rfl, rfl, _, _, rfl, rfl, ⟨by decide, by decide, ?_⟩, .inl ⟨_, rfl, ?_⟩⟩
        · have : (2:Nat) ^ 64 = 18446744073709551616 := by decide
          rw [this]
          omega
        refine ⟨_, _, rfl, rfl, (by show (0 : Int) < 1000000007; decide), _, rfl, _, _, rfl, rfl, hm0, ?_⟩
        exact k _ _ hX ⟨ms, d1, c2 + 1, d3, hA2, hB2, hl2, q1, by omega, by omega, q3, q3'⟩ (Int.emod_nonneg _ (by omega)) (Int.emod_lt_of_pos _ hm0)
end
end AA

set_option Elab.async false
set_option linter.all false
set_option maxRecDepth 100000
set_option maxHeartbeats 4000000
namespace AA
open PySem PySem.Spec PyProof.Rows L2 Evl
section
variable {P : Program} {w : World} {K : PySem.W.Frag} {mg : Str → Option Value} {base : Heap}
/-! ### _law_stream -/
def spStream (K : PySem.W.Frag) : Sp := fun vs H Q _ => ∃ (s : Addr) (ns : List Int), vs = [.ref s] ∧ SqL K H s (ns.map V.int) ∧ ns.length ≤ 63 ∧
  ∀ (H' : Hp) (a b : Addr), Ex H H' → H a = none → H b = none → SAt H' a b 0 → Q (.ref a) H'
theorem scStream : FnScope ["_law_script"] ["_law_script"] (defScope sStream) := ⟨rfl, rfl, rfl, by decide +kernel, rfl, by decide +kernel, by decide +kernel⟩
theorem ok_stream {f : Addr} {fd : FuncData} (F : L2.Fun K "_law_stream" "_law_stream" sStream f fd) (T : Bn mg) : FnOk P w K mg base CX0 1 f fd ["_law_script"] (spStream K) := by
  refine F.ok scStream (fun vs H Q E h => ?_) (fun cdv A outer s H vs Q E hr h => ?_)
  · obtain ⟨a, ns, rfl, _⟩ := h
    rfl
  · obtain ⟨s0, ns, rfl, hS, hl, k⟩ := h
    refine ⟨_, pss_one (ps_ret (pe_lst (pa_cons (pe_callTy call_list_of (by rfl) T.list boot_list (pa_cons (pv 0) pa_nil)) (pa_cons pe_int (pa_cons pe_int (pa_cons pe_int pa_nil)))))), ?_⟩
    refine ⟨_, rfl, s0, _, rfl, .inl hS, fun b hb => ⟨by show 4 ≤ sizeLine; decide, fun a ha => ?_⟩⟩
    have hba : b ≠ a := ne_of_none upd_same ha
    have ha0 : H a = none := fresh_back (Ex.new hb) ha
    exact k _ a b ((Ex.new hb).trans (Ex.new ha)) ha0 hb ⟨ns, 0, 0, 17, upd_same, by rw [upd_ne hba]; exact upd_same, hl, by decide, by decide, by decide, by decide, by decide⟩

/-! ### _law_pick -/
def spPick (K : PySem.W.Frag) : Sp := fun vs H Q _ => ∃ (a b : Addr) (n : Nat) (t : Addr) (xs : List V), vs = [.ref a, .ref t] ∧ SAt H a b n ∧ n < 1000000000 ∧ SqL K (hid a b H) t xs ∧ 0 < xs.length ∧ xs.length < 1000000 ∧
  ∀ (H' : Hp) (i : Nat) (x : V), ExS a b H H' → SAt H' a b (n + 1) → xs[i]? = some x → Q x H'
theorem scPick : FnScope ["_law_stream_here", "_law_things"] ["_law_stream_here", "_law_things"] (defScope sPick) := ⟨rfl, rfl, rfl, by decide +kernel, rfl, by decide +kernel, by decide +kernel⟩
theorem ok_pick {f : Addr} {fd : FuncData} (F : L2.Fun K "_law_pick" "_law_pick" sPick f fd) (T : Bn mg) (cD : C8.Cal P w K mg base 1 "_law_draw" spDraw []) : FnOk P w K mg base CX0 2 f fd ["_law_stream_here", "_law_things"] (spPick K) := by
  refine F.ok scPick (fun vs H Q E h => ?_) (fun cdv A outer s H vs Q E hr h => ?_)
  · obtain ⟨a, b, n, t, xs, rfl, _⟩ := h
    rfl
  · obtain ⟨a, b, n, t, xs, rfl, hS, hn, hX, h0, h1, k⟩ := h
    refine ⟨_, pss_one (ps_ret (pe_ix ix_list (pv 1) (C8.pe_c cD hr (by decide) (by rfl) (pa_cons (pv 0) (pa_cons (pe_callB call_len_seq (by rfl) T.len PySem.boot_len (pa_cons (pv 1) pa_nil)) pa_nil))) (fun _ _ => rfl))), ?_⟩
    refine ⟨_, rfl, _, rfl, _, rfl, t, xs, rfl, .inl (ex_l hid_ex hX), a, b, n, _, rfl, hS, hn, by omega, by omega, fun H' i hE hS' i0 i1 => ?_⟩
    obtain ⟨j, rfl⟩ : ∃ j : Nat, i = (j : Int) := ⟨i.toNat, by omega⟩
    have hj : j < xs.length := by omega
    refine ⟨t, xs, (j : Int), xs[j], rfl, rfl, ex_l (hid_ex) (ex_l hE hX), atI_nat (List.getElem?_eq_getElem hj), ?_⟩
    exact k H' j _ hE hS' (List.getElem?_eq_getElem hj)

/-! ### _law_mixed -/
def spMixed (K : PySem.W.Frag) : Sp := fun vs H Q _ => ∃ (a b : Addr) (n : Nat) (t : Addr) (xs : List V), vs = [.ref a, .ref t] ∧ SAt H a b n ∧ SqL K (hid a b H) t xs ∧ n + xs.length < 1000000000 ∧ xs.length < 1000000 ∧
  ∀ (H' : Hp) (p : Addr) (ys : List V), ExS a b H H' → SAt H' a b (n + xs.length) → H p = none → H' p = some (.lst ys) → ys.Perm xs → Q (.ref p) H'
theorem scMixed : FnScope ["_law_stream_here", "_law_things", "_law_left_here", "_law_found", "_law_k"] ["_law_stream_here", "_law_things"] (defScope sMixed) := ⟨rfl, rfl, rfl, by decide +kernel, rfl, by decide +kernel, by decide +kernel⟩
theorem perm_erase {α : Type} : ∀ {l : List α} {i : Nat} {x : α}, l[i]? = some x → (x :: l.eraseIdx i).Perm l
  | [], _, _, h => by simp at h
  | y :: r, 0, x, h => by
    cases (Option.some.inj h)
    exact List.Perm.refl _
  | y :: r, i + 1, x, h => by
    have h' : r[i]? = some x := h
    have ih := perm_erase h'
    exact (List.Perm.swap y x _).trans (ih.cons y)
theorem ok_mixed {f : Addr} {fd : FuncData} (F : L2.Fun K "_law_mixed" "_law_mixed" sMixed f fd) (T : Bn mg) (cD : C8.Cal P w K mg base 1 "_law_draw" spDraw []) : FnOk P w K mg base CX0 2 f fd ["_law_stream_here", "_law_things"] (spMixed K) := by
  refine F.ok scMixed (fun vs H Q E h => ?_) (fun cdv A outer s H vs Q E hr h => ?_)
  · obtain ⟨a, b, n, t, xs, rfl, _⟩ := h
    rfl
  · obtain ⟨a, b, n, t, xs, rfl, hS, hX, hn, h1, k⟩ := h
    refine ⟨_, pss_cons (ps_par (i := 2) (j := 3) (by rfl) scMixed.nd rfl rfl (by decide) rfl rfl (pa_cons (pe_callTy call_list_of (by rfl) T.list boot_list (pa_cons (pv 1) pa_nil)) (pa_cons (pe_lst pa_nil) pa_nil)) (by rfl))
      (pss_cons (ps_for PassesOwn.never rfl (pi_range1 rfl T.range (pa_cons (pe_callB call_len_seq (by rfl) T.len PySem.boot_len (pa_cons (pv 2) pa_nil)) pa_nil)) (pg_name (i := 4) scMixed.nd rfl (Or.inl rfl))
        (pss_one (ps_expr (pe_bm PySem.F.plainAttrs_list PySem.F.slot_list_append PySem.F.type_list_append mt_append (pv 3)
          (pa_cons (pe_bm PySem.F.plainAttrs_list PySem.F.slot_list_pop PySem.F.type_list_pop mt_popAt (pv 2) (pa_cons (C8.pe_c cD hr (by decide) (by rfl) (pa_cons (pv 0) (pa_cons (pe_callB call_len_seq (by rfl) T.len PySem.boot_len (pa_cons (pv 2) pa_nil)) pa_nil))) pa_nil)) pa_nil)))))
      (pss_one (ps_ret (pv 3)))), ?_⟩
    refine ⟨_, rfl, t, xs, rfl, .inl (ex_l hid_ex hX), fun l hl => ⟨Nat.zero_le _, fun g hg => ?_⟩⟩
    have hlg : l ≠ g := ne_of_none upd_same hg
    have hg0 : H g = none := fresh_back (Ex.new hl) hg
    have ee : Ex H (upd (upd H l (.lst xs)) g (.lst [])) := (Ex.new hl).trans (Ex.new hg)
    have hL : upd (upd H l (.lst xs)) g (.lst []) l = some (.lst xs) := by rw [upd_ne hlg]; exact upd_same
    refine ⟨_, _, rfl, ?_⟩
    refine ⟨_, rfl, l, xs, rfl, .inl (SqL.of hL), (xs.length : Int), rfl, ?_, ?_, for_range (lo := 0) (n := ((xs.length : Int)).toNat) (fun i σ H1 => ∃ (zs ys : List V) (x4 : Option V), σ = [some (.ref a), some (.ref t), some (.ref l), some (.ref g), x4] ∧
        ExS a b H H1 ∧ SAt H1 a b (n + i) ∧ H1 l = some (.lst zs) ∧ H1 g = some (.lst ys) ∧ (ys ++ zs).Perm xs ∧ ys.length = i) ?_ ?_ ?_⟩
    · omega
    · omega
    · exact ⟨xs, [], none, rfl, hid_mono ee, hS.ex ee, hL, upd_same, List.Perm.refl _, rfl⟩
    · rintro i σ H1 hi ⟨zs, ys, x4, rfl, hE, hS1, hL1, hG1, hp, hy⟩
      have hlen := hp.length_eq
      rw [List.length_append] at hlen
      have hz : 0 < zs.length := by omega
      refine ⟨_, rfl, .inl ⟨rfl, _, SqL.of hG1⟩, _, rfl, .inl ⟨rfl, _, SqL.of hL1⟩, _, rfl, _, rfl, l, zs, rfl, .inl (SqL.of hL1), a, b, n + i, _, rfl, hS1, by omega, by omega, by omega, fun H2 j hE2 hS2 j0 j1 => ?_⟩
      obtain ⟨j, rfl⟩ : ∃ m : Nat, j = (m : Int) := ⟨j.toNat, by omega⟩
      have hj : j < zs.length := by omega
      have la := hS.nea hl
      have lb := hS.neb hl
      have ga := hS.nea hg0
      have gb := hS.neb hg0
      have hL2 := hE2.at hL1 la lb
      have hG2 := hE2.at hG1 ga gb
      refine ⟨l, zs, (j : Int), j, zs[j], rfl, rfl, hL2, by omega, by omega, by rw [seqIndex_of (by omega) (by omega)]; rfl, List.getElem?_eq_getElem hj, ?_⟩
      have hG3 : upd H2 l (.lst (zs.eraseIdx j)) g = some (.lst ys) := by rw [upd_ne hlg.symm]; exact hG2
      refine ⟨g, ys, _, rfl, rfl, hG3, by rw [hy]; exact sz_m (by omega), ?_⟩
      refine ⟨zs.eraseIdx j, ys ++ [zs[j]], _, rfl, ?_, ((hS2.upd la lb).upd ga gb), by rw [upd_ne hlg]; exact upd_same, upd_same, ?_, by rw [List.length_append, hy]; rfl⟩
      · exact ExS.own (ExS.own (hE.trans hE2) hl la lb) hg0 ga gb
      · have q := perm_erase (List.getElem?_eq_getElem hj)
        rw [List.append_assoc]
        exact (List.Perm.append_left ys q).trans hp
    · rintro σ H1 ⟨zs, ys, x4, rfl, hE, hS1, hL1, hG1, hp, hy⟩
      have e : (xs.length : Int).toNat = xs.length := by omega
      have hz : zs = [] := by
        have hlen := hp.length_eq
        rw [List.length_append] at hlen
        exact List.eq_nil_of_length_eq_zero (by omega)
      subst hz
      rw [List.append_nil] at hp
      rw [e] at hS1
      exact ⟨_, rfl, k H1 g ys hE hS1 hg0 hG1 hp⟩
end
end AA

set_option Elab.async false
set_option linter.all false
set_option maxRecDepth 100000
set_option maxHeartbeats 4000000
namespace AA
open PySem PySem.Spec PyProof.Rows L2 Evl
section
variable {P : Program} {w : World} {K : PySem.W.Frag} {mg : Str → Option Value} {base : Heap}
/-! ### _law_amounts -/
def spAmounts : Sp := fun vs H Q _ => ∃ (a b : Addr) (n : Nat) (m : Int), vs = [.ref a, .int m] ∧ SAt H a b n ∧ n < 900000000 ∧
  ∀ (H' : Hp) (p : Addr) (x y : Int), ExS a b H H' → SAt H' a b (n + 2) → H p = none → H' p = some (.tup [.int x, .int y]) → -9 ≤ x → x ≤ 9 → -9 ≤ y → y ≤ 9 → Q (.ref p) H'
theorem scAmounts : FnScope ["_law_stream_here", "_law_way"] ["_law_stream_here", "_law_way"] (defScope sAmounts) := ⟨rfl, rfl, rfl, by decide +kernel, rfl, by decide +kernel, by decide +kernel⟩
theorem dec_int {x y : Int} : decide (V.int x = V.int y) = decide (x = y) := by
  by_cases h : x = y
  · subst h
    rw [decide_eq_true rfl, decide_eq_true rfl]
  · rw [decide_eq_false h, decide_eq_false (fun e => h (V.int.inj e))]
theorem dec_ite {A B : Prop} {p : Prop} [Decidable p] (h1 : p → A) (h2 : ¬ p → B) : if decide p = true then A else B := by
  by_cases h : p
  · rw [if_pos (decide_eq_true h)]
    exact h1 h
  · rw [if_neg (by rw [decide_eq_false h]; exact Bool.false_ne_true)]
    exact h2 h
theorem ok_amounts {f : Addr} {fd : FuncData} (F : L2.Fun K "_law_amounts" "_law_amounts" sAmounts f fd) (T : Bn mg) (cD : C8.Cal P w K mg base 1 "_law_draw" spDraw []) (cP : C8.Cal P w K mg base 2 "_law_pick" (spPick K) []) :
    FnOk P w K mg base CX0 3 f fd ["_law_stream_here", "_law_way"] spAmounts := by
  refine F.ok scAmounts (fun vs H Q E h => ?_) (fun cdv A outer s H vs Q E hr h => ?_)
  · obtain ⟨a, b, n, m, rfl, _⟩ := h
    rfl
  · obtain ⟨a, b, n, m, rfl, hS, hn, k⟩ := h
    refine ⟨_, pss_cons (ps_if (pt_cmpR op_eq (pv 1) pe_int (nomark _)) (pss_one (ps_ret (pe_tup (pa_cons (C8.pe_c cD hr (by decide) (by rfl) (pa_cons (pv 0) (pa_cons pe_int pa_nil))) (pa_cons (C8.pe_c cD hr (by decide) (by rfl) (pa_cons (pv 0) (pa_cons pe_int pa_nil))) pa_nil))))) pss_nil)
      (pss_cons (ps_if (pt_cmpR op_eq (pv 1) pe_int (nomark _)) (pss_one (ps_ret (pe_tup (pa_cons (pe_op op_sub (C8.pe_c cD hr (by decide) (by rfl) (pa_cons (pv 0) (pa_cons pe_int pa_nil))) pe_int) (pa_cons (pe_op op_sub (C8.pe_c cD hr (by decide) (by rfl) (pa_cons (pv 0) (pa_cons pe_int pa_nil))) pe_int) pa_nil))))) pss_nil)
      (pss_cons (ps_if (pt_cmpR op_eq (pv 1) pe_int (nomark _)) (pss_one (ps_ret (pe_tup (pa_cons (pe_op op_sub (C8.pe_c cD hr (by decide) (by rfl) (pa_cons (pv 0) (pa_cons pe_int pa_nil))) pe_int) (pa_cons (pe_op op_sub (C8.pe_c cD hr (by decide) (by rfl) (pa_cons (pv 0) (pa_cons pe_int pa_nil))) pe_int) pa_nil))))) pss_nil)
      (pss_one (ps_ret (pe_tup (pa_cons (C8.pe_c cP hr (by decide) (by rfl) (pa_cons (pv 0) (pa_cons (pe_lst (pa_cons pe_int (pa_cons pe_int (pa_cons pe_int (pa_cons pe_int (pa_cons pe_int pa_nil)))))) pa_nil)))
        (pa_cons (C8.pe_c cP hr (by decide) (by rfl) (pa_cons (pv 0) (pa_cons (pe_lst (pa_cons pe_int (pa_cons pe_int (pa_cons pe_int (pa_cons pe_int (pa_cons pe_int pa_nil)))))) pa_nil))) pa_nil))))))), ?_⟩
    refine ⟨_, rfl, rfl, _, rfl, ?_⟩
    refine ite2 (fun _ => ?_) (fun _ => ?_)
    · refine ⟨_, rfl, a, b, n, _, rfl, hS, by omega, by decide, by decide, fun H1 x e1 s1 x0 x1 => ?_⟩
      refine ⟨_, rfl, a, b, n + 1, _, rfl, s1, by omega, by decide, by decide, fun H2 y e2 s2 y0 y1 => ?_⟩
      refine ⟨by show 2 ≤ sizeLine; decide, fun p hp => ?_⟩
      exact k _ p x y (ExS.new (e1.trans e2) hp) (s2.ex (Ex.new hp)) (ExS.back (e1.trans e2) s2 hp) upd_same (by omega) (by omega) (by omega) (by omega)
    · refine ⟨_, rfl, rfl, _, rfl, ?_⟩
      refine ite2 (fun _ => ?_) (fun _ => ?_)
      · refine ⟨_, rfl, a, b, n, _, rfl, hS, by omega, by decide, by decide, fun H1 x e1 s1 x0 x1 => ?_⟩
        refine ⟨_, _, rfl, rfl, _, rfl, a, b, n + 1, _, rfl, s1, by omega, by decide, by decide, fun H2 y e2 s2 y0 y1 => ?_⟩
        refine ⟨_, _, rfl, rfl, by show 2 ≤ sizeLine; decide, fun p hp => ?_⟩
        exact k _ p (x - 4) (y - 4) (ExS.new (e1.trans e2) hp) (s2.ex (Ex.new hp)) (ExS.back (e1.trans e2) s2 hp) upd_same (by omega) (by omega) (by omega) (by omega)
      · refine ⟨_, rfl, rfl, _, rfl, ?_⟩
        refine ite2 (fun _ => ?_) (fun _ => ?_)
        · refine ⟨_, rfl, a, b, n, _, rfl, hS, by omega, by decide, by decide, fun H1 x e1 s1 x0 x1 => ?_⟩
          refine ⟨_, _, rfl, rfl, _, rfl, a, b, n + 1, _, rfl, s1, by omega, by decide, by decide, fun H2 y e2 s2 y0 y1 => ?_⟩
          refine ⟨_, _, rfl, rfl, by show 2 ≤ sizeLine; decide, fun p hp => ?_⟩
          exact k _ p (x - 9) (y - 9) (ExS.new (e1.trans e2) hp) (s2.ex (Ex.new hp)) (ExS.back (e1.trans e2) s2 hp) upd_same (by omega) (by omega) (by omega) (by omega)
        · refine ⟨_, rfl, by show 5 ≤ sizeLine; decide, fun l hl => ?_⟩
          have la := hS.nea hl
          have lb := hS.neb hl
          refine ⟨a, b, n, l, _, rfl, hS.upd la lb, by omega, SqL.of (by rw [hid_ne la lb]; exact upd_same), by decide, by decide, fun H1 i x e1 s1 hi => ?_⟩
          obtain ⟨c, hc, rfl⟩ := get_ints (ns := [0, 0, 0, 1, 3]) hi
          have hc1 : ∀ z ∈ ([0, 0, 0, 1, 3] : List Int), -9 ≤ z ∧ z ≤ 9 := by decide
          have hcb := hc1 c (mem_of_get hc)
          refine ⟨_, rfl, by show 5 ≤ sizeLine; decide, fun l2 hl2 => ?_⟩
          have la2 := s1.nea hl2
          have lb2 := s1.neb hl2
          refine ⟨a, b, n + 1, l2, _, rfl, s1.upd la2 lb2, by omega, SqL.of (by rw [hid_ne la2 lb2]; exact upd_same), by decide, by decide, fun H2 i2 y e2 s2 hi2 => ?_⟩
          obtain ⟨d, hd, rfl⟩ := get_ints (ns := [0, 0, 0, 1, 2]) hi2
          have hd1 : ∀ z ∈ ([0, 0, 0, 1, 2] : List Int), -9 ≤ z ∧ z ≤ 9 := by decide
          have hdb := hd1 d (mem_of_get hd)
          have ee : ExS a b H H2 := (hid_mono (Ex.new hl)).trans (e1.trans ((hid_mono (Ex.new hl2)).trans e2))
          refine ⟨by show 2 ≤ sizeLine; decide, fun p hp => ?_⟩
          exact k _ p c d (ExS.new ee hp) (s2.ex (Ex.new hp)) (ExS.back ee s2 hp) upd_same hcb.1 hcb.2 hdb.1 hdb.2
end
end AA

set_option Elab.async false
set_option linter.all false
set_option maxRecDepth 100000
set_option maxHeartbeats 4000000
namespace AA
open PySem PySem.Spec PyProof.Rows L2 Evl
section
variable {P : Program} {w : World} {K : PySem.W.Frag} {mg : Str → Option Value} {base : Heap}
/-! ### _law_step -/
def spStep (K : PySem.W.Frag) : Sp := fun vs H Q _ => ∃ (a b : Addr) (n : Nat) (o t m : Int), vs = [.ref a, .int o, .int t, .int m] ∧ SAt H a b n ∧ n < 800000000 ∧
  ∀ (H' : Hp) (p : Addr) (s : St5), ExS a b H H' → SAt H' a b (n + 5) → H p = none → Dp K (tps H') (.ref p) (stD s) → s.one = o → s.other = t → 1 ≤ s.ticks → StSm s → Q (.ref p) H'
theorem scStep : FnScope ["_law_stream_here", "_law_one", "_law_other", "_law_way", "_law_ticks", "_law_change"] ["_law_stream_here", "_law_one", "_law_other", "_law_way"] (defScope sStep) := ⟨rfl, rfl, rfl, by decide +kernel, rfl, by decide +kernel, by decide +kernel⟩
theorem ok_step {f : Addr} {fd : FuncData} (F : L2.Fun K "_law_step" "_law_step" sStep f fd) (T : Bn mg) (cD : C8.Cal P w K mg base 1 "_law_draw" spDraw []) (cP : C8.Cal P w K mg base 2 "_law_pick" (spPick K) []) (cA : C8.Cal P w K mg base 3 "_law_amounts" spAmounts []) :
    FnOk P w K mg base CX0 4 f fd ["_law_stream_here", "_law_one", "_law_other", "_law_way"] (spStep K) := by
  refine F.ok scStep (fun vs H Q E h => ?_) (fun cdv A outer s H vs Q E hr h => ?_)
  · obtain ⟨a, b, n, o, t, m, rfl, _⟩ := h
    rfl
  · obtain ⟨a, b, n, o, t, m, rfl, hS, hn, k⟩ := h
    refine ⟨_, pss_cons (ps_set (i := 4) scStep.nd rfl (Or.inl rfl) (pe_op op_add pe_int (C8.pe_c cD hr (by decide) (by rfl) (pa_cons (pv 0) (pa_cons (C8.pe_c cP hr (by decide) (by rfl) (pa_cons (pv 0) (pa_cons (pe_lst (pa_cons pe_int (pa_cons pe_int (pa_cons pe_int pa_nil)))) pa_nil))) pa_nil)))))
      (pss_cons (ps_set (i := 5) scStep.nd rfl (Or.inl rfl) (C8.pe_c cP hr (by decide) (by rfl) (pa_cons (pv 0) (pa_cons (pe_lst (pa_cons pe_int (pa_cons pe_int (pa_cons pe_int (pa_cons (pe_un un_neg pe_int) (pa_cons pe_int (pa_cons (pe_un un_neg pe_int) (pa_cons pe_int (pa_cons (pe_un un_neg pe_int) (pa_cons pe_int pa_nil)))))))))) pa_nil))))
      (pss_one (ps_ret (pe_tup (pa_cons (pv 1) (pa_cons (pv 2) (pa_cons (C8.pe_c cA hr (by decide) (by rfl) (pa_cons (pv 0) (pa_cons (pv 3) pa_nil))) (pa_cons (pv 4) (pa_cons (pv 5) pa_nil))))))))), ?_⟩
    -- ticks
    refine ⟨_, rfl, _, rfl, by show 3 ≤ sizeLine; decide, fun l hl => ?_⟩
    have la := hS.nea hl
    have lb := hS.neb hl
    refine ⟨a, b, n, l, _, rfl, hS.upd la lb, by omega, SqL.of (by rw [hid_ne la lb]; exact upd_same), by decide, by decide, fun H1 i x e1 s1 hi => ?_⟩
    obtain ⟨c, hc, rfl⟩ := get_ints (ns := [1, 2, 6]) hi
    have hc1 : ∀ z ∈ ([1, 2, 6] : List Int), 1 ≤ z ∧ z ≤ 6 := by decide
    have hcb := hc1 c (mem_of_get hc)
    refine ⟨a, b, n + 1, c, rfl, s1, by omega, by omega, by omega, fun H2 d e2 s2 d0 d1 => ?_⟩
    refine ⟨_, _, rfl, rfl, ?_⟩
    -- change
    refine ⟨_, rfl, _, rfl, _, rfl, _, rfl, by show 9 ≤ sizeLine; decide, fun l2 hl2 => ?_⟩
    have la2 := s2.nea hl2
    have lb2 := s2.neb hl2
    refine ⟨a, b, n + 2, l2, _, rfl, s2.upd la2 lb2, by omega, SqL.of (by rw [hid_ne la2 lb2]; exact upd_same), by decide, by decide, fun H3 j y e3 s3 hj => ?_⟩
    obtain ⟨g, hg, rfl⟩ := get_ints (ns := [0, 0, 1, -1, 2, -3, 5, -9, 9]) hj
    have hg1 : ∀ z ∈ ([0, 0, 1, -1, 2, -3, 5, -9, 9] : List Int), -9 ≤ z ∧ z ≤ 9 := by decide
    have hgb := hg1 g (mem_of_get hg)
    have ee : ExS a b H H3 := (hid_mono (Ex.new hl)).trans (e1.trans (e2.trans ((hid_mono (Ex.new hl2)).trans e3)))
    refine ⟨_, rfl, _, rfl, _, rfl, _, rfl, a, b, n + 3, m, rfl, s3, by omega, fun H4 u x y e4 s4 hu hu4 x0 x1 y0 y1 => ?_⟩
    refine ⟨_, rfl, _, rfl, by show 5 ≤ sizeLine; decide, fun p hp => ?_⟩
    have hpu : u ≠ p := ne_of_none hu4 hp
    have hu0 := ExS.back ee s3 hu
    have ua := s3.nea hu
    have ub := s3.neb hu
    have hp0 := ExS.back (ee.trans e4) s4 hp
    have pa := s4.nea hp
    have pb := s4.neb hp
    refine k _ p ⟨o, t, x, y, 1 + d, g⟩ (ExS.new (ee.trans e4) hp) (s4.ex (Ex.new hp)) hp0 (stD_mk (u := u) (SqT.of tps_tup) (SqT.of (tps_of ?_))) rfl rfl (by show 1 ≤ 1 + d; omega) ⟨x0, x1, y0, y1, by show 1 + d ≤ 6; omega, hgb.1, hgb.2⟩
    rw [upd_ne hpu]
    exact hu4
end
end AA

set_option Elab.async false
set_option linter.all false
set_option maxRecDepth 100000
set_option maxHeartbeats 4000000
namespace AA
open PySem PySem.Spec PyProof.Rows L2 Evl
theorem cut_to (xs : List V) (j : Nat) : cutV xs none (some (j : Int)) = xs.take j := by
  unfold cutV
  rw [HT.sIx_none, HT.sIx_nat, List.drop_zero, Nat.sub_zero]
  by_cases h : j ≤ xs.length
  · rw [Nat.min_eq_left h]
  · rw [Nat.min_eq_right (by omega), List.take_of_length_le (by omega), List.take_of_length_le (by omega)]
theorem perm_ints {ys : List V} {ns : List Int} (h : ys.Perm (ns.map V.int)) : ∃ ms : List Int, ys = ms.map V.int ∧ ms.Perm ns := by
  have all : ∀ (ys : List V), (∀ y ∈ ys, ∃ i, y = V.int i) → ∃ ms : List Int, ys = ms.map V.int := by
    intro ys
    induction ys with
    | nil => exact fun _ => ⟨[], rfl⟩
    | cons y r ih =>
      intro q
      obtain ⟨i, rfl⟩ := q y List.mem_cons_self
      obtain ⟨ms, rfl⟩ := ih fun z hz => q z (List.mem_cons_of_mem _ hz)
      exact ⟨i :: ms, rfl⟩
  obtain ⟨ms, rfl⟩ := all ys fun y hy => by
    obtain ⟨i, _, e⟩ := List.mem_map.mp (h.mem_iff.mp hy)
    exact ⟨i, e.symm⟩
  refine ⟨ms, rfl, ?_⟩
  have key := h.map (fun v => match v with | V.int i => i | _ => 0)
  rw [List.map_map, List.map_map] at key
  have e : (fun v => match v with | V.int i => i | _ => (0 : Int)) ∘ V.int = id := rfl
  rw [e, List.map_id, List.map_id] at key
  exact key
theorem rgV_ints (n : Int) : rgV 0 n = ((List.range n.toNat).map (fun i : Nat => (i : Int))).map V.int := by
  unfold rgV
  rw [List.map_map]
  have e : (n - 0).toNat = n.toNat := by congr 1; omega
  rw [e]
  apply List.map_congr_left
  intro i _
  show V.int (0 + (i : Int)) = V.int (i : Int)
  rw [Int.zero_add]
theorem range_nodup (n : Nat) : ((List.range n).map (fun i : Nat => (i : Int))).Nodup := by
  have h : (List.range n).Nodup := List.nodup_range
  rw [List.Nodup, List.pairwise_map]
  exact h.imp fun {x y} q z => q (by omega)
/-- a web as the laws draw it: places, unlike steps between them, small -/
structure WbOk (n : Int) (ss : List St5) : Prop where
  n1 : 1 ≤ n
  ok : ∀ s ∈ ss, StOk n s
  sm : ∀ s ∈ ss, StSm s
  nd : ss.Nodup
theorem WbOk.perm {n : Int} {ss ts : List St5} (h : WbOk n ss) (p : ts.Perm ss) : WbOk n ts := ⟨h.n1, fun s hs => h.ok s (p.mem_iff.mp hs), fun s hs => h.sm s (p.mem_iff.mp hs), p.symm.nodup h.nd⟩
theorem any_eqv (ss : List St5) (s : St5) : ((ss.map stD).any fun z => PyData.eqv z (stD s)) = decide (s ∈ ss) := by
  induction ss with
  | nil => rfl
  | cons t r ih =>
    rw [List.map_cons, List.any_cons, ih, stD_eqv]
    by_cases h : t = s
    · subst h
      rw [decide_eq_true rfl, decide_eq_true List.mem_cons_self]
      rfl
    · rw [decide_eq_false h]
      by_cases q : s ∈ r
      · rw [decide_eq_true q, decide_eq_true (List.mem_cons_of_mem _ q)]
        rfl
      · rw [decide_eq_false q, decide_eq_false (fun z => (List.mem_cons.mp z).elim (fun e => h e.symm) q)]
        rfl
/-- a permutation of items goes with one of what they say -/
theorem dpa_perm {K : PySem.W.Frag} {H : Hp} {xs ys : List V} (p : ys.Perm xs) : ∀ {ss : List St5}, DpAll K H xs (ss.map stD) → ∃ ts : List St5, ts.Perm ss ∧ DpAll K H ys (ts.map stD) := by
  induction p with
  | nil => exact fun {ss} h => ⟨ss, List.Perm.refl _, h⟩
  | @cons x l1 l2 _ ih =>
    intro ss h
    cases ss with
    | nil => cases h
    | cons s r =>
      cases h with
      | cons h1 h2 =>
        obtain ⟨ts, q, k⟩ := ih h2
        exact ⟨s :: ts, q.cons s, .cons h1 k⟩
  | swap x y l =>
    intro ss h
    cases ss with
    | nil => cases h
    | cons s r =>
      cases r with
      | nil =>
        cases h with
        | cons h1 h2 => cases h2
      | cons t r =>
        cases h with
        | cons h1 h2 =>
          cases h2 with
          | cons h2 h3 => exact ⟨t :: s :: r, List.Perm.swap s t r, .cons h2 (.cons h1 h3)⟩
  | trans _ _ ih1 ih2 =>
    intro ss h
    obtain ⟨ts, q, k⟩ := ih2 h
    obtain ⟨us, q2, k2⟩ := ih1 k
    exact ⟨us, q2.trans q, k2⟩
section
variable {P : Program} {w : World} {K : PySem.W.Frag} {mg : Str → Option Value} {base : Heap}
/-! ### _law_web -/
def spWeb (K : PySem.W.Frag) : Sp := fun vs H Q _ => ∃ (a b : Addr) (n : Nat) (o m : Int), vs = [.ref a, .int o, .int m] ∧ SAt H a b n ∧ n < 700000000 ∧ 1 ≤ o ∧ o ≤ 100 ∧ o ≤ m ∧ m ≤ 1000 ∧
  ∀ (H' : Hp) (p l : Addr) (k : Int) (vs : List V) (ss : List St5), ExS a b H H' → SAt H' a b (n + 20000) → H p = none → H l = none → H' p = some (.tup [.int k, .ref l]) → H' l = some (.lst vs) → DpAll K (tps H') vs (ss.map stD) → WbOk k ss → k ≤ o → (ss.length : Int) ≤ m → Q (.ref p) H'
theorem scWeb : FnScope ["_law_stream_here", "_law_most", "_law_many", "_law_places", "_law_way", "_law_found", "_law_ring", "_law_at", "_law_place", "_law_k", "_law_step_here"] ["_law_stream_here", "_law_most", "_law_many"] (defScope sWeb) := ⟨rfl, rfl, rfl, by decide +kernel, rfl, by decide +kernel, by decide +kernel⟩
theorem ok_web {f : Addr} {fd : FuncData} (F : L2.Fun K "_law_web" "_law_web" sWeb f fd) (T : Bn mg) (cD : C8.Cal P w K mg base 1 "_law_draw" spDraw []) (cM : C8.Cal P w K mg base 2 "_law_mixed" (spMixed K) []) (cS : C8.Cal P w K mg base 4 "_law_step" (spStep K) []) :
    FnOk P w K mg base CX0 5 f fd ["_law_stream_here", "_law_most", "_law_many"] (spWeb K) := by
  refine F.ok scWeb (fun vs H Q E h => ?_) (fun cdv A outer s H vs Q E hr h => ?_)
  · obtain ⟨a, b, n, o, m, rfl, _⟩ := h
    rfl
  · obtain ⟨a, b, n, o, m, rfl, hS, hn, o1, o2, om, m2, k⟩ := h
    refine ⟨_, Evl.pss_cut (ps_asg (pe_tup (pa_cons (pe_op op_add pe_int (C8.pe_c cD hr (by decide) (by rfl) (pa_cons (pv 0) (pa_cons (pv 1) pa_nil)))) (pa_cons (C8.pe_c cD hr (by decide) (by rfl) (pa_cons (pv 0) (pa_cons pe_int pa_nil))) (pa_cons (pe_lst pa_nil) (pa_cons (pe_lst pa_nil) pa_nil)))))
        (pg_tup rfl (pgs_cons (pg_name (i := 3) scWeb.nd rfl (.inl rfl)) (pgs_cons (pg_name (i := 4) scWeb.nd rfl (.inl rfl)) (pgs_cons (pg_name (i := 5) scWeb.nd rfl (.inl rfl)) (pgs_cons (pg_name (i := 6) scWeb.nd rfl (.inl rfl)) pgs_nil))))))
      (Evl.pss_cut (ps_if (pt_cmpR op_gt (C8.pe_c cD hr (by decide) (by rfl) (pa_cons (pv 0) (pa_cons pe_int pa_nil))) pe_int (nomark _))
          (pss_one (ps_set (i := 6) scWeb.nd rfl (Or.inl rfl) (pe_slice sl_list (C8.pe_c cM hr (by decide) (by rfl) (pa_cons (pv 0) (pa_cons (pe_listRg (by rfl) (by rfl) T.list (prg_1 (by rfl) T.range (pv 3))) pa_nil))) po_none (po_some (pe_op op_add pe_int (C8.pe_c cD hr (by decide) (by rfl) (pa_cons (pv 0) (pa_cons (pv 3) pa_nil)))))))) pss_nil)
      (Evl.pss_cut (ps_for PassesOwn.never rfl (pi_enum (by rfl) T.enumerate (pa_cons (pv 6) pa_nil)) (pg_tup rfl (pgs_cons (pg_name (i := 7) scWeb.nd rfl (.inl rfl)) (pgs_cons (pg_name (i := 8) scWeb.nd rfl (.inl rfl)) pgs_nil)))
          (pss_one (ps_expr (pe_bm PySem.F.plainAttrs_list PySem.F.slot_list_append PySem.F.type_list_append mt_append (pv 5) (pa_cons (C8.pe_c cS hr (by decide) (by rfl) (pa_cons (pv 0) (pa_cons (pe_ix ix_list (pv 6) (pe_op op_sub (pv 7) pe_int) (fun _ _ => rfl)) (pa_cons (pv 8) (pa_cons (pv 4) pa_nil))))) pa_nil)))))
      (Evl.pss_cut (ps_for PassesOwn.never rfl (pi_range1 rfl T.range (pa_cons (C8.pe_c cD hr (by decide) (by rfl) (pa_cons (pv 0) (pa_cons (pe_op op_add (pe_op op_sub (pv 2) (pe_callB call_len_seq (by rfl) T.len PySem.boot_len (pa_cons (pv 5) pa_nil))) pe_int) pa_nil))) pa_nil)) (pg_name (i := 9) scWeb.nd rfl (Or.inl rfl))
          (pss_cons (ps_set (i := 10) scWeb.nd rfl (Or.inl rfl) (C8.pe_c cS hr (by decide) (by rfl) (pa_cons (pv 0) (pa_cons (C8.pe_c cD hr (by decide) (by rfl) (pa_cons (pv 0) (pa_cons (pv 3) pa_nil))) (pa_cons (C8.pe_c cD hr (by decide) (by rfl) (pa_cons (pv 0) (pa_cons (pv 3) pa_nil))) (pa_cons (pv 4) pa_nil))))))
          (pss_one (ps_expr (pe_bm PySem.F.plainAttrs_list PySem.F.slot_list_extend PySem.F.type_list_extend mt_extend (pv 5) (pa_cons (pe_ifExp (pt_cmpR (op_notInD (Room.u65 hr)) (pv 10) (pv 5) (by rfl)) (pe_lst (pa_cons (pv 10) pa_nil)) (pe_lst pa_nil)) pa_nil))))))
      (pss_one (ps_ret (pe_tup (pa_cons (pv 3) (pa_cons (C8.pe_c cM hr (by decide) (by rfl) (pa_cons (pv 0) (pa_cons (pv 5) pa_nil))) pa_nil)))))))), ?_⟩
    -- places, way, found, ring
    refine ⟨fun σ H1 => ∃ (k y : Int) (g r : Addr), σ = [some (.ref a), some (.int o), some (.int m), some (.int k), some (.int y), some (.ref g), some (.ref r), none, none, none, none] ∧ ExS a b H H1 ∧ SAt H1 a b (n + 2) ∧
      H g = none ∧ H r = none ∧ g ≠ r ∧ H1 g = some (.lst []) ∧ H1 r = some (.lst []) ∧ 1 ≤ k ∧ k ≤ o, ?_, ?_⟩
    · refine ⟨_, rfl, _, rfl, a, b, n, o, rfl, hS, by omega, by omega, by omega, fun H1 d e1 s1 d0 d1 => ?_⟩
      refine ⟨_, _, rfl, rfl, _, rfl, a, b, n + 1, _, rfl, s1, by omega, by decide, by decide, fun H2 y e2 s2 y0 y1 => ?_⟩
      refine ⟨Nat.zero_le _, fun g hg => ⟨Nat.zero_le _, fun r hr0 => ?_⟩⟩
      have hgr : g ≠ r := ne_of_none upd_same hr0
      have hr1 : H2 r = none := by
        rw [upd_ne hgr.symm] at hr0
        exact hr0
      refine ⟨by show 4 ≤ sizeLine; decide, fun T hT => ?_⟩
      have hTr : r ≠ T := ne_of_none upd_same hT
      have hT1 : upd H2 g (.lst []) T = none := by
        rw [upd_ne hTr.symm] at hT
        exact hT
      have hTg : g ≠ T := ne_of_none upd_same hT1
      refine ⟨T, _, rfl, SqT.of upd_same, rfl, _, _, rfl, _, _, rfl, _, _, rfl, _, _, rfl, rfl, ?_⟩
      have e3 : ExS a b H H2 := e1.trans e2
      refine ⟨1 + d, y, g, r, rfl, ExS.new (ExS.new (ExS.new e3 hg) hr0) hT, ((s2.ex (Ex.new hg)).ex (Ex.new hr0)).ex (Ex.new hT), ExS.back e3 s2 hg, ExS.back e3 s2 hr1, hgr, ?_, ?_, by omega, by omega⟩
      · rw [upd_ne hTg, upd_ne hgr]
        exact upd_same
      · rw [upd_ne hTr]
        exact upd_same
    rintro σ H1 ⟨c, y, g, r, rfl, hE1, hS1, hg, hr1, hgr, hG1, hR1, c1, c2⟩
    have ga := hS.nea hg
    have gb := hS.neb hg
    -- ring
    refine ⟨fun σ H2 => ∃ (r : Addr) (ms : List Int), σ = [some (.ref a), some (.int o), some (.int m), some (.int c), some (.int y), some (.ref g), some (.ref r), none, none, none, none] ∧ ExS a b H H2 ∧ SAt H2 a b (n + 200) ∧
      H r = none ∧ g ≠ r ∧ H2 g = some (.lst []) ∧ H2 r = some (.lst (ms.map V.int)) ∧ ms.Nodup ∧ (∀ x ∈ ms, 0 ≤ x ∧ x < c) ∧ (ms.length : Int) ≤ c, ?_, ?_⟩
    · refine ⟨_, rfl, a, b, n + 2, _, rfl, hS1, by omega, by decide, by decide, fun H2 d e2 s2 d0 d1 => ?_⟩
      refine ⟨_, _, rfl, rfl, _, rfl, ?_⟩
      have hE2 : ExS a b H H2 := hE1.trans e2
      have hG2 : H2 g = some (.lst []) := e2.at hG1 ga gb
      have ra := hS.nea hr1
      have rb := hS.neb hr1
      have hR2 : H2 r = some (.lst []) := e2.at hR1 ra rb
      refine ite2 (fun _ => ?_) (fun _ => ?_)
      · refine ⟨_, rfl, _, rfl, _, rfl, RgOk.of_le (by omega) (by omega) (by omega) (by omega), fun q hq => ?_⟩
        have qa := s2.nea hq
        have qb := s2.neb hq
        have hqg : g ≠ q := ne_of_none hG2 hq
        have hlen : (rgV 0 c).length = c.toNat := by
          rw [rgV_length]
          congr 1
          omega
        refine ⟨a, b, n + 3, q, rgV 0 c, rfl, s2.upd qa qb, SqL.of (by rw [hid_ne qa qb]; exact upd_same), by omega, by omega, fun H3 p zs e3 s3 hp hP hperm => ?_⟩
        rw [rgV_ints] at hperm
        obtain ⟨ms, rfl, hms⟩ := perm_ints hperm
        have hnd : ms.Nodup := hms.symm.nodup (range_nodup _)
        have hml : ms.length = c.toNat := by rw [hms.length_eq, List.length_map, List.length_range]
        have hmb : ∀ x ∈ ms, 0 ≤ x ∧ x < c := fun x hx => by
          obtain ⟨i, hi, rfl⟩ := List.mem_map.mp (hms.mem_iff.mp hx)
          have := List.mem_range.mp hi
          omega
        have hE3 : ExS a b H H3 := hE2.trans ((hid_mono (Ex.new hq)).trans e3)
        have hG3 : H3 g = some (.lst []) := e3.at (by rw [upd_ne hqg]; exact hG2) ga gb
        -- [: 1 + draw]
        refine ⟨_, rfl, _, rfl, a, b, n + 3 + (rgV 0 c).length, c, rfl, s3, by omega, by omega, by omega, fun H4 d2 e4 s4 d20 d21 => ?_⟩
        refine ⟨_, _, rfl, rfl, _, rfl, ?_⟩
        have hq0 : H2 p = none := by
          have : upd H2 q (.lst (rgV 0 c)) p = none := hp
          by_cases hpq : p = q
          · rw [hpq]
            exact hq
          · rw [upd_ne hpq] at this
            exact this
        have hp0 : H p = none := ExS.back hE2 s2 hq0
        have hpa := hS.nea hp0
        have hpb := hS.neb hp0
        have hP4 : H4 p = some (.lst (ms.map V.int)) := e4.at hP hpa hpb
        have hG4 : H4 g = some (.lst []) := e4.at hG3 ga gb
        obtain ⟨j, hj⟩ : ∃ j : Nat, 1 + d2 = (j : Int) := ⟨(1 + d2).toNat, by omega⟩
        refine ⟨p, _, rfl, SqL.of hP4, fun u hu => ?_⟩
        rw [hj, cut_to, ← List.map_take]
        have hug : g ≠ u := ne_of_none hG4 hu
        refine ⟨u, ms.take j, rfl, ExS.new (hE3.trans e4) hu, (s4.ex (Ex.new hu)).mono (by omega), ExS.back (hE3.trans e4) s4 hu, hug, by rw [upd_ne hug]; exact hG4, upd_same, ?_, fun x hx => hmb x (List.mem_of_mem_take hx), ?_⟩
        · exact hnd.sublist (List.take_sublist _ _)
        · rw [List.length_take]
          omega
      · refine ⟨r, [], rfl, hE2, s2.mono (by omega), hr1, hgr, hG2, hR2, List.nodup_nil, fun x hx => absurd hx (by simp), by show (0 : Int) ≤ c; omega⟩
    rintro σ H2 ⟨r, ms, rfl, hE2, hS2, hr1, hgr, hG2, hR2, hnd, hmb, hml⟩
    have ra := hS.nea hr1
    have rb := hS.neb hr1
    have hmn : ms.length ≤ 100 := by omega
    -- the ring's steps
    refine ⟨fun σ H3 => ∃ (x7 x8 : Option V) (vs : List V) (ss : List St5), σ = [some (.ref a), some (.int o), some (.int m), some (.int c), some (.int y), some (.ref g), some (.ref r), x7, x8, none, none] ∧ ExS a b H H3 ∧ SAt H3 a b (n + 1000) ∧
      H3 g = some (.lst vs) ∧ DpAll K (tps H3) vs (ss.map stD) ∧ WbOk c ss ∧ (ss.length : Int) ≤ c, ?_, ?_⟩
    · refine ⟨_, rfl, r, _, rfl, SqL.of hR2, for_enumL (K := K) (a := r) (xs := ms.map V.int) (fun i σ H3 => ∃ (x7 x8 : Option V) (vs : List V) (ss : List St5), σ = [some (.ref a), some (.int o), some (.int m), some (.int c), some (.int y), some (.ref g), some (.ref r), x7, x8, none, none] ∧
        ExS a b H H3 ∧ SAt H3 a b (n + 200 + 5 * i) ∧ H3 g = some (.lst vs) ∧ H3 r = some (.lst (ms.map V.int)) ∧ DpAll K (tps H3) vs (ss.map stD) ∧ WbOk c ss ∧ ss.length = i ∧ ss.map (·.other) = ms.take i) ?_ ?_ ?_ ?_⟩
      · exact ⟨none, none, [], [], rfl, hE2, hS2, hG2, hR2, .nil, ⟨c1, fun s hs => absurd hs (by simp), fun s hs => absurd hs (by simp), List.nodup_nil⟩, rfl, rfl⟩
      · rintro i σ H3 _ ⟨x7, x8, vs, ss, rfl, _, _, _, hR3, _⟩
        exact SqL.of hR3
      · rintro i x σ H3 T hi ⟨x7, x8, vs, ss, rfl, hE3, hS3, hG3, hR3, hD3, hW, hlen, hot⟩ hT
        obtain ⟨z, hz, rfl⟩ := get_ints hi
        have hil : i < ms.length := (List.getElem?_eq_some_iff.mp hz).1
        have hgT : g ≠ T := ne_of_none hG3 hT
        have hrT : r ≠ T := ne_of_none hR3 hT
        refine ⟨T, _, rfl, SqT.of upd_same, rfl, _, _, rfl, _, _, rfl, rfl, ?_⟩
        have hG4 : upd H3 T (.tup [.int (i : Nat), .int z]) g = some (.lst vs) := by rw [upd_ne hgT]; exact hG3
        have hR4 : upd H3 T (.tup [.int (i : Nat), .int z]) r = some (.lst (ms.map V.int)) := by rw [upd_ne hrT]; exact hR3
        obtain ⟨u, hu, hum⟩ := atI_back (xs := ms.map V.int) (i := i) (by rw [List.length_map]; exact hil)
        obtain ⟨ui, hui, rfl⟩ := List.mem_map.mp hum
        refine ⟨_, rfl, .inl ⟨rfl, _, SqL.of hG4⟩, _, rfl, _, rfl, _, rfl, _, _, rfl, rfl, r, _, _, V.int ui, rfl, rfl, SqL.of hR4, hu, _, rfl, _, rfl, ?_⟩
        have s4 := hS3.ex (Ex.new (o := .tup [.int (i : Nat), .int z]) hT)
        refine ⟨a, b, n + 200 + 5 * i, ui, z, y, rfl, s4, by omega, fun H4 p st e4 s5 hp hd so st' k1 sm => ?_⟩
        have hG5 := e4.at hG4 ga gb
        have hR5 := e4.at hR4 ra rb
        refine ⟨g, vs, .ref p, rfl, rfl, hG5, ?_, ?_⟩
        · rw [dpa_len hD3, List.length_map, hlen]
          exact sz_m (by omega)
        · have hEE : ExS a b H H4 := Ex.trans (ExS.new hE3 hT) e4
          have tp : Ex (tps H3) (tps (upd H4 g (.lst (vs ++ [.ref p])))) := ((tps_mono (Ex.new hT)).trans (tps_hid e4 s4)).trans (tps_upd (NoTup.lst hG5))
          refine ⟨_, _, vs ++ [.ref p], ss ++ [st], rfl, ExS.own hEE hg ga gb, (s5.upd ga gb).mono (by omega), upd_same, by rw [upd_ne hgr.symm]; exact hR5, ?_, ?_, by rw [List.length_append, hlen]; rfl, ?_⟩
          · rw [List.map_append]
            exact dpa_app (dpa_ex tp _ _ hD3) (.cons (dp_ex (tps_upd (NoTup.lst hG5)) _ _ hd) .nil)
          · have hzm := hmb z (mem_of_get hz)
            have hum2 := hmb ui hui
            refine ⟨c1, fun s hs => ?_, fun s hs => ?_, ?_⟩
            · rcases List.mem_append.mp hs with hs | hs
              · exact hW.ok s hs
              · obtain rfl := List.mem_singleton.mp hs
                exact ⟨by omega, by omega, by omega, by omega, k1⟩
            · rcases List.mem_append.mp hs with hs | hs
              · exact hW.sm s hs
              · obtain rfl := List.mem_singleton.mp hs
                exact sm
            · refine List.nodup_append.mpr ⟨hW.nd, List.nodup_cons.mpr ⟨by simp, List.nodup_nil⟩, fun x hx y2 hy e => ?_⟩
              obtain rfl := List.mem_singleton.mp hy
              subst e
              have h1 : x.other ∈ ms.take i := by
                rw [← hot]
                exact List.mem_map.mpr ⟨x, hx, rfl⟩
              rw [st'] at h1
              obtain ⟨j, hj, e⟩ := List.mem_iff_getElem.mp h1
              rw [List.getElem_take] at e
              rw [List.length_take] at hj
              have := (List.getElem?_eq_some_iff.mp hz).2
              rw [← this] at e
              have := (List.getElem_inj hnd).mp e
              omega
          · rw [List.map_append, hot, List.take_add_one, hz]
            show _ ++ [st.other] = _ ++ [z]
            rw [st']
      · rintro σ H3 ⟨x7, x8, vs, ss, rfl, hE3, hS3, hG3, hR3, hD3, hW, hlen, hot⟩
        rw [List.length_map] at hlen hS3
        exact ⟨x7, x8, vs, ss, rfl, hE3, hS3.mono (by omega), hG3, hD3, hW, by omega⟩
    rintro σ H3 ⟨x7, x8, vs, ss, rfl, hE3, hS3, hG3, hD3, hW, hlen⟩
    -- more steps
    refine ⟨fun σ H4 => ∃ (x7 x8 x9 x10 : Option V) (vs : List V) (ss : List St5), σ = [some (.ref a), some (.int o), some (.int m), some (.int c), some (.int y), some (.ref g), some (.ref r), x7, x8, x9, x10] ∧ ExS a b H H4 ∧ SAt H4 a b (n + 10000) ∧
      H4 g = some (.lst vs) ∧ DpAll K (tps H4) vs (ss.map stD) ∧ WbOk c ss ∧ (ss.length : Int) ≤ m, ?_, ?_⟩
    · have hvl := dpa_len hD3
      rw [List.length_map] at hvl
      refine ⟨_, rfl, _, rfl, _, rfl, g, vs, rfl, .inl (SqL.of hG3), _, _, rfl, rfl, _, _, rfl, rfl, a, b, n + 1000, _, rfl, hS3, by omega, by rw [hvl]; omega, by rw [hvl]; omega, fun H4 t e4 s4 t0 t1 => ?_⟩
      rw [hvl] at t1
      refine ⟨t, rfl, by omega, by omega, for_range (lo := 0) (n := t.toNat) (fun i σ H4 => ∃ (x9 x10 : Option V) (vs : List V) (ss : List St5), σ = [some (.ref a), some (.int o), some (.int m), some (.int c), some (.int y), some (.ref g), some (.ref r), x7, x8, x9, x10] ∧
        ExS a b H H4 ∧ SAt H4 a b (n + 1001 + 7 * i) ∧ H4 g = some (.lst vs) ∧ DpAll K (tps H4) vs (ss.map stD) ∧ WbOk c ss ∧ (ss.length : Int) + (t - i) ≤ m) ?_ ?_ ?_⟩
      · exact ⟨none, none, vs, ss, rfl, hE3.trans e4, s4, e4.at hG3 ga gb, dpa_ex (tps_hid e4 hS3) _ _ hD3, hW, by omega⟩
      · rintro i σ H5 hi ⟨x9, x10, vs, ss, rfl, hE5, hS5, hG5, hD5, hW5, hl5⟩
        have hvl := dpa_len hD5
        rw [List.length_map] at hvl
        -- step_here
        refine ⟨_, rfl, _, rfl, _, rfl, a, b, n + 1001 + 7 * i, c, rfl, hS5, by omega, by omega, by omega, fun H6 d1 e6 s6 d10 d11 => ?_⟩
        refine ⟨_, rfl, _, rfl, a, b, n + 1001 + 7 * i + 1, c, rfl, s6, by omega, by omega, by omega, fun H7 d2 e7 s7 d20 d21 => ?_⟩
        refine ⟨_, rfl, a, b, n + 1001 + 7 * i + 2, d1, d2, y, rfl, s7, by omega, fun H8 p st e8 s8 hp hd so st' k1 sm => ?_⟩
        have hE8 : ExS a b H H8 := hE5.trans (e6.trans (e7.trans e8))
        have hG8 : H8 g = some (.lst vs) := e8.at (e7.at (e6.at hG5 ga gb) ga gb) ga gb
        have hD8 : DpAll K (tps H8) vs (ss.map stD) := dpa_ex (((tps_hid e6 hS5).trans (tps_hid e7 s6)).trans (tps_hid e8 s7)) _ _ hD5
        refine ⟨_, rfl, .inl ⟨rfl, _, SqL.of hG8⟩, _, rfl, _, rfl, stD st, ss.map stD, dp_ex tps_le _ _ hd, .lst (SqL.of hG8) (dpa_ex tps_le _ _ hD8), stD_shaped st, stDs_shaped ss, _, rfl, ?_⟩
        rw [any_eqv]
        have stok : StOk c st := ⟨by omega, by omega, by omega, by omega, k1⟩
        by_cases hin : st ∈ ss
        · rw [decide_eq_true hin]
          refine iteF ?_
          refine ⟨Nat.zero_le _, fun u hu => ?_⟩
          have hgu : g ≠ u := ne_of_none hG8 hu
          have hG9 : upd H8 u (.lst []) g = some (.lst vs) := by rw [upd_ne hgu]; exact hG8
          refine ⟨g, u, vs, [], rfl, rfl, hG9, upd_same, by rw [hvl, List.length_nil, Nat.add_zero]; exact sz_le (by omega), ?_⟩
          rw [List.append_nil]
          refine ⟨_, _, vs, ss, rfl, ExS.own (ExS.new hE8 hu) hg ga gb, ((s8.ex (Ex.new hu)).upd ga gb).mono (by omega), upd_same, dpa_ex ((tps_mono (Ex.new hu)).trans (tps_upd (NoTup.lst hG9))) _ _ hD8, hW5, by omega⟩
        · rw [decide_eq_false hin]
          refine iteT ?_
          refine ⟨_, rfl, by show 1 ≤ sizeLine; decide, fun u hu => ?_⟩
          have hgu : g ≠ u := ne_of_none hG8 hu
          have hG9 : upd H8 u (.lst [.ref p]) g = some (.lst vs) := by rw [upd_ne hgu]; exact hG8
          refine ⟨g, u, vs, [.ref p], rfl, rfl, hG9, upd_same, by rw [hvl, List.length_singleton]; exact sz_le (by omega), ?_⟩
          have tp : Ex (tps H8) (tps (upd (upd H8 u (.lst [.ref p])) g (.lst (vs ++ [.ref p])))) := (tps_mono (Ex.new hu)).trans (tps_upd (NoTup.lst hG9))
          refine ⟨_, _, vs ++ [.ref p], ss ++ [st], rfl, ExS.own (ExS.new hE8 hu) hg ga gb, ((s8.ex (Ex.new hu)).upd ga gb).mono (by omega), upd_same, ?_, ?_, by rw [List.length_append, List.length_singleton]; omega⟩
          · rw [List.map_append]
            exact dpa_app (dpa_ex tp _ _ hD8) (.cons (dp_ex tp _ _ hd) .nil)
          · refine ⟨c1, fun s hs => ?_, fun s hs => ?_, ?_⟩
            · rcases List.mem_append.mp hs with hs | hs
              · exact hW5.ok s hs
              · obtain rfl := List.mem_singleton.mp hs
                exact stok
            · rcases List.mem_append.mp hs with hs | hs
              · exact hW5.sm s hs
              · obtain rfl := List.mem_singleton.mp hs
                exact sm
            · refine List.nodup_append.mpr ⟨hW5.nd, List.nodup_cons.mpr ⟨by simp, List.nodup_nil⟩, fun x hx y2 hy e => ?_⟩
              obtain rfl := List.mem_singleton.mp hy
              subst e
              exact hin hx
      · rintro σ H5 ⟨x9, x10, vs, ss, rfl, hE5, hS5, hG5, hD5, hW5, hl5⟩
        exact ⟨x7, x8, x9, x10, vs, ss, rfl, hE5, hS5.mono (by omega), hG5, hD5, hW5, by omega⟩
    rintro σ H4 ⟨x7, x8, x9, x10, vs, ss, rfl, hE4, hS4, hG4, hD4, hW4, hl4⟩
    have hvl := dpa_len hD4
    rw [List.length_map] at hvl
    refine ⟨_, rfl, _, rfl, _, rfl, a, b, n + 10000, g, vs, rfl, hS4, SqL.of (by rw [hid_ne ga gb]; exact hG4), by omega, by omega, fun H5 p ys e5 s5 hp hP hperm => ?_⟩
    obtain ⟨ts, hts, hD5⟩ := dpa_perm hperm (dpa_ex (tps_hid e5 hS4) _ _ hD4)
    refine ⟨by show 2 ≤ sizeLine; decide, fun q hq => ?_⟩
    have hpq : p ≠ q := ne_of_none hP hq
    refine k _ q p c ys ts (ExS.new (hE4.trans e5) hq) ((s5.ex (Ex.new hq)).mono (by omega)) (ExS.back (hE4.trans e5) s5 hq) (ExS.back hE4 hS4 hp) upd_same (by rw [upd_ne hpq]; exact hP) (dpa_ex (tps_mono (Ex.new hq)) _ _ hD5) (hW4.perm hts) c2 (by rw [hts.length_eq]; exact hl4)
end
end AA

set_option Elab.async false
set_option linter.all false
set_option maxRecDepth 100000
set_option maxHeartbeats 4000000
namespace AA
open PySem PySem.Spec PyProof.Rows L2 Evl
/-! ### lists for tuples, tuples for lists -/
mutual
inductive Ls : PyData → PyData → Prop
  | int (i : Int) : Ls (.int i) (.int i)
  | ll {xs ys : List PyData} : LsA xs ys → Ls (.list xs) (.list ys)
  | lt {xs ys : List PyData} : LsA xs ys → Ls (.list xs) (.tuple ys)
  | tl {xs ys : List PyData} : LsA xs ys → Ls (.tuple xs) (.list ys)
  | tt {xs ys : List PyData} : LsA xs ys → Ls (.tuple xs) (.tuple ys)
inductive LsA : List PyData → List PyData → Prop
  | nil : LsA [] []
  | cons {x y : PyData} {xs ys : List PyData} : Ls x y → LsA xs ys → LsA (x :: xs) (y :: ys)
end
theorem LsA.app : ∀ {xs ys us vs : List PyData}, LsA xs ys → LsA us vs → LsA (xs ++ us) (ys ++ vs)
  | [], _, _, _, h, k => by
    cases h
    exact k
  | x :: xs, _, _, _, h, k => by
    cases h with
    | cons h1 h2 => exact .cons h1 (LsA.app h2 k)
mutual
/-- allI in lists and tuples alone -/
def allI : PyData → Bool
  | .int _ => true
  | .list xs => allIA xs
  | .tuple xs => allIA xs
  | _ => false
def allIA : List PyData → Bool
  | [] => true
  | x :: xs => allI x && allIA xs
end
mutual
def cnt : PyData → Nat
  | .list xs => cntA xs + 1
  | .tuple xs => cntA xs + 1
  | _ => 1
def cntA : List PyData → Nat
  | [] => 0
  | x :: xs => cnt x + cntA xs
end
theorem cnt_pos : ∀ d : PyData, 1 ≤ cnt d
  | .none => Nat.le_refl _
  | .bool _ => Nat.le_refl _
  | .int _ => Nat.le_refl _
  | .str _ => Nat.le_refl _
  | .list xs => Nat.le_add_left _ _
  | .tuple xs => Nat.le_add_left _ _
  | .dict _ => Nat.le_refl _
theorem cntA_len : ∀ ds : List PyData, ds.length ≤ cntA ds
  | [] => Nat.le_refl _
  | d :: r => by
    have h1 := cnt_pos d
    have h2 := cntA_len r
    show r.length + 1 ≤ cnt d + cntA r
    omega
theorem cntA_app : ∀ (ds es : List PyData), cntA (ds ++ es) = cntA ds + cntA es
  | [], es => (Nat.zero_add _).symm
  | d :: r, es => by
    show cnt d + cntA (r ++ es) = cnt d + cntA r + cntA es
    rw [cntA_app r es, Nat.add_assoc]
theorem cntA_get {ds : List PyData} {i : Nat} {d : PyData} (h : ds[i]? = some d) : cntA (ds.take (i + 1)) = cntA (ds.take i) + cnt d := by
  rw [List.take_add_one, h]
  show cntA (ds.take i ++ [d]) = _
  rw [cntA_app]
  rfl
theorem cntA_take_le (ds : List PyData) (i : Nat) : cntA (ds.take i) ≤ cntA ds := by
  have : cntA ds = cntA (ds.take i ++ ds.drop i) := by rw [List.take_append_drop]
  rw [this, cntA_app]
  omega
theorem allIA_get : ∀ {ds : List PyData} {i : Nat} {d : PyData}, allIA ds = true → ds[i]? = some d → allI d = true
  | [], _, _, _, e => by simp at e
  | x :: xs, 0, d, h, e => by
    cases (Option.some.inj e)
    exact (Bool.and_eq_true_iff.mp h).1
  | x :: xs, i + 1, d, h, e => allIA_get (i := i) (Bool.and_eq_true_iff.mp h).2 e
theorem depthA_get : ∀ {ds : List PyData} {i : Nat} {d : PyData}, ds[i]? = some d → d.depth ≤ PyData.depthAll ds
  | [], _, _, e => by simp at e
  | x :: xs, 0, d, e => by
    cases (Option.some.inj e)
    show _ ≤ max _ _
    omega
  | x :: xs, i + 1, d, e => by
    have := depthA_get (ds := xs) (i := i) e
    show _ ≤ max _ _
    omega
theorem LsA.len : ∀ {xs ys : List PyData}, LsA xs ys → xs.length = ys.length
  | [], _, h => by
    cases h
    rfl
  | x :: xs, _, h => by
    cases h with
    | cons h1 h2 =>
      rw [List.length_cons, List.length_cons, LsA.len h2]
/-- a walk that is a list's or a tuple's -/
theorem pi_or {X : Cx} {tg l : Expr} {t1 t2 : TI} (h1 : PI X tg l t1) (h2 : PI X tg l t2) : PI X tg l (fun σ H R => t1 σ H R ∨ t2 σ H R) :=
  ⟨fun pins s σ H R I h => h.elim (h1.run pins s σ H R I) (h2.run pins s σ H R I)⟩
theorem ty_l {K : PySem.W.Frag} {H : Hp} {a : Addr} {xs : List V} (h : SqL K H a xs) : TyX K H (.ref a) (.type "list") := by
  rcases h with (h | ⟨o, h⟩) | ⟨o, its, n, h1, h2, _⟩
  · exact .base (.lst h)
  · exact .base (.frz h)
  · exact .kList h1 h2
theorem ty_t {K : PySem.W.Frag} {H : Hp} {a : Addr} {xs : List V} (h : SqT K H a xs) : TyX K H (.ref a) (.type "tuple") := by
  rcases h with (h | ⟨o, h⟩) | ⟨o, its, n, h1, h2, _⟩
  · exact .base (.tup h)
  · exact .fTuple h
  · exact .kTuple h1 h2
theorem seq_yes_l {K : PySem.W.Frag} : PySem.W.kitAny K (.type "list") [.type "list", .type "tuple"] = some true := kitAny_cons (b := true) (kit_ty (by decide +kernel)) (fun z => nomatch z) (fun _ => rfl)
theorem seq_yes_t {K : PySem.W.Frag} : PySem.W.kitAny K (.type "tuple") [.type "list", .type "tuple"] = some true :=
  kitAny_cons (b := false) (kit_ty (by decide +kernel)) (fun _ => kitAny_cons (b := true) (kit_ty (by decide +kernel)) (fun z => nomatch z) (fun _ => rfl)) (fun z => nomatch z)
theorem seq_no_i {K : PySem.W.Frag} : PySem.W.kitAny K (.type "int") [.type "list", .type "tuple"] = some false :=
  kitAny_cons (b := false) (kit_ty (by decide +kernel)) (fun _ => kitAny_cons (b := false) (kit_ty (by decide +kernel)) (fun _ => kitAny_nil) (fun z => nomatch z)) (fun z => nomatch z)
section
variable {P : Program} {w : World} {K : PySem.W.Frag} {mg : Str → Option Value} {base : Heap}
/-! ### _law_loose -/
def spLoose (K : PySem.W.Frag) (D : Nat) : Sp := fun vs H Q _ => ∃ (a b : Addr) (n : Nat) (v : V) (d : PyData), vs = [.ref a, v] ∧ SAt H a b n ∧ Dp K (hid a b H) v d ∧ allI d = true ∧ d.depth < D ∧ n + cnt d < 900000000 ∧ cnt d < 1000000 ∧
  ∀ (H' : Hp) (v' : V) (d' : PyData), ExS a b H H' → SAt H' a b (n + cnt d) → Dp K (nw H H') v' d' → Ls d d' → Q v' H'
theorem scLoose : FnScope ["_law_stream_here", "_law_thing", "_law_some", "_law_one"] ["_law_stream_here", "_law_thing"] (defScope sLoose) := ⟨rfl, rfl, rfl, by decide +kernel, rfl, by decide +kernel, by decide +kernel⟩
theorem ok_loose {f : Addr} {fd : FuncData} (F : L2.Fun K "_law_loose" "_law_loose" sLoose f fd) (T : Bn mg) (hm : mg "_law_loose" = some (.ref f)) (bL : Binds K fd ["_law_stream_here", "_law_thing"] []) (cD : C8.Cal P w K mg base 1 "_law_draw" spDraw []) :
    ∀ D : Nat, FnOk P w K mg base CX0 (D + 2) f fd ["_law_stream_here", "_law_thing"] (spLoose K D)
  | 0 => ⟨fun vs H Q E h => by
      obtain ⟨a, b, n, v, d, rfl, _⟩ := h
      rfl, fun A outer s H args us vs Q E _ _ _ _ h => by
      obtain ⟨a, b, n, v, d, _, _, _, _, h, _⟩ := h
      exact absurd h (Nat.not_lt_zero _)⟩
  | D + 1 => by
    have cL : C8.Cal P w K mg base (D + 2) "_law_loose" (spLoose K D) [] := cal_of F hm bL (ok_loose F T hm bL cD D)
    refine F.ok scLoose (fun vs H Q E h => ?_) (fun cdv A outer s H vs Q E hr h => ?_)
    · obtain ⟨a, b, n, v, d, rfl, _⟩ := h
      rfl
    · obtain ⟨a, b, n, v, d, rfl, hS, hd, hi, hdp, hn, hc, k⟩ := h
      refine ⟨_, pss_cons (ps_if (pt_val (pe_callB call_isiT (by rfl) T.isinstance boot_isinstance (pa_cons (pv 1) (pa_cons (pe_tup (pa_cons (pe_bltn (v := .ty "list") (by rfl) T.list boot_list rfl) (pa_cons (pe_bltn (v := .ty "tuple") (by rfl) T.tuple boot_tuple rfl) pa_nil))) pa_nil))))
          (pss_cons (ps_setLc (i := 2) (own := [("_law_one", 3)]) (g := gName 3) (tt := tYes) (by rfl) scLoose.nd rfl rfl (sw_true rfl rfl rfl (by decide +kernel)) (pi_or (pi_list (pv 1)) (pi_tup (pv 1))) (blkOk_by (N := ["_law_stream_here", "_law_thing", "_law_some", "_law_one"]) (sc := defScope sLoose) (by decide +kernel))
              (fun _ _ _ _ _ => pg_name (i := 3) scLoose.nd rfl (Or.inl rfl)) (fun _ _ _ _ _ => pts_nil) (fun _ _ _ _ _ => C8.pe_c cL hr (by omega) (by rfl) (pa_cons (pv 0) (pa_cons (pv 3) pa_nil))))
            (pss_one (ps_ret (pe_ifExp (pt_cmpR op_eq (C8.pe_c cD hr (by omega) (by rfl) (pa_cons (pv 0) (pa_cons pe_int pa_nil))) pe_int (nomark _)) (pv 2) (pe_callTy call_tuple_of (by rfl) T.tuple boot_tuple (pa_cons (pv 2) pa_nil)))))) pss_nil)
        (pss_one (ps_ret (pv 1))), ?_⟩
      refine ⟨_, rfl, by show 2 ≤ sizeLine; decide, fun p hp => ?_⟩
      have pa := hS.nea hp
      have pb := hS.neb hp
      have e1 : ExS a b H (upd H p (.tup [.ty "list", .ty "tuple"])) := ExS.new ExS.rfl hp
      have s1 := hS.ex (Ex.new (o := .tup [.ty "list", .ty "tuple"]) hp)
      -- the items, whatever they stand in
      have turn : ∀ (c : Addr) (xs : List V) (ds : List PyData) (L : Addr), DpAll K (hid a b H) xs ds → allIA ds = true → PyData.depthAll ds < D → n + cntA ds + 1 < 900000000 → cntA ds < 1000000 → H L = none →
          ∀ (i : Nat) (x : V) (H1 : Hp), xs[i]? = some x →
            (∃ (ys : List V) (es : List PyData), ExS a b H H1 ∧ SAt H1 a b (n + cntA (ds.take i)) ∧ H1 L = some (.lst ys) ∧ DpAll K (hid L L (nw H H1)) ys es ∧ LsA (ds.take i) es ∧ ys.length = i) →
            spLoose K D [.ref a, x] H1 (fun y H4 => ∃ acc, H4 L = some (.lst acc) ∧ acc.length < sizeLine ∧
              ∃ (ys : List V) (es : List PyData), ExS a b H (upd H4 L (.lst (acc ++ [y]))) ∧ SAt (upd H4 L (.lst (acc ++ [y]))) a b (n + cntA (ds.take (i + 1))) ∧ upd H4 L (.lst (acc ++ [y])) L = some (.lst ys) ∧
                DpAll K (hid L L (nw H (upd H4 L (.lst (acc ++ [y]))))) ys es ∧ LsA (ds.take (i + 1)) es ∧ ys.length = i + 1) E := by
        rintro c xs ds L hD hA hdep hn hc hL i x H1 hi ⟨ys, es, hE, hS1, hL1, hY, hLs, hyl⟩
        obtain ⟨di, hdi, hx⟩ := dpa_get hD hi
        have h1 := cntA_take_le ds (i + 1)
        rw [cntA_get hdi] at h1
        have hlen := cntA_len ds
        have hil : i < ds.length := (List.getElem?_eq_some_iff.mp hdi).1
        have la := hS.nea hL
        have lb := hS.neb hL
        refine ⟨a, b, n + cntA (ds.take i), x, di, rfl, hS1, dp_ex hE _ _ hx, allIA_get hA hdi, Nat.lt_of_le_of_lt (depthA_get hdi) hdep, by omega, by omega, fun H2 v' d' e2 s2 hv' hls => ?_⟩
        have hL2 : H2 L = some (.lst ys) := e2.at hL1 la lb
        have ups : Ex (hid L L (nw H H2)) (hid L L (nw H (upd H2 L (.lst (ys ++ [v']))))) := fun z o hz => by
          obtain ⟨z1, z2, _⟩ := hid_some hz
          obtain ⟨z3, z4⟩ := nw_some z1
          rw [hid_ne z2 z2]
          exact nw_of z3 (by rw [upd_ne z2]; exact z4)
        refine ⟨ys, hL2, by rw [hyl]; exact sz_m (by omega), ys ++ [v'], es ++ [d'], ExS.own (hE.trans e2) hL la lb, ?_, upd_same, ?_, ?_, by rw [List.length_append, hyl]; rfl⟩
        · rw [cntA_get hdi, ← Nat.add_assoc]
          exact s2.upd la lb
        · refine dpa_app (dpa_ex ((hid_mono (nw_step hS e2)).trans ups) _ _ hY) (.cons (dp_ex (Ex.trans (fun z o hz => ?_) ups) _ _ hv') .nil)
          obtain ⟨z1, z2⟩ := nw_some hz
          have zL : z ≠ L := fun q => by
            rw [q, hL1] at z1
            cases z1
          rw [hid_ne zL zL]
          exact nw_of (hE.back hS1 z1) z2
        · rw [List.take_add_one, hdi]
          exact LsA.app hLs (.cons hls .nil)
      -- behind the comprehension: what is handed back
      have fin1 : ∀ (ds : List PyData) (L : Addr) (ys : List V) (es : List PyData) (H1 H2 : Hp), H L = none → ExS a b H H1 → SAt H1 a b (n + cntA ds) → H1 L = some (.lst ys) → DpAll K (hid L L (nw H H1)) ys es → (Ls d (.list es) ∧ Ls d (.tuple es)) → cnt d = cntA ds + 1 →
          ExS a b H1 H2 → SAt H2 a b (n + cntA ds + 1) → Q (.ref L) H2 ∧ SqL K H2 L ys ∧ ∀ u, H2 u = none → Q (.ref u) (upd H2 u (.tup ys)) := by
        intro ds L ys es H1 H2 hL hE hS1 hL1 hY hls hcd e2 s2
        have la := hS.nea hL
        have lb := hS.neb hL
        have hL2 : H2 L = some (.lst ys) := e2.at hL1 la lb
        have hY2 := dpa_ex ((hid_mono (nw_step hS e2)).trans hid_ex) _ _ hY
        refine ⟨k H2 (.ref L) (.list es) (hE.trans e2) (s2.mono (by omega)) (.lst (SqL.of (nw_of hL hL2)) hY2) hls.1, SqL.of hL2, fun u hu => ?_⟩
        have hu0 : H u = none := ExS.back (hE.trans e2) s2 hu
        refine k _ (.ref u) (.tuple es) (ExS.new (hE.trans e2) hu) ((s2.ex (Ex.new hu)).mono (by omega)) (.tup (SqT.of (nw_of hu0 upd_same)) (dpa_ex (fun z o hz => ?_) _ _ hY2)) hls.2
        obtain ⟨z1, z2⟩ := nw_some hz
        exact nw_of z1 (Ex.new hu z o z2)
      rcases d with _ | b0 | i0 | x0 | ds | ds | kvs
      · cases hi
      · cases hi
      · cases hd
        refine ⟨.int i0, p, _, _, [.type "list", .type "tuple"], false, rfl, upd_same, .cons (.ty _) (.cons (.ty _) .nil), .base (.int i0), seq_no_i, false, rfl, ?_⟩
        refine iteF ?_
        refine ⟨_, rfl, k _ (.int i0) (.int i0) e1 (s1.mono (by omega)) (.int i0) (.int i0)⟩
      · cases hi
      · cases hd with
        | lst hx hD =>
          rename_i c xs
          have hA : allIA ds = true := hi
          have hdep : PyData.depthAll ds < D := Nat.lt_of_succ_lt_succ hdp
          have hcn : cnt (.list ds) = cntA ds + 1 := rfl
          rw [hcn] at hn hc
          have hxl := dpa_len hD
          refine ⟨_, p, _, _, [.type "list", .type "tuple"], true, rfl, upd_same, .cons (.ty _) (.cons (.ty _) .nil), ty_l (ex_l (e1.trans hid_ex) hx), seq_yes_l, true, rfl, ?_⟩
          refine iteT ?_
          refine Or.inl ⟨_, rfl, c, rfl, ⟨xs, ex_l (e1.trans hid_ex) hx⟩, fun L hL => ?_⟩
          have hL0 : H L = none := fresh_back (Ex.new hp) hL
          have la := hS.nea hL0
          have lb := hS.neb hL0
          refine lc_list (xs := xs) (fun i H1 => ∃ (ys : List V) (es : List PyData), ExS a b H H1 ∧ SAt H1 a b (n + cntA (ds.take i)) ∧ H1 L = some (.lst ys) ∧ DpAll K (hid L L (nw H H1)) ys es ∧ LsA (ds.take i) es ∧ ys.length = i) ?_ ?_ ?_ ?_
          · exact ⟨[], [], ExS.own e1 hL0 la lb, s1.upd la lb, upd_same, .nil, .nil, rfl⟩
          · rintro i H1 _ ⟨ys, es, q⟩
            exact ex_l (q.1.trans hid_ex) hx
          · rintro i x H1 hxi q
            refine ⟨rfl, ?_⟩
            exact ⟨_, rfl, _, rfl, turn c xs ds L hD hA hdep (by omega) (by omega) hL0 i x H1 hxi q⟩
          · rintro H1 ⟨ys, es, hE, hS1, hL1, hY, hls, hyl⟩
            rw [hxl, List.take_of_length_le (Nat.le_refl _)] at hls hS1
            refine ⟨_, rfl, a, b, n + cntA ds, 2, rfl, hS1, by omega, by decide, by decide, fun H2 x e2 s2 x0 x1 => ⟨rfl, _, rfl, ?_⟩⟩
            obtain ⟨f1, f2, f3⟩ := fin1 ds L ys es H1 H2 hL0 hE hS1 hL1 hY ⟨.ll hls, .lt hls⟩ hcn e2 s2
            refine dec_ite (fun _ => ?_) (fun _ => ?_)
            · exact ⟨_, rfl, f1⟩
            · exact ⟨_, rfl, L, ys, rfl, .inl ⟨f2, f3⟩⟩
      · cases hd with
        | tup hx hD =>
          rename_i c xs
          have hA : allIA ds = true := hi
          have hdep : PyData.depthAll ds < D := Nat.lt_of_succ_lt_succ hdp
          have hcn : cnt (.tuple ds) = cntA ds + 1 := rfl
          rw [hcn] at hn hc
          have hxl := dpa_len hD
          refine ⟨_, p, _, _, [.type "list", .type "tuple"], true, rfl, upd_same, .cons (.ty _) (.cons (.ty _) .nil), ty_t (ex_t (e1.trans hid_ex) hx), seq_yes_t, true, rfl, ?_⟩
          refine iteT ?_
          refine Or.inr ⟨_, rfl, c, rfl, ⟨xs, ex_t (e1.trans hid_ex) hx⟩, fun L hL => ?_⟩
          have hL0 : H L = none := fresh_back (Ex.new hp) hL
          have la := hS.nea hL0
          have lb := hS.neb hL0
          refine lc_tup (xs := xs) (fun i H1 => ∃ (ys : List V) (es : List PyData), ExS a b H H1 ∧ SAt H1 a b (n + cntA (ds.take i)) ∧ H1 L = some (.lst ys) ∧ DpAll K (hid L L (nw H H1)) ys es ∧ LsA (ds.take i) es ∧ ys.length = i) ?_ ?_ ?_ ?_
          · exact ⟨[], [], ExS.own e1 hL0 la lb, s1.upd la lb, upd_same, .nil, .nil, rfl⟩
          · rintro i H1 _ ⟨ys, es, q⟩
            exact ex_t (q.1.trans hid_ex) hx
          · rintro i x H1 hxi q
            refine ⟨rfl, ?_⟩
            exact ⟨_, rfl, _, rfl, turn c xs ds L hD hA hdep (by omega) (by omega) hL0 i x H1 hxi q⟩
          · rintro H1 ⟨ys, es, hE, hS1, hL1, hY, hls, hyl⟩
            rw [hxl, List.take_of_length_le (Nat.le_refl _)] at hls hS1
            refine ⟨_, rfl, a, b, n + cntA ds, 2, rfl, hS1, by omega, by decide, by decide, fun H2 x e2 s2 x0 x1 => ⟨rfl, _, rfl, ?_⟩⟩
            obtain ⟨f1, f2, f3⟩ := fin1 ds L ys es H1 H2 hL0 hE hS1 hL1 hY ⟨.tl hls, .tt hls⟩ hcn e2 s2
            refine dec_ite (fun _ => ?_) (fun _ => ?_)
            · exact ⟨_, rfl, f1⟩
            · exact ⟨_, rfl, L, ys, rfl, .inl ⟨f2, f3⟩⟩
      · cases hi
end
end AA

set_option Elab.async false
set_option linter.all false
set_option maxRecDepth 100000
set_option maxHeartbeats 4000000
/-! A function of the module, held as a value: isinstance of it. -/
namespace AA
open PySem PySem.Spec PyProof.Rows
theorem fl_lk : typeLookup (.type "function") "__class__" = pure (some (.builtin "object.__class__")) := by
  rw [typeLookup_type, builtinLookup_eq_fast]
  kernel_rfl
theorem fl_sub : isSubtype (.type "function") (.type (".".intercalate ("object.__class__".cutAt '.').dropLast)) = pure true := by
  rw [F.owner_object_class, isSubtype_type]
  kernel_rfl
theorem fl_ga : Slot "function" "__getattribute__" "object.__getattribute__" :=
  .of (owner := "object") (n := "__getattribute__") (by rw [typeLookup_type, builtinLookup_eq_fast]; kernel_rfl)
    (by decide +kernel) (by decide +kernel) (by decide +kernel) (by first | exact .inl (by decide +kernel) | exact .inr (by decide +kernel))
    (by rw [isSubtype_type]; kernel_rfl)
section
variable {prog : Program} {w : World} {A : Around} {E : Value → Shared → Prop} {h : Heap} {g : Array GenState} {d : Drawn} {t : Nat} {os : OsState} {a : Addr} {o : Obj}
theorem fl_get {R : Result → Shared → Prop} (hx : h.get? a = some o) (hc : o.cls = .type "function") (hq : R (.ok (.ret (.type "function"))) ⟨h, g, d, t, os⟩) :
    codeAny (model prog w) A (.call (.builtin "getset_descriptor.__get__") ⟨[.builtin "object.__class__", .ref a, .type "function"], []⟩) R ⟨h, g, d, t, os⟩ := by
  have hT : (⟨h, g, d, t, os⟩ : Shared).TypeIs (.ref a) "function" := ⟨_, hx, hc⟩
  have hT5 : (⟨h, g, d, t, os⟩ : Shared).TypeIs (.builtin "object.__class__") "getset_descriptor" := F.typeOf_object_class
  have f8 := fl_sub
  refine codeAny_call_builtin F.slot_gs_get.plain F.entry_gs_get (F.slot_gs_get.check _ _ _ _ _ _ _ _ hT5 (F.args_gs_get _ _ _) ?_)
  repeat (any_goals (first | assumption | wp_step))
  refine ⟨Code.quiet_builtin _ (by decide +kernel), codeAny_builtin F.entry_object_class ?_⟩
  repeat (any_goals (first | assumption | wp_step))
theorem fl_entry {tk : Tok} {Q : PySem.Fin → Shared → Prop} (hx : h.get? a = some o) (hc : o.cls = .type "function") (hq : Q (.done (.ret (.type "function"))) ⟨h, g, d, t, os⟩) :
    wpAny (model prog w) A (Builtin.«object.__getattribute__» ⟨[.ref a, .str "__class__" tk], []⟩) Q E ⟨h, g, d, t, os⟩ := by
  have hT : (⟨h, g, d, t, os⟩ : Shared).TypeIs (.ref a) "function" := ⟨_, hx, hc⟩
  have hT5 : (⟨h, g, d, t, os⟩ : Shared).TypeIs (.builtin "object.__class__") "getset_descriptor" := F.typeOf_object_class
  have f4 := fl_lk
  have f5 := F.typeOf_object_class
  have f6 := F.slot_gs_get.lookup
  have f7 := F.slot_gs_set.lookup
  repeat (any_goals (first | assumption | wp_step))
  refine fl_get hx hc ?_
  repeat (any_goals (first | assumption | wp_step))
theorem fl_call {tk : Tok} {R : Result → Shared → Prop} (hx : h.get? a = some o) (hc : o.cls = .type "function") (hq : R (.ok (.ret (.type "function"))) ⟨h, g, d, t, os⟩) :
    codeAny (model prog w) A (.call (.builtin "object.__getattribute__") ⟨[.ref a, .str "__class__" tk], []⟩) R ⟨h, g, d, t, os⟩ :=
  codeAny_call_builtin fl_ga.plain F.entry_object_getattribute
    (fl_ga.check _ _ _ _ _ _ _ _ (show (⟨h, g, d, t, os⟩ : Shared).TypeIs (.ref a) "function" from ⟨_, hx, hc⟩) (F.args_object_getattribute_2 _ _) (fl_entry hx hc hq))
theorem fl_by {tk : Tok} {Q : Value → Shared → Prop} (hx : h.get? a = some o) (hc : o.cls = .type "function") (hq : Q (.type "function") ⟨h, g, d, t, os⟩) :
    wpAny (model prog w) A (getAttrBy (.ref a) (.str "__class__" tk) false) Q E ⟨h, g, d, t, os⟩ := by
  have hT : (⟨h, g, d, t, os⟩ : Shared).TypeIs (.ref a) "function" := ⟨_, hx, hc⟩
  have f2 := fl_ga.lookup
  have f3 := fl_ga.bind (.ref a)
  repeat (any_goals (first | assumption | wp_step))
  refine fl_call hx hc ?_
  repeat (any_goals (first | assumption | wp_step))
theorem fl_attr {Q : Option Value → Shared → Prop} (hx : h.get? a = some o) (hc : o.cls = .type "function") (hq : Q (some (.type "function")) ⟨h, g, d, t + 1, os⟩) :
    wpAny (model prog w) A (getAttr? (.ref a) "__class__") Q E ⟨h, g, d, t, os⟩ := by
  unfold getAttr? getAttrBy?
  repeat (any_goals (first | assumption | with_reducible apply fl_by hx hc | wp_step))
end
theorem kitx_fn {K : PySem.W.Frag} {a : Addr} : PySem.W.KitX K (.ref a) (.type "function") (PySem.W.KitAt a "function") :=
  PySem.W.kitx_of PySem.W.kitAt_ty (fun {_ _ _ _ _ s} p k => by
    obtain ⟨h, g, d, t, os⟩ := s
    obtain ⟨o, h1, h2⟩ := p
    exact fl_attr h1 h2 k)
theorem fl_eq : Slot "function" (cmpInfo .Eq).2.1 "object.__eq__" :=
  .of (owner := "object") (n := "__eq__") (by rw [typeLookup_type, builtinLookup_eq_fast]; kernel_rfl)
    (by decide +kernel) (by decide +kernel) (by decide +kernel) (by first | exact .inl (by decide +kernel) | exact .inr (by decide +kernel))
    (by rw [isSubtype_type]; kernel_rfl)
section
open L2
variable {X : Cx} {j : Nat}
/-- what isinstance asks of a value: TyX, or a function of the module -/
def TyF (K : PySem.W.Frag) (H : Hp) (x : V) (t : Value) : Prop := TyX K H x t ∨ ∃ (a : Addr) (o : Obj), x = .ref a ∧ K.lookup a = some o ∧ o.cls = .type "function" ∧ t = .type "function"
theorem kit_F {pins : List (Addr × Obj)} {σ : L2.St} {H : Hp} {s : Shared} {x : V} {u t : Value} (I : Inv X pins σ H s) (rx : RelV x u) (ty : TyF X.K H x t) :
    ∃ P : Heap → Prop, PySem.W.KitX X.K u t P ∧ P s.heap ∧ u ≠ .builtin "__main__.__loader__#opaque" := by
  rcases ty with ty | ⟨a, o, rfl, h1, h2, rfl⟩
  · exact kit_of I rx ty
  · cases (show u = Value.ref a from rx)
    exact ⟨_, kitx_fn, ⟨o, I.kIn a o h1, h2⟩, fun z => nomatch z⟩
def rIs1 (K : PySem.W.Frag) : List V → Hp → VK → Prop := fun xs H Q => ∃ (x c : V) (t u : Value) (b : Bool), xs = [x, c] ∧ ClsV c u ∧ TyF K H x t ∧ PySem.W.kitOne K t u = some b ∧ Q (.bl b) H
def rIsN (K : PySem.W.Frag) : List V → Hp → VK → Prop := fun xs H Q => ∃ (x : V) (tp : Addr) (cs : List V) (t : Value) (us : List Value) (b : Bool), xs = [x, .ref tp] ∧ H tp = some (.tup cs) ∧ Paired ClsV cs us ∧ TyF K H x t ∧ PySem.W.kitAny K t us = some b ∧ Q (.bl b) H
theorem call_is1 : CallR X (.builtin "isinstance") (rIs1 X.K) := by
  intro pins s σ H xs us Q I r h
  obtain ⟨x, c, t, u, b, rfl, k, ty, e, q⟩ := h
  obtain ⟨u1, u2, rfl, r1, r2⟩ := vals2 r
  cases k.eq r2
  obtain ⟨P, Z, p, hx⟩ := kit_F I r1 ty
  exact PySem.W.kia_one Z I.kIn p e hx fun tk => ⟨.bl b, H, I.tok tk, rfl, q⟩
theorem call_isN : CallR X (.builtin "isinstance") (rIsN X.K) := by
  intro pins s σ H xs us Q I r h
  obtain ⟨x, tp, cs, t, ws, b, rfl, hT, k, ty, e, q⟩ := h
  obtain ⟨u1, u2, rfl, r1, r2⟩ := vals2 r
  cases (show u2 = Value.ref tp from r2)
  obtain ⟨P, Z, p, hx⟩ := kit_F I r1 ty
  obtain ⟨_, its, rv, ob, g1, g2, n, g3⟩ := (show ObjOk X.prog X.w H s.heap tp (.tup cs) from I.hok tp _ hT)
  cases ClsV.all k rv
  obtain ⟨oc, od, dt, sl⟩ := ob
  simp only at g2 g3
  subst g2 g3
  exact PySem.W.kia_tup Z I.kIn p g1 e hx fun tk => ⟨.bl b, H, I.tok tk, rfl, q⟩
/-- f == f, a function of the module -/
def rEqF (K : PySem.W.Frag) : R2 := fun x y H Q => ∃ (f : Addr) (o : Obj), x = .ref f ∧ y = .ref f ∧ K.lookup f = some o ∧ o.cls = .type "function" ∧ Q (.bl true) H
theorem op_eqF (hr : Room j X.A) : OpR X (compareOp .Eq) (rEqF X.K) := by
  intro pins s σ H x y v u Q I rx ry h
  obtain ⟨f, o, rfl, rfl, h1, h2, q⟩ := h
  cases (show v = Value.ref f from rx)
  cases (show u = Value.ref f from ry)
  have hT : s.TypeIs (.ref f) "function" := ⟨o, I.kIn f o h1, h2⟩
  show wpAny _ _ (richCompare .Eq (.ref f) (.ref f)) _ _ s
  refine wpAny_richCompare_same_room (op := .Eq) hT hT fl_eq (wpAny_call_entry fl_eq hT F.cmpEntry_eq (objEq_entry_same ?_) (F.cmpArgs_eq _ _)) hr.units0
  exact ⟨_, rfl, fun e => (nomatch e), ⟨.bl true, H, I, rfl, q⟩⟩
end
end AA

set_option Elab.async false
set_option linter.all false
set_option maxRecDepth 100000
set_option maxHeartbeats 4000000
namespace AA
open PySem PySem.Spec PyProof.Rows L2 Evl
theorem op_orR {X : Cx} {f : Value → Value → Sem Value} {r1 r2 : R2} (h1 : OpR X f r1) (h2 : OpR X f r2) : OpR X f (fun x y H Q => r1 x y H Q ∨ r2 x y H Q) :=
  fun pins s σ H x y v u Q I rx ry h => h.elim (h1 pins s σ H x y v u Q I rx ry) (h2 pins s σ H x y v u Q I rx ry)
/-! ### alike, kind by kind -/
def leaf : V → Bool
  | .non => true
  | .bl _ => true
  | .int _ => true
  | .str z => PyData.strOk z
  | _ => false
/-- what an own class must say, so that isinstance asks its instances rightly -/
structure InsK (K : PySem.W.Frag) (C : Addr) : Prop where
  cl : Cls K C
  ha : PySem.W.findIn K (.ref C) "__class__" = some (some (.builtin "object.__class__"))
  hn : PySem.W.specialIn K (.builtin "object.__class__") "__get__" = some (some (.builtin "getset_descriptor.__get__"))
  ht : PySem.W.takesIn K (.builtin "object.__class__") = some true
  hm : PySem.W.mroIn K C (.type "object") = some true
  n1 : PySem.W.kitAny K (.ref C) [.type "list", .type "tuple"] = some false
  n2 : PySem.W.kitOne K (.ref C) (.type "dict") = some false
  n3 : PySem.W.kitOne K (.ref C) (.type "bool") = some false
  n4 : PySem.W.kitAny K (.ref C) [.type "list", .type "tuple", .type "dict"] = some false
def Sm (K : PySem.W.Frag) (C : Addr) (R : Addr → Addr → Hp → Prop) (H : Hp) : Nat → V → V → Prop
  | 0, _, _ => False
  | n + 1, x, y => (x = y ∧ leaf x = true) ∨
      (∃ a b xs ys, x = .ref a ∧ y = .ref b ∧ SqL K H a xs ∧ SqL K H b ys ∧ Paired (Sm K C R H n) xs ys ∧ xs.length ≤ 1000000) ∨
      (∃ a b xs ys, x = .ref a ∧ y = .ref b ∧ SqT K H a xs ∧ SqT K H b ys ∧ Paired (Sm K C R H n) xs ys ∧ xs.length ≤ 1000000) ∨
      (∃ a b, x = .ref a ∧ y = .ref b ∧ H a = some (.dK []) ∧ H b = some (.dK []) ∧ 0 < n) ∨
      (∃ a dx fs, x = .ref a ∧ y = .ref a ∧ H a = some (.ins C dx fs) ∧ R a a H) ∨
      (∃ f o, x = .ref f ∧ y = .ref f ∧ K.lookup f = some o ∧ o.cls = .type "function")
theorem sm_ex {K : PySem.W.Frag} {C : Addr} {R : Addr → Addr → Hp → Prop} {H H' : Hp} (hR : ∀ a b H H', Ex H H' → R a b H → R a b H') (e : Ex H H') : ∀ (n : Nat) (x y : V), Sm K C R H n x y → Sm K C R H' n x y
  | 0, _, _, h => h
  | n + 1, x, y, h => by
    rcases h with h | ⟨a, b, xs, ys, h1, h2, h3, h4, h5, h6⟩ | ⟨a, b, xs, ys, h1, h2, h3, h4, h5, h6⟩ | ⟨a, b, h1, h2, h3, h4, h5⟩ | ⟨a, dx, fs, h1, h2, h3, h4⟩ | h
    · exact .inl h
    · exact .inr (.inl ⟨a, b, xs, ys, h1, h2, ex_l e h3, ex_l e h4, Paired.mapP h5 fun u v => sm_ex hR e n u v, h6⟩)
    · exact .inr (.inr (.inl ⟨a, b, xs, ys, h1, h2, ex_t e h3, ex_t e h4, Paired.mapP h5 fun u v => sm_ex hR e n u v, h6⟩))
    · exact .inr (.inr (.inr (.inl ⟨a, b, h1, h2, e _ _ h3, e _ _ h4, h5⟩)))
    · exact .inr (.inr (.inr (.inr (.inl ⟨a, dx, fs, h1, h2, e _ _ h3, hR _ _ _ _ e h4⟩))))
    · exact .inr (.inr (.inr (.inr (.inr h))))
theorem kit_no2 {K : PySem.W.Frag} {T : String} (h1 : kitB T "list" = some false) (h2 : kitB T "tuple" = some false) : PySem.W.kitAny K (.type T) [.type "list", .type "tuple"] = some false :=
  kitAny_cons (b := false) (kit_ty h1) (fun _ => kitAny_cons (b := false) (kit_ty h2) (fun _ => kitAny_nil) (fun z => nomatch z)) (fun z => nomatch z)
theorem kit_no3 {K : PySem.W.Frag} {T : String} (h1 : kitB T "list" = some false) (h2 : kitB T "tuple" = some false) (h3 : kitB T "dict" = some false) : PySem.W.kitAny K (.type T) [.type "list", .type "tuple", .type "dict"] = some false :=
  kitAny_cons (b := false) (kit_ty h1) (fun _ => kitAny_cons (b := false) (kit_ty h2) (fun _ => kitAny_cons (b := false) (kit_ty h3) (fun _ => kitAny_nil) (fun z => nomatch z)) (fun z => nomatch z)) (fun z => nomatch z)
/-- a thing that is no list, no tuple, no dict, no bool, and equal to itself -/
def Plain (K : PySem.W.Frag) (C : Addr) (R : Addr → Addr → Hp → Prop) (H : Hp) (x : V) : Prop := ∃ t : Value, (∀ H', Ex H H' → TyF K H' x t) ∧ PySem.W.kitAny K t [.type "list", .type "tuple"] = some false ∧
  PySem.W.kitOne K t (.type "dict") = some false ∧ PySem.W.kitOne K t (.type "bool") = some false ∧ PySem.W.kitAny K t [.type "list", .type "tuple", .type "dict"] = some false ∧
  ∀ (H' : Hp) (Q' : VK), Ex H H' → (∀ H2, Ex H' H2 → Q' (.bl true) H2) → (rEqD K x x H' Q' ∨ rEqF K x x H' Q') ∨ rEqG (DIns C R) x x H' Q'
theorem str_eqv (x : Str) : PyData.eqv (.str x) (.str x) = true := by
  show (x == x) = true
  exact beq_self_eq_true x
theorem sm_plain {K : PySem.W.Frag} {C : Addr} {R : Addr → Addr → Hp → Prop} {H : Hp} (IC : InsK K C) (hR : ∀ a b H H', Ex H H' → R a b H → R a b H') {n : Nat} {x y : V} (h : Sm K C R H (n + 1) x y) :
    (x = y ∧ Plain K C R H x) ∨ (∃ b, x = .bl b ∧ y = .bl b) ∨
      (∃ a b xs ys, x = .ref a ∧ y = .ref b ∧ SqL K H a xs ∧ SqL K H b ys ∧ Paired (Sm K C R H n) xs ys ∧ xs.length ≤ 1000000) ∨
      (∃ a b xs ys, x = .ref a ∧ y = .ref b ∧ SqT K H a xs ∧ SqT K H b ys ∧ Paired (Sm K C R H n) xs ys ∧ xs.length ≤ 1000000) ∨
      (∃ a b, x = .ref a ∧ y = .ref b ∧ H a = some (.dK []) ∧ H b = some (.dK []) ∧ 0 < n) := by
  rcases h with ⟨rfl, h⟩ | h | h | h | ⟨a, dx, fs, rfl, rfl, h3, h4⟩ | ⟨f, o, rfl, rfl, h1, h2⟩
  · cases x with
    | non => exact .inl ⟨rfl, .type "NoneType", fun _ _ => .inl (.base .non), kit_no2 (by decide +kernel) (by decide +kernel), kit_ty (by decide +kernel), kit_ty (by decide +kernel), kit_no3 (by decide +kernel) (by decide +kernel) (by decide +kernel), fun H' Q' e q => .inl (.inl ⟨.none, .none, .non, .non, rfl, rfl, q _ (Ex.refl _)⟩)⟩
    | bl b => exact .inr (.inl ⟨b, rfl, rfl⟩)
    | int i => exact .inl ⟨rfl, .type "int", fun _ _ => .inl (.base (.int i)), kit_no2 (by decide +kernel) (by decide +kernel), kit_ty (by decide +kernel), kit_ty (by decide +kernel), kit_no3 (by decide +kernel) (by decide +kernel) (by decide +kernel), fun H' Q' e q => .inl (.inl ⟨.int i, .int i, .int i, .int i, rfl, rfl, by
        have : PyData.eqv (.int i) (.int i) = true := beq_self_eq_true i
        rw [this]
        exact q _ (Ex.refl _)⟩)⟩
    | str z =>
      have hz : PyData.strOk z = true := h
      have hsh : SeqAt.shaped (.str z) = true := by
        show (PyData.strOk z && decide (PyData.depth (.str z) ≤ 64)) = true
        rw [hz]
        rfl
      exact .inl ⟨rfl, .type "str", fun _ _ => .inl (.base (.str z)), kit_no2 (by decide +kernel) (by decide +kernel), kit_ty (by decide +kernel), kit_ty (by decide +kernel), kit_no3 (by decide +kernel) (by decide +kernel) (by decide +kernel), fun H' Q' e q => .inl (.inl ⟨.str z, .str z, .str z, .str z, hsh, hsh, by
        rw [str_eqv]
        exact q _ (Ex.refl _)⟩)⟩
    | byt b => cases h
    | flt b => cases h
    | ref a => cases h
    | ty n => cases h
  · exact .inr (.inr (.inl h))
  · exact .inr (.inr (.inr (.inl h)))
  · exact .inr (.inr (.inr (.inr h)))
  · exact .inl ⟨rfl, .ref C, fun H' e => .inl (.base (.ins (e _ _ h3) IC.cl IC.ha IC.hn IC.ht IC.hm)), IC.n1, IC.n2, IC.n3, IC.n4, fun H' Q' e q => .inr ⟨⟨a, a, dx, dx, fs, fs, rfl, rfl, e _ _ h3, e _ _ h3, hR _ _ _ _ e h4⟩, fun H2 e2 => q H2 e2⟩⟩
  · exact .inl ⟨rfl, .type "function", fun _ _ => .inr ⟨f, o, rfl, h1, h2, rfl⟩, kit_no2 (by decide +kernel) (by decide +kernel), kit_ty (by decide +kernel), kit_ty (by decide +kernel), kit_no3 (by decide +kernel) (by decide +kernel) (by decide +kernel), fun H' Q' e q => .inl (.inr ⟨f, o, rfl, rfl, h1, h2, q _ (Ex.refl _)⟩)⟩
theorem paired_at {α β : Type} {F : α → β → Prop} : ∀ {xs : List α} {ys : List β} {i : Nat} {x : α}, Paired F xs ys → xs[i]? = some x → ∃ y, ys[i]? = some y ∧ F x y
  | _, _, _, _, .nil, e => by simp at e
  | _, _, 0, _, .cons r _, e => ⟨_, rfl, (Option.some.inj e) ▸ r⟩
  | _, _, i + 1, _, .cons _ t, e => paired_at (i := i) t e
theorem lc_zipL {K : PySem.W.Frag} {a b : Addr} {xs ys : List V} {g : TG} {tt : TT} {te : TE} {vs : List Nat} {σ : L2.St} {H1 : Hp} {D : Addr} {Qd : Hp → Prop} (hl : xs.length = ys.length) (Pv : Nat → Hp → Prop) (h0 : Pv 0 (upd H1 D (.lst [])))
    (hq : ∀ i H, Pv i H → SqL K H a xs ∧ SqL K H b ys)
    (hs : ∀ (i : Nat) (x y : V) (H : Hp) (T : Addr), xs[i]? = some x → ys[i]? = some y → Pv i H → H T = none → g (.ref T) (wipe σ vs) (upd H T (.tup [x, y])) fun σ2 H2 => wipe σ2 vs = wipe σ vs ∧ tt σ2 H2 fun c H3 =>
      if c = true then te σ2 H3 fun z H4 => ∃ acc, H4 D = some (.lst acc) ∧ acc.length < sizeLine ∧ Pv (i + 1) (upd H4 D (.lst (acc ++ [z]))) else Pv (i + 1) H3) (hd : ∀ H, Pv xs.length H → Qd H) :
    ∃ W : Nat → Nat → Hp → Prop, (∃ m, W 0 m (upd H1 D (.lst []))) ∧ ∀ i m H, W i m H →
      ((Itz K a b).stop i H ∧ Qd H) ∨ ((Itz K a b).go i H ∧ ∃ Nx : Hp → Prop, (∀ H', Nx H' → ∃ m', m' < m ∧ W (i + 1) m' H') ∧ ∀ x H', (Itz K a b).yld i H x H' → g x (wipe σ vs) H' fun σ2 H2 => wipe σ2 vs = wipe σ vs ∧ tt σ2 H2 fun c H3 =>
        if c = true then te σ2 H3 fun z H4 => ∃ acc, H4 D = some (.lst acc) ∧ acc.length < sizeLine ∧ Nx (upd H4 D (.lst (acc ++ [z]))) else Nx H3) := by
  refine ⟨fun i m H => m = xs.length - i ∧ i ≤ xs.length ∧ Pv i H, ⟨xs.length, by simp, Nat.zero_le _, h0⟩, ?_⟩
  rintro i m H ⟨rfl, hi, p⟩
  obtain ⟨q1, q2⟩ := hq i H p
  by_cases hlt : i < xs.length
  · have g1 : xs[i]? = some xs[i] := List.getElem?_eq_getElem hlt
    have g2 : ys[i]? = some (ys[i]'(by omega)) := List.getElem?_eq_getElem (by omega)
    refine .inr ⟨⟨xs, ys, _, _, q1, q2, g1, g2⟩, Pv (i + 1), fun H' p' => ⟨xs.length - (i + 1), by omega, rfl, hlt, p'⟩, fun x H' y => ?_⟩
    obtain ⟨T, z1, z2, rfl, hT, rfl, f1, f2⟩ := y
    exact hs i z1 z2 H T (f1 _ q1) (f2 _ q2) p hT
  · have e : i = xs.length := by omega
    subst e
    exact .inl ⟨⟨xs, ys, q1, q2, .inl (Nat.le_refl _)⟩, hd H p⟩
theorem lc_zipT {K : PySem.W.Frag} {a b : Addr} {xs ys : List V} {g : TG} {tt : TT} {te : TE} {vs : List Nat} {σ : L2.St} {H1 : Hp} {D : Addr} {Qd : Hp → Prop} (hl : xs.length = ys.length) (Pv : Nat → Hp → Prop) (h0 : Pv 0 (upd H1 D (.lst [])))
    (hq : ∀ i H, Pv i H → SqT K H a xs ∧ SqT K H b ys)
    (hs : ∀ (i : Nat) (x y : V) (H : Hp) (T : Addr), xs[i]? = some x → ys[i]? = some y → Pv i H → H T = none → g (.ref T) (wipe σ vs) (upd H T (.tup [x, y])) fun σ2 H2 => wipe σ2 vs = wipe σ vs ∧ tt σ2 H2 fun c H3 =>
      if c = true then te σ2 H3 fun z H4 => ∃ acc, H4 D = some (.lst acc) ∧ acc.length < sizeLine ∧ Pv (i + 1) (upd H4 D (.lst (acc ++ [z]))) else Pv (i + 1) H3) (hd : ∀ H, Pv xs.length H → Qd H) :
    ∃ W : Nat → Nat → Hp → Prop, (∃ m, W 0 m (upd H1 D (.lst []))) ∧ ∀ i m H, W i m H →
      ((RZ.ItzT K a b).stop i H ∧ Qd H) ∨ ((RZ.ItzT K a b).go i H ∧ ∃ Nx : Hp → Prop, (∀ H', Nx H' → ∃ m', m' < m ∧ W (i + 1) m' H') ∧ ∀ x H', (RZ.ItzT K a b).yld i H x H' → g x (wipe σ vs) H' fun σ2 H2 => wipe σ2 vs = wipe σ vs ∧ tt σ2 H2 fun c H3 =>
        if c = true then te σ2 H3 fun z H4 => ∃ acc, H4 D = some (.lst acc) ∧ acc.length < sizeLine ∧ Nx (upd H4 D (.lst (acc ++ [z]))) else Nx H3) := by
  refine ⟨fun i m H => m = xs.length - i ∧ i ≤ xs.length ∧ Pv i H, ⟨xs.length, by simp, Nat.zero_le _, h0⟩, ?_⟩
  rintro i m H ⟨rfl, hi, p⟩
  obtain ⟨q1, q2⟩ := hq i H p
  by_cases hlt : i < xs.length
  · have g1 : xs[i]? = some xs[i] := List.getElem?_eq_getElem hlt
    have g2 : ys[i]? = some (ys[i]'(by omega)) := List.getElem?_eq_getElem (by omega)
    refine .inr ⟨⟨xs, ys, _, _, q1, q2, g1, g2⟩, Pv (i + 1), fun H' p' => ⟨xs.length - (i + 1), by omega, rfl, hlt, p'⟩, fun x H' y => ?_⟩
    obtain ⟨T, z1, z2, rfl, hT, rfl, f1, f2⟩ := y
    exact hs i z1 z2 H T (f1 _ q1) (f2 _ q2) p hT
  · have e : i = xs.length := by omega
    subst e
    exact .inl ⟨⟨xs, ys, q1, q2, .inl (Nat.le_refl _)⟩, hd H p⟩
theorem all_true (n : Nat) : (List.replicate n true).all id = true := by
  rw [List.all_eq_true]
  intro x hx
  rw [(List.mem_replicate.mp hx).2]
  rfl
section
variable {P : Program} {w : World} {K : PySem.W.Frag} {mg : Str → Option Value} {base : Heap}
def spSame (K : PySem.W.Frag) (C : Addr) (R : Addr → Addr → Hp → Prop) (n : Nat) : Sp := fun vs H Q _ => ∃ (x y : V), vs = [x, y] ∧ Sm K C R H n x y ∧ ∀ H', Ex H H' → Q (.bl true) H'
theorem scSame : FnScope ["_law_found", "_law_due", "_law_mine", "_law_theirs"] ["_law_found", "_law_due"] (defScope sSame) := ⟨rfl, rfl, rfl, by decide +kernel, rfl, by decide +kernel, by decide +kernel⟩
theorem ok_same {C : Addr} {R : Addr → Addr → Hp → Prop} {f fE : Addr} {fd fdE : FuncData} (F : L2.Fun K "_law_same" "_law_same" sSame f fd) (T : Bn mg) (hm : mg "_law_same" = some (.ref f)) (bS : Binds K fd ["_law_found", "_law_due"] [])
    (IC : InsK K C) (hR : ∀ a b H H', Ex H H' → R a b H → R a b H')
    (GE : FnOk P w K mg base CX0 2 fE fdE ["self", "other"] (spEq R)) (hs : PySem.W.findIn K (.ref C) "__eq__" = some (some (.ref fE))) (hf : PySem.W.isFn K (.ref fE) = true) (bE : Binds K fdE ["self", "other"] []) :
    ∀ n : Nat, FnOk P w K mg base CX0 (n + 3) f fd ["_law_found", "_law_due"] (spSame K C R n)
  | 0 => ⟨fun vs H Q E h => by
      obtain ⟨x, y, rfl, _⟩ := h
      rfl, fun A outer s H args us vs Q E _ _ _ _ h => by
      obtain ⟨x, y, _, h, _⟩ := h
      exact h.elim⟩
  | n + 1 => by
    have cS : C8.Cal P w K mg base (n + 3) "_law_same" (spSame K C R n) [] := cal_of F hm bS (ok_same F T hm bS IC hR GE hs hf bE n)
    refine F.ok scSame (fun vs H Q E h => ?_) (fun cdv A outer s H vs Q E hr h => ?_)
    · obtain ⟨x, y, rfl, _⟩ := h
      rfl
    · obtain ⟨x, y, rfl, hsm, k⟩ := h
      have rE : RcG (cxOf CX0 P w K mg base ["_law_found", "_law_due", "_law_mine", "_law_theirs"] "_law_same" (defScope sSame) f cdv A outer s H E).nox 2 (DIns C R) := rcG_ins (E := E0) GE hs hf bE pass0
      refine ⟨_, pss_cons (ps_if (pt_val (pe_callB call_isN (by rfl) T.isinstance boot_isinstance (pa_cons (pv 1) (pa_cons (pe_tup (pa_cons (pe_bltn (v := .ty "list") (by rfl) T.list boot_list rfl) (pa_cons (pe_bltn (v := .ty "tuple") (by rfl) T.tuple boot_tuple rfl) pa_nil))) pa_nil))))
          (pss_cons (ps_if (PW.pt (pw_or (pt_cmpR op_ne (pe_callB call_is1 (by rfl) T.isinstance boot_isinstance (pa_cons (pv 0) (pa_cons (pe_bltn (v := .ty "list") (by rfl) T.list boot_list rfl) pa_nil))) (pe_callB call_is1 (by rfl) T.isinstance boot_isinstance (pa_cons (pv 1) (pa_cons (pe_bltn (v := .ty "list") (by rfl) T.list boot_list rfl) pa_nil))) (nomark _))
              (pw_or1 (pt_cmpR op_ne (pe_callB call_is1 (by rfl) T.isinstance boot_isinstance (pa_cons (pv 0) (pa_cons (pe_bltn (v := .ty "tuple") (by rfl) T.tuple boot_tuple rfl) pa_nil))) (pe_callB call_is1 (by rfl) T.isinstance boot_isinstance (pa_cons (pv 1) (pa_cons (pe_bltn (v := .ty "tuple") (by rfl) T.tuple boot_tuple rfl) pa_nil))) (nomark _)))))
              (pss_one (ps_ret pe_bl)) pss_nil)
            (pss_one (ps_ret (pe_and (pe_cmpR op_eq (pe_callB call_len_seq (by rfl) T.len PySem.boot_len (pa_cons (pv 0) pa_nil)) (pe_callB call_len_seq (by rfl) T.len PySem.boot_len (pa_cons (pv 1) pa_nil)) (nomark _))
              (pe_one (pe_callB (cr_all (by rfl)) (by rfl) T.all boot_all (pa_cons (pe_lc (own := [("_law_mine", 2), ("_law_theirs", 3)]) (g := gTup K 2 (gCons (gName 2) (gCons (gName 3) gNil))) (tt := tYes) (by rfl) scSame.nd (RZ.pi_zipA (by rfl) T.zip (pa_cons (pv 0) (pa_cons (pv 1) pa_nil))) (blkOk_by (N := ["_law_found", "_law_due", "_law_mine", "_law_theirs"]) (sc := defScope sSame) (by decide +kernel))
                (fun _ _ _ _ _ => pg_tup rfl (pgs_cons (pg_name (i := 2) scSame.nd rfl (Or.inl rfl)) (pgs_cons (pg_name (i := 3) scSame.nd rfl (Or.inl rfl)) pgs_nil))) (fun _ _ _ _ _ => pts_nil) (fun _ _ _ _ _ => C8.pe_c cS hr (by omega) (by rfl) (pa_cons (pv 2) (pa_cons (pv 3) pa_nil)))) pa_nil))))))) pss_nil)
        (pss_cons (ps_if (pt_val (pe_callB call_is1 (by rfl) T.isinstance boot_isinstance (pa_cons (pv 1) (pa_cons (pe_bltn (v := .ty "dict") (by rfl) T.dict boot_dict rfl) pa_nil))))
          (pss_one (ps_ret (pe_and (pe_callB call_is1 (by rfl) T.isinstance boot_isinstance (pa_cons (pv 0) (pa_cons (pe_bltn (v := .ty "dict") (by rfl) T.dict boot_dict rfl) pa_nil)))
            (pe_one (C8.pe_c cS hr (by omega) (by rfl) (pa_cons (LiI.pe_listItems (by rfl) (pv 0) (by rfl) T.list boot_list) (pa_cons (LiI.pe_listItems (by rfl) (pv 1) (by rfl) T.list boot_list) pa_nil))))))) pss_nil)
        (pss_cons (ps_if (PW.pt (pw_or (pt_val (pe_callB call_is1 (by rfl) T.isinstance boot_isinstance (pa_cons (pv 1) (pa_cons (pe_bltn (v := .ty "bool") (by rfl) T.bool boot_bool rfl) pa_nil)))) (pw_or1 (pt_val (pe_callB call_is1 (by rfl) T.isinstance boot_isinstance (pa_cons (pv 0) (pa_cons (pe_bltn (v := .ty "bool") (by rfl) T.bool boot_bool rfl) pa_nil)))))))
          (pss_one (ps_ret (pe_and (pe_callB call_is1 (by rfl) T.isinstance boot_isinstance (pa_cons (pv 1) (pa_cons (pe_bltn (v := .ty "bool") (by rfl) T.bool boot_bool rfl) pa_nil))) (pe_and (pe_callB call_is1 (by rfl) T.isinstance boot_isinstance (pa_cons (pv 0) (pa_cons (pe_bltn (v := .ty "bool") (by rfl) T.bool boot_bool rfl) pa_nil))) (pe_one (pe_cmpR op_eq (pv 0) (pv 1) (nomark _))))))) pss_nil)
        (pss_one (ps_ret (pe_and (pe_not (pe_callB call_isN (by rfl) T.isinstance boot_isinstance (pa_cons (pv 0) (pa_cons (pe_tup (pa_cons (pe_bltn (v := .ty "list") (by rfl) T.list boot_list rfl) (pa_cons (pe_bltn (v := .ty "tuple") (by rfl) T.tuple boot_tuple rfl) (pa_cons (pe_bltn (v := .ty "dict") (by rfl) T.dict boot_dict rfl) pa_nil)))) pa_nil))))
            (pe_one (pe_cmpR (op_orR (op_orR (op_eqD hr.units) (op_eqF hr)) (op_eqG rE (hr.mono (by omega)))) (pv 0) (pv 1) (nomark _)))))))), ?_⟩
      rcases sm_plain IC hR hsm with ⟨rfl, t, hty, k1, k2, k3, k4, heq⟩ | ⟨b, rfl, rfl⟩ | ⟨a, b, xs, ys, rfl, rfl, hx, hy, hp2, hln⟩ | ⟨a, b, xs, ys, rfl, rfl, hx, hy, hp2, hln⟩ | ⟨a, b, rfl, rfl, ha, hb, hn0⟩
      · refine ⟨_, rfl, by show 2 ≤ sizeLine; decide, fun p hp => ?_⟩
        have e1 : Ex H (upd H p (.tup [.ty "list", .ty "tuple"])) := Ex.new hp
        refine ⟨x, p, _, t, [.type "list", .type "tuple"], false, rfl, upd_same, .cons (.ty _) (.cons (.ty _) .nil), hty _ e1, k1, false, rfl, ?_⟩
        refine iteF ?_
        refine ⟨_, rfl, x, _, t, .type "dict", false, rfl, .ty _, hty _ e1, k2, false, rfl, ?_⟩
        refine iteF ?_
        refine ⟨_, rfl, x, _, t, .type "bool", false, rfl, .ty _, hty _ e1, k3, false, rfl, ?_⟩
        refine iteF ?_
        refine ⟨_, rfl, x, _, t, .type "bool", false, rfl, .ty _, hty _ e1, k3, false, rfl, ?_⟩
        refine iteF ?_
        refine ⟨_, rfl, by show 3 ≤ sizeLine; decide, fun p2 hp2 => ?_⟩
        have e2 := e1.trans (Ex.new (o := .tup [.ty "list", .ty "tuple", .ty "dict"]) hp2)
        refine ⟨x, p2, _, t, [.type "list", .type "tuple", .type "dict"], false, rfl, upd_same, .cons (.ty _) (.cons (.ty _) (.cons (.ty _) .nil)), hty _ e2, k4, false, rfl, true, rfl, ?_⟩
        refine iteT ?_
        exact ⟨_, rfl, _, rfl, heq _ _ e2 fun H2 e3 => k H2 (e2.trans e3)⟩
      · refine ⟨_, rfl, by show 2 ≤ sizeLine; decide, fun p hp => ?_⟩
        have e1 : Ex H (upd H p (.tup [.ty "list", .ty "tuple"])) := Ex.new hp
        have ty : ∀ H', TyF K H' (.bl b) (.type "bool") := fun H' => .inl (.base (.bl b))
        refine ⟨.bl b, p, _, _, [.type "list", .type "tuple"], false, rfl, upd_same, .cons (.ty _) (.cons (.ty _) .nil), ty _, kit_no2 (by decide +kernel) (by decide +kernel), false, rfl, ?_⟩
        refine iteF ?_
        refine ⟨_, rfl, .bl b, _, _, .type "dict", false, rfl, .ty _, ty _, kit_ty (by decide +kernel), false, rfl, ?_⟩
        refine iteF ?_
        refine ⟨_, rfl, .bl b, _, _, .type "bool", true, rfl, .ty _, ty _, kit_ty (by decide +kernel), true, rfl, ?_⟩
        refine iteT ?_
        refine iteT ?_
        refine ⟨_, rfl, .bl b, _, _, .type "bool", true, rfl, .ty _, ty _, kit_ty (by decide +kernel), true, rfl, ?_⟩
        refine iteT ?_
        refine ⟨_, rfl, .bl b, _, _, .type "bool", true, rfl, .ty _, ty _, kit_ty (by decide +kernel), true, rfl, ?_⟩
        refine iteT ?_
        refine ⟨_, rfl, _, rfl, rfl, ?_⟩
        rw [decide_eq_true rfl]
        exact k _ e1
      · have hll := hp2.length
        refine ⟨_, rfl, by show 2 ≤ sizeLine; decide, fun p hp => ?_⟩
        have e1 : Ex H (upd H p (.tup [.ty "list", .ty "tuple"])) := Ex.new hp
        have tx : TyF K (upd H p (.tup [.ty "list", .ty "tuple"])) (.ref a) (.type "list") := .inl (ty_l (ex_l e1 hx))
        have ty : TyF K (upd H p (.tup [.ty "list", .ty "tuple"])) (.ref b) (.type "list") := .inl (ty_l (ex_l e1 hy))
        refine ⟨.ref b, p, _, _, [.type "list", .type "tuple"], true, rfl, upd_same, .cons (.ty _) (.cons (.ty _) .nil), ty, seq_yes_l, true, rfl, ?_⟩
        refine iteT ?_
        refine ⟨_, rfl, .ref a, _, _, .type "list", true, rfl, .ty _, tx, kit_ty (by decide +kernel), _, rfl, .ref b, _, _, .type "list", true, rfl, .ty _, ty, kit_ty (by decide +kernel), rfl, false, by rw [decide_eq_true rfl]; rfl, ?_⟩
        refine iteF ?_
        refine ⟨_, rfl, .ref a, _, _, .type "tuple", false, rfl, .ty _, tx, kit_ty (by decide +kernel), _, rfl, .ref b, _, _, .type "tuple", false, rfl, .ty _, ty, kit_ty (by decide +kernel), rfl, false, by rw [decide_eq_true rfl]; rfl, ?_⟩
        refine iteF ?_
        refine ⟨_, rfl, a, xs, rfl, .inl (ex_l e1 hx), _, rfl, b, ys, rfl, .inl (ex_l e1 hy), rfl, true, by rw [hll, decide_eq_true rfl], ?_⟩
        refine iteT ?_
        refine ⟨_, rfl, _, rfl, a, b, xs, ys, rfl, .inl ⟨ex_l e1 hx, ex_l e1 hy, fun L hL => ?_⟩⟩
        refine lc_zipL hll (fun i H' => Ex (upd H p (.tup [.ty "list", .ty "tuple"])) H' ∧ H' L = some (.lst ((List.replicate i true).map V.bl))) ?_ ?_ ?_ ?_
        · exact ⟨Ex.mut (Ex.refl _) hL, upd_same⟩
        · rintro i H' ⟨q1, q2⟩
          exact ⟨ex_l (e1.trans q1) hx, ex_l (e1.trans q1) hy⟩
        · rintro i x y H' T hxi hyi ⟨q1, q2⟩ hT
          obtain ⟨y', hy', hF⟩ := paired_at hp2 hxi
          have ey : y' = y := Option.some.inj (hy'.symm.trans hyi)
          subst ey
          have hLT : L ≠ T := ne_of_none q2 hT
          have il : i < xs.length := (List.getElem?_eq_some_iff.mp hxi).1
          refine ⟨T, [x, y'], rfl, SqT.of upd_same, rfl, x, [y'], rfl, y', [], rfl, rfl, rfl, ?_⟩
          refine ⟨_, rfl, _, rfl, x, y', rfl, sm_ex hR (e1.trans (q1.trans (Ex.new hT))) n _ _ hF, fun H2 e2 => ?_⟩
          have hL2 : H2 L = some (.lst ((List.replicate i true).map V.bl)) := e2 _ _ (by rw [upd_ne hLT]; exact q2)
          refine ⟨_, hL2, by rw [List.length_map, List.length_replicate]; exact sz_m (by omega), Ex.mut (q1.trans ((Ex.new hT).trans e2)) hL, ?_⟩
          rw [List.replicate_succ', List.map_append]
          exact upd_same
        · rintro H' ⟨q1, q2⟩
          refine ⟨L, List.replicate xs.length true, rfl, SqL.of q2, ?_⟩
          rw [all_true]
          exact k _ (e1.trans q1)
      · have hll := hp2.length
        refine ⟨_, rfl, by show 2 ≤ sizeLine; decide, fun p hp => ?_⟩
        have e1 : Ex H (upd H p (.tup [.ty "list", .ty "tuple"])) := Ex.new hp
        have tx : TyF K (upd H p (.tup [.ty "list", .ty "tuple"])) (.ref a) (.type "tuple") := .inl (ty_t (ex_t e1 hx))
        have ty : TyF K (upd H p (.tup [.ty "list", .ty "tuple"])) (.ref b) (.type "tuple") := .inl (ty_t (ex_t e1 hy))
        refine ⟨.ref b, p, _, _, [.type "list", .type "tuple"], true, rfl, upd_same, .cons (.ty _) (.cons (.ty _) .nil), ty, seq_yes_t, true, rfl, ?_⟩
        refine iteT ?_
        refine ⟨_, rfl, .ref a, _, _, .type "list", false, rfl, .ty _, tx, kit_ty (by decide +kernel), _, rfl, .ref b, _, _, .type "list", false, rfl, .ty _, ty, kit_ty (by decide +kernel), rfl, false, by rw [decide_eq_true rfl]; rfl, ?_⟩
        refine iteF ?_
        refine ⟨_, rfl, .ref a, _, _, .type "tuple", true, rfl, .ty _, tx, kit_ty (by decide +kernel), _, rfl, .ref b, _, _, .type "tuple", true, rfl, .ty _, ty, kit_ty (by decide +kernel), rfl, false, by rw [decide_eq_true rfl]; rfl, ?_⟩
        refine iteF ?_
        refine ⟨_, rfl, a, xs, rfl, .inr (ex_t e1 hx), _, rfl, b, ys, rfl, .inr (ex_t e1 hy), rfl, true, by rw [hll, decide_eq_true rfl], ?_⟩
        refine iteT ?_
        refine ⟨_, rfl, _, rfl, a, b, xs, ys, rfl, .inr ⟨ex_t e1 hx, ex_t e1 hy, fun L hL => ?_⟩⟩
        refine lc_zipT hll (fun i H' => Ex (upd H p (.tup [.ty "list", .ty "tuple"])) H' ∧ H' L = some (.lst ((List.replicate i true).map V.bl))) ?_ ?_ ?_ ?_
        · exact ⟨Ex.mut (Ex.refl _) hL, upd_same⟩
        · rintro i H' ⟨q1, q2⟩
          exact ⟨ex_t (e1.trans q1) hx, ex_t (e1.trans q1) hy⟩
        · rintro i x y H' T hxi hyi ⟨q1, q2⟩ hT
          obtain ⟨y', hy', hF⟩ := paired_at hp2 hxi
          have ey : y' = y := Option.some.inj (hy'.symm.trans hyi)
          subst ey
          have hLT : L ≠ T := ne_of_none q2 hT
          have il : i < xs.length := (List.getElem?_eq_some_iff.mp hxi).1
          refine ⟨T, [x, y'], rfl, SqT.of upd_same, rfl, x, [y'], rfl, y', [], rfl, rfl, rfl, ?_⟩
          refine ⟨_, rfl, _, rfl, x, y', rfl, sm_ex hR (e1.trans (q1.trans (Ex.new hT))) n _ _ hF, fun H2 e2 => ?_⟩
          have hL2 : H2 L = some (.lst ((List.replicate i true).map V.bl)) := e2 _ _ (by rw [upd_ne hLT]; exact q2)
          refine ⟨_, hL2, by rw [List.length_map, List.length_replicate]; exact sz_m (by omega), Ex.mut (q1.trans ((Ex.new hT).trans e2)) hL, ?_⟩
          rw [List.replicate_succ', List.map_append]
          exact upd_same
        · rintro H' ⟨q1, q2⟩
          refine ⟨L, List.replicate xs.length true, rfl, SqL.of q2, ?_⟩
          rw [all_true]
          exact k _ (e1.trans q1)
      · have ty : ∀ (H' : Hp) (c : Addr), H' c = some (.dK []) → TyF K H' (.ref c) (.type "dict") := fun H' c h => .inl (.base (.dK h))
        refine ⟨_, rfl, by show 2 ≤ sizeLine; decide, fun p hp => ?_⟩
        have e1 : Ex H (upd H p (.tup [.ty "list", .ty "tuple"])) := Ex.new hp
        refine ⟨.ref b, p, _, _, [.type "list", .type "tuple"], false, rfl, upd_same, .cons (.ty _) (.cons (.ty _) .nil), ty _ _ (e1 _ _ hb), kit_no2 (by decide +kernel) (by decide +kernel), false, rfl, ?_⟩
        refine iteF ?_
        refine ⟨_, rfl, .ref b, _, _, .type "dict", true, rfl, .ty _, ty _ _ (e1 _ _ hb), kit_ty (by decide +kernel), true, rfl, ?_⟩
        refine iteT ?_
        refine ⟨_, rfl, .ref a, _, _, .type "dict", true, rfl, .ty _, ty _ _ (e1 _ _ ha), kit_ty (by decide +kernel), true, rfl, ?_⟩
        refine iteT ?_
        refine ⟨_, rfl, a, [], rfl, e1 _ _ ha, fun H2 p2 ts2 e2 _ _ _ g2 pr2 => ?_⟩
        have ts2e : ts2 = [] := List.eq_nil_of_length_eq_zero pr2.length
        subst ts2e
        refine ⟨_, rfl, b, [], rfl, e2 _ _ (e1 _ _ hb), fun H3 p3 ts3 e3 _ _ _ g3 pr3 => ?_⟩
        have ts3e : ts3 = [] := List.eq_nil_of_length_eq_zero pr3.length
        subst ts3e
        refine ⟨.ref p2, .ref p3, rfl, ?_, fun H4 e4 => k _ (e1.trans (Ex.trans e2 (Ex.trans e3 e4)))⟩
        obtain ⟨m, rfl⟩ : ∃ m, n = m + 1 := ⟨n - 1, by omega⟩
        exact .inr (.inl ⟨p2, p3, [], [], rfl, rfl, SqL.of (e3 _ _ g2), SqL.of g3, .nil, Nat.zero_le _⟩)
end
end AA

set_option Elab.async false
set_option linter.all false
set_option maxRecDepth 100000
set_option maxHeartbeats 4000000
/-! Steps in order: sorted of a list of them. -/
namespace AA
open PySem PySem.Spec PyProof.Rows L2 Evl
def pqLt (s t : St5) : Bool := if s.p = t.p then decide (s.q < t.q) else decide (s.p < t.p)
def stLt (s t : St5) : Bool :=
  if s.one = t.one then
    if s.other = t.other then
      if s.p = t.p ∧ s.q = t.q then
        if s.ticks = t.ticks then decide (s.change < t.change) else decide (s.ticks < t.ticks)
      else pqLt s t
    else decide (s.other < t.other)
  else decide (s.one < t.one)
theorem stLt_iff {s t : St5} : stLt s t = true ↔ s.one < t.one ∨ (s.one = t.one ∧ (s.other < t.other ∨ (s.other = t.other ∧ (s.p < t.p ∨ (s.p = t.p ∧ (s.q < t.q ∨ (s.q = t.q ∧ (s.ticks < t.ticks ∨ (s.ticks = t.ticks ∧ s.change < t.change))))))))) := by
  unfold stLt pqLt
  by_cases h1 : s.one = t.one
  · rw [if_pos h1]
    by_cases h2 : s.other = t.other
    · rw [if_pos h2]
      by_cases h3 : s.p = t.p ∧ s.q = t.q
      · rw [if_pos h3]
        by_cases h4 : s.ticks = t.ticks
        · rw [if_pos h4, decide_eq_true_eq]
          omega
        · rw [if_neg h4, decide_eq_true_eq]
          omega
      · rw [if_neg h3]
        by_cases h4 : s.p = t.p
        · rw [if_pos h4, decide_eq_true_eq]
          omega
        · rw [if_neg h4, decide_eq_true_eq]
          omega
    · rw [if_neg h2, decide_eq_true_eq]
      omega
  · rw [if_neg h1, decide_eq_true_eq]
    omega
theorem stLt_no {s t : St5} : stLt s t = false ↔ ¬ (s.one < t.one ∨ (s.one = t.one ∧ (s.other < t.other ∨ (s.other = t.other ∧ (s.p < t.p ∨ (s.p = t.p ∧ (s.q < t.q ∨ (s.q = t.q ∧ (s.ticks < t.ticks ∨ (s.ticks = t.ticks ∧ s.change < t.change)))))))))) := by
  rw [← stLt_iff]
  cases stLt s t <;> simp
theorem swo_st (k : Value → St5) : SrtO.Swo fun v u => stLt (k v) (k u) := by
  refine ⟨fun x y h => ?_, fun x y z h1 h2 => ?_⟩
  · have a := stLt_iff.mp h
    refine stLt_no.mpr ?_
    omega
  · have a := stLt_no.mp h1
    have b := stLt_no.mp h2
    refine stLt_no.mpr ?_
    omega
/-- a step stands at v -/
def IsSt (h : Heap) (v : Value) (s : St5) : Prop := ∃ (a u : Addr) (o r : Obj) (n m : Nat) (t1 t2 t3 t4 t5 t6 : Tok), v = .ref a ∧ h.get? a = some o ∧ o.cls = .type "tuple" ∧
  o.data = .seq #[.int s.one t1, .int s.other t2, .ref u, .int s.ticks t3, .int s.change t4] n ∧ h.get? u = some r ∧ r.cls = .type "tuple" ∧ r.data = .seq #[.int s.p t5, .int s.q t6] m
theorem IsSt.keeps {h h' : Heap} {v : Value} {s : St5} (x : IsSt h v s) (k : ∀ b o, h.get? b = some o → o.cls = .type "tuple" → h'.get? b = some o) : IsSt h' v s := by
  obtain ⟨a, u, o, r, n, m, t1, t2, t3, t4, t5, t6, e, h1, h2, h3, h4, h5, h6⟩ := x
  exact ⟨a, u, o, r, n, m, t1, t2, t3, t4, t5, t6, e, k _ _ h1 h2, h2, h3, k _ _ h4 h5, h5, h6⟩
section
variable {prog : Program} {w : World} {A : Around} {E : Value → Shared → Prop} {s : Shared}
theorem st_cmp {vs : List Value} {k : Value → St5} (hu : A.units + 1 < cLine) (hp : ∀ v ∈ vs, IsSt s.heap v (k v)) : SrtO.Cmp prog w A s (tuples' true) (fun p => p.1 ∈ vs) (SrtO.lt2 fun v u => stLt (k v) (k u)) := by
  intro p q hm hm'
  have h1 := hp _ hm
  have h2 := hp _ hm'
  show wpAny (model prog w) A (keyLt' (tuples' true) p.1 q.1) (fun r s' => s' = s ∧ r = stLt (k p.1) (k q.1)) (fun _ _ => False) s
  generalize k p.1 = x at h1 ⊢
  generalize k q.1 = y at h2 ⊢
  obtain ⟨a, u, o, r, n, m, t1, t2, t3, t4, t5, t6, e, g1, g2, g3, g4, g5, g6⟩ := h1
  obtain ⟨a', u', o', r', n', m', u1, u2, u3, u4, u5, u6, e', j1, j2, j3, j4, j5, j6⟩ := h2
  rw [e, e']
  refine PySem.W.kat_lt g1 g3 j1 j3 ?_
  show PySem.W.KatLex prog w A true (decide (5 < 5)) _ [(.int x.one t1, .int y.one u1), (.int x.other t2, .int y.other u2), (.ref u, .ref u'), (.int x.ticks t3, .int y.ticks u3), (.int x.change t4, .int y.change u4)] 0 s
  refine PySem.W.kat_cons (SeqAt.EqAt.int_int _ _ _ _ prog w _ _ ?_)
  refine PySem.W.kat_go (fun e1 => ?ye1) (fun e1 => ?ne1)
  case ne1 =>
    have ex : ¬ x.one = y.one := by simpa using e1
    refine PySem.W.kat_no (oneLt_int ⟨rfl, ?_⟩)
    unfold stLt
    rw [if_neg ex]
  have ex : x.one = y.one := by simpa using e1
  refine PySem.W.kat_yes (PySem.W.kat_cons (SeqAt.EqAt.int_int _ _ _ _ prog w _ _ ?_))
  refine PySem.W.kat_go (fun e2 => ?ye2) (fun e2 => ?ne2)
  case ne2 =>
    have ey : ¬ x.other = y.other := by simpa using e2
    refine PySem.W.kat_no (PySem.W.kat_one _ _ (PyProof.Rows.lt_int (Q := PySem.W.BoolBack _) ⟨rfl, ?_⟩))
    unfold stLt
    rw [if_pos ex, if_neg ey]
  have ey : x.other = y.other := by simpa using e2
  have k1 : IsTupleKey (PySem.intKind prog w) s.heap [x.p, x.q] u := ⟨r, _, m, g4, g5, g6, .cons (by simp [PySem.intKind, Value.isInt]) (.cons (by simp [PySem.intKind, Value.isInt]) .nil)⟩
  have k2 : IsTupleKey (PySem.intKind prog w) s.heap [y.p, y.q] u' := ⟨r', _, m', j4, j5, j6, .cons (by simp [PySem.intKind, Value.isInt]) (.cons (by simp [PySem.intKind, Value.isInt]) .nil)⟩
  refine PySem.W.kat_yes (PySem.W.kat_cons (wpAny_eqBool_tuple (by omega) k1 k2 ?_))
  refine PySem.W.kat_go (fun e3 => ?ye3) (fun e3 => ?ne3)
  case ne3 =>
    have ez : ¬ (x.p = y.p ∧ x.q = y.q) := by simpa using e3
    refine PySem.W.kat_no (PySem.W.kat_one _ _ (HT.lt_tupInts (ns := [x.p, x.q]) (ms := [y.p, y.q]) ⟨r, g4, g5, m, g6⟩ ⟨r', j4, j5, m', j6⟩ (.cons _ _ (.cons _ _ .nil)) (.cons _ _ (.cons _ _ .nil)) (by omega) ⟨rfl, ?_⟩))
    unfold stLt
    rw [if_pos ex, if_pos ey, if_neg ez]
    show HT.lexLt [x.p, x.q] [y.p, y.q] = pqLt x y
    rw [HT.lexLt_cons, HT.lexLt_cons, HT.lexLt_nil_nil]
    unfold pqLt
    by_cases hpp : x.p = y.p
    · rw [if_pos hpp, if_pos hpp, if_neg (fun z => ez ⟨hpp, z⟩)]
    · rw [if_neg hpp, if_neg hpp]
  have ez : x.p = y.p ∧ x.q = y.q := by simpa using e3
  refine PySem.W.kat_yes (PySem.W.kat_cons (SeqAt.EqAt.int_int _ _ _ _ prog w _ _ ?_))
  refine PySem.W.kat_go (fun e4 => ?ye4) (fun e4 => ?ne4)
  case ne4 =>
    have et : ¬ x.ticks = y.ticks := by simpa using e4
    refine PySem.W.kat_no (PySem.W.kat_one _ _ (PyProof.Rows.lt_int (Q := PySem.W.BoolBack _) ⟨rfl, ?_⟩))
    unfold stLt
    rw [if_pos ex, if_pos ey, if_pos ez, if_neg et]
  have et : x.ticks = y.ticks := by simpa using e4
  refine PySem.W.kat_yes (PySem.W.kat_cons (SeqAt.EqAt.int_int _ _ _ _ prog w _ _ ?_))
  refine PySem.W.kat_go (fun e5 => ?ye5) (fun e5 => ?ne5)
  case ne5 =>
    refine PySem.W.kat_no (PySem.W.kat_one _ _ (PyProof.Rows.lt_int (Q := PySem.W.BoolBack _) ⟨rfl, ?_⟩))
    unfold stLt
    rw [if_pos ex, if_pos ey, if_pos ez, if_pos et]
  have ec : x.change = y.change := by simpa using e5
  refine PySem.W.kat_yes (PySem.W.kat_nil ⟨rfl, ?_⟩)
  unfold stLt
  rw [if_pos ex, if_pos ey, if_pos ez, if_pos et, ec]
  exact (decide_eq_false (Int.lt_irrefl _)).symm
theorem st_firsts {h : Heap} : ∀ {vs : List Value}, (∀ v ∈ vs, ∃ s, IsSt h v s) → ∃ fs : List Value, PySem.W.KatTups h vs fs ∧ fs.length = vs.length ∧ ∀ f ∈ fs, ∃ x t, f = Value.int x t
  | [], _ => ⟨[], PySem.W.KatTups.nil, rfl, fun _ hm => absurd hm (by simp)⟩
  | v :: vs, hp => by
    obtain ⟨fs, h1, h2, h3⟩ := st_firsts (vs := vs) fun v' hm => hp v' (List.mem_cons_of_mem _ hm)
    obtain ⟨s, a, u, o, r, n, m, t1, t2, t3, t4, t5, t6, rfl, g1, g2, g3, _⟩ := hp v List.mem_cons_self
    refine ⟨.int s.one t1 :: fs, PySem.W.KatTups.cons g1 g2 g3 rfl h1, by rw [List.length_cons, List.length_cons, h2], fun f hm => ?_⟩
    rcases List.mem_cons.mp hm with rfl | hm
    · exact ⟨_, _, rfl⟩
    · exact h3 f hm
theorem st_sortable {a : Addr} {vs : List Value} {k : Value → St5} (hu : A.units + 1 < cLine) (h0 : 0 < vs.length) (hp : ∀ v ∈ vs, IsSt s.heap v (k v)) (ha : ∀ o, s.heap.get? a = some o → o.cls ≠ .type "tuple") :
    SrtO.SortableO prog w A s a vs fun v u => stLt (k v) (k u) := by
  intro h' keep
  have hp' : ∀ v ∈ vs, IsSt h' v (k v) := fun v hm => (hp v hm).keeps fun b o e c => keep b o (fun z => ha o (by rw [← z]; exact e) c) e
  obtain ⟨fs, h1, h2, h3⟩ := st_firsts fun v hm => ⟨_, hp' v hm⟩
  refine ⟨tuples' true, fun Q E hq => ?_, st_cmp hu hp'⟩
  refine PySem.W.kat_kind (T := .type "int") h1 (by omega) (fun f hm => ?_) (by rfl) ?_
  · obtain ⟨x, t, rfl⟩ := h3 f hm
    exact PySem.W.Looks.now
  · have e : (Value.type "int" != Value.type "tuple") = true := by decide +kernel
    rw [e]
    exact hq
end
section
open Classical
variable {X : Cx} {pins : List (Addr × Obj)} {σ : L2.St} {H : Hp} {s : Shared}
theorem is_st {v : V} {u : Value} {t : St5} (I : Inv X pins σ H s) (d : Dp X.K H v (stD t)) (r : RelV v u) : IsSt s.heap u t := by
  obtain ⟨a, b, rfl, h1, h2⟩ := stD_inv d
  cases (show u = Value.ref a from r)
  obtain ⟨i1, r1, ⟨o, g1, g2, n, g3⟩, _⟩ := I.tuple h1
  obtain ⟨i2, r2, ⟨o2, j1, j2, m, j3⟩, _⟩ := I.tuple h2
  cases r1 with
  | cons q1 r1 =>
    cases r1 with
    | cons q2 r1 =>
      cases r1 with
      | cons q3 r1 =>
        cases r1 with
        | cons q4 r1 =>
          cases r1 with
          | cons q5 r1 =>
            cases r1
            cases r2 with
            | cons p1 r2 =>
              cases r2 with
              | cons p2 r2 =>
                cases r2
                obtain ⟨t1, rfl⟩ := q1
                obtain ⟨t2, rfl⟩ := q2
                obtain rfl := q3
                obtain ⟨t3, rfl⟩ := q4
                obtain ⟨t4, rfl⟩ := q5
                obtain ⟨t5, rfl⟩ := p1
                obtain ⟨t6, rfl⟩ := p2
                exact ⟨a, b, o, o2, n, m, t1, t2, t3, t4, t5, t6, rfl, g1, g2, g3, j1, j2, j3⟩
theorem IsSt.uniq {h : Heap} {v : Value} {s t : St5} (x : IsSt h v s) (y : IsSt h v t) : s = t := by
  obtain ⟨a, u, o, r, n, m, t1, t2, t3, t4, t5, t6, rfl, g1, g2, g3, g4, g5, g6⟩ := x
  obtain ⟨a', u', o', r', n', m', u1, u2, u3, u4, u5, u6, e', j1, j2, j3, j4, j5, j6⟩ := y
  cases e'
  rw [g1] at j1
  cases j1
  rw [g3] at j3
  injection j3 with j3 _
  injection j3 with j3
  simp only [List.cons.injEq, Value.int.injEq, Value.ref.injEq, and_true] at j3
  obtain ⟨⟨e1, _⟩, ⟨e2, _⟩, e3, ⟨e4, _⟩, e5, _⟩ := j3
  subst e3
  rw [g4] at j4
  cases j4
  rw [g6] at j6
  injection j6 with j6 _
  injection j6 with j6
  simp only [List.cons.injEq, Value.int.injEq, and_true] at j6
  obtain ⟨⟨e6, _⟩, e7, _⟩ := j6
  cases s
  cases t
  simp_all
/-- steps in order -/
def SrS (ts : List St5) : Prop := ts.Pairwise fun x y => stLt y x = false
theorem dpa_of {K : PySem.W.Frag} {H : Hp} {k : Value → St5} : ∀ {l : List Value}, (∀ u ∈ l, Dp K H (backV u) (stD (k u))) → DpAll K H (l.map backV) ((l.map k).map stD)
  | [], _ => .nil
  | u :: l, h => .cons (h u List.mem_cons_self) (dpa_of fun v m => h v (List.mem_cons_of_mem _ m))
theorem ks_eq {k : Value → St5} (I : Inv X pins σ H s) : ∀ {xs : List V} {its : List Value} {ss : List St5}, Vals xs its → DpAll X.K H xs (ss.map stD) → (∀ v ∈ its, IsSt s.heap v (k v)) → its.map k = ss
  | [], _, ss, r, h, _ => by
    cases r
    cases ss with
    | nil => rfl
    | cons => cases h
  | x :: xs, _, [], r, h, _ => by cases h
  | x :: xs, _, t :: ss, r, h, hk => by
    cases r with
    | cons r1 r2 =>
      cases h with
      | cons h1 h2 =>
        rw [List.map_cons, ks_eq I r2 h2 fun v m => hk v (List.mem_cons_of_mem _ m), (hk _ List.mem_cons_self).uniq (is_st I h1 r1)]
/-- sorted of a list of steps: the same ones in order -/
def rSortSt (K : PySem.W.Frag) : List V → Hp → VK → Prop := fun vs H Q => ∃ (a : Addr) (xs : List V) (ss : List St5), vs = [V.ref a] ∧ SqL K H a xs ∧ DpAll K H xs (ss.map stD) ∧
  ∀ (ys : List V) (ts : List St5) (p : Addr), ys.Perm xs → ts.Perm ss → DpAll K H ys (ts.map stD) → SrS ts → H p = none → Q (.ref p) (upd H p (.lst ys))
theorem cr_sortSt {j : Nat} (hr : Room j X.A) : CallR X (.builtin "sorted") (rSortSt X.K) := by
  intro pins s σ H vs us Q I r h
  obtain ⟨a, xs, ss, rfl, hs, hD0, q⟩ := h
  have hx : ∀ x ∈ xs, ∃ t, Dp X.K H x (stD t) := fun x hx => by
    obtain ⟨i, hi⟩ := List.mem_iff_getElem?.mp hx
    obtain ⟨d, h1, h2⟩ := dpa_get hD0 hi
    rw [List.getElem?_map] at h1
    cases q : ss[i]? with
    | none =>
      rw [q] at h1
      cases h1
    | some t =>
      rw [q] at h1
      cases h1
      exact ⟨t, h2⟩
  obtain ⟨its, rv, hl, hz⟩ := I.list hs
  obtain ⟨u, rfl, ru⟩ := vals1 r
  cases (show u = Value.ref a from ru)
  have hun := hr.un
  have all : ∀ v ∈ its, ∃ t, IsSt s.heap v t := fun v hv => by
    obtain ⟨i, hi⟩ := List.mem_iff_getElem?.mp hv
    have hlen := rv.length
    have hil : i < its.length := (List.getElem?_eq_some_iff.mp hi).1
    have hx1 : xs[i]? = some (xs[i]'(by omega)) := List.getElem?_eq_getElem (by omega)
    obtain ⟨w', hw, rw'⟩ := rv.get hx1
    rw [hi] at hw
    cases hw
    obtain ⟨t, ht⟩ := hx _ (mem_of_get hx1)
    exact ⟨t, is_st I ht rw'⟩
  let k : Value → St5 := fun v => if h : ∃ t, IsSt s.heap v t then Classical.choose h else ⟨0, 0, 0, 0, 0, 0⟩
  have hk : ∀ v ∈ its, IsSt s.heap v (k v) := fun v hv => by
    have e : k v = Classical.choose (all v hv) := dif_pos (all v hv)
    rw [e]
    exact Classical.choose_spec (all v hv)
  have hks := ks_eq I rv hD0 hk
  obtain ⟨e1, e2⟩ := refs_back rv fun x m => by
    obtain ⟨t, ht⟩ := hx x m
    obtain ⟨b, c, e, _⟩ := stD_inv ht
    exact ⟨b, e⟩
  refine SrtO.sorted_ord (swo_st k) hl.isList (by rw [← rv.length]; exact hz) (fun h2 h₁ b hb kk => ?_) fun out h1 h2 => ?_
  · refine st_sortable (s := { s with heap := h₁ }) (show X.A.in1.in1.units + 1 < cLine by show X.A.units + 1 + 1 + 1 < cLine; omega) (by omega) (fun v hv => (hk v hv).keeps fun c o e _ => (kk c o e).2) fun o e => ?_
    cases (show some o = some (seqObj "list" its.toArray 0) from e.symm.trans hb)
    intro c
    exact absurd (Value.type.inj c) (by decide)
  · have h3 : ∀ u ∈ out, ∃ a, u = Value.ref a := fun u hu => e2 u (h2.perm.mem_iff.mp hu)
    obtain ⟨n, hn⟩ := PyProof.Rows.sortedAll_at s.heap its out.toArray
    have hp : (out.map backV).Perm xs := by
      rw [e1]
      exact h2.perm.map backV
    have hD : DpAll X.K H (out.map backV) ((out.map k).map stD) := dpa_of fun u hu => by
      obtain ⟨b, rfl⟩ := h3 u hu
      obtain ⟨t, ht⟩ := hx (backV (.ref b)) (hp.mem_iff.mp (List.mem_map.mpr ⟨_, hu, rfl⟩))
      have h5 := is_st I ht (show RelV (backV (.ref b)) (.ref b) from rfl)
      rw [(hk _ (h2.perm.mem_iff.mp hu)).uniq h5]
      exact ht
    have hO : SrS (out.map k) := List.pairwise_map.mpr h1
    refine ⟨.ref (s.heap.objs.size + 1), upd H (s.heap.objs.size + 1) (.lst (out.map backV)), I.laid (t' := s.toks) (fun b o e => PyProof.Rows.sortedAll_old e) (Nat.le_succ _) ⟨?_, out, n, vals_back h3, hn⟩, rfl, q _ _ _ hp (by rw [← hks]; exact h2.perm.map k) hD hO (I.hok.fresh (Nat.le_succ _))⟩
    rw [hp.length_eq]
    exact hz
end
end AA

set_option Elab.async false
set_option linter.all false
set_option maxRecDepth 100000
set_option maxHeartbeats 4000000
/-! A dict whose keys are steps (tuples with a tuple in them), whose values are True. -/
namespace AA
open PySem PySem.Spec PyProof.Rows L2 Evl
def stK (s : St5) : NestedKey := .tup [.num s.one, .num s.other, .tup [.num s.p, .num s.q], .num s.ticks, .num s.change]
theorem stK_inj {s t : St5} (h : stK s = stK t) : s = t := by
  unfold stK at h
  injection h with h
  injection h with a1 h
  injection h with a2 h
  injection h with a3 h
  injection h with a4 h
  injection h with a5 _
  injection a1 with a1
  injection a2 with a2
  injection a4 with a4
  injection a5 with a5
  injection a3 with a3
  injection a3 with b1 a3
  injection a3 with b2 _
  injection b1 with b1
  injection b2 with b2
  cases s
  cases t
  simp_all
theorem IsSt.nested {h : Heap} {b : Addr} {s : St5} (x : IsSt h (.ref b) s) : NestedIs h (stK s) (.ref b) := by
  obtain ⟨a, u, o, r, n, m, t1, t2, t3, t4, t5, t6, e, g1, g2, g3, g4, g5, g6⟩ := x
  cases e
  exact .tup g1 g2 g3 (.cons (.int _ _) (.cons (.int _ _) (.cons (.tup g4 g5 g6 (.cons (.int _ _) (.cons (.int _ _) .nil))) (.cons (.int _ _) (.cons (.int _ _) .nil)))))
theorem IsSt.key {prog : Program} {w : World} {h : Heap} {b : Addr} {s : St5} (x : IsSt h (.ref b) s) : (nestedKind prog w).is h (stK s) b := ⟨x.nested, by simp [stK, NestedKey.depth, NestedKey.depthAll]⟩
/-- the entries of the dict -/
def sdEn (x : St5 × Addr) : NestedKey × Addr × Value := (stK x.1, x.2, .bool true)
/-- a dict at a, its keys these steps at these places -/
def SD (P : Program) (w : World) (a : Addr) (ks : List (St5 × Addr)) : HO := .ext fun h => ks.length ≤ sizeLine ∧ (a == sysModules) = false ∧ (ks.map (·.1)).Nodup ∧
  ∃ o es ep, h.get? a = some o ∧ o.ExactDict ∧ o.data = .dict es ep ∧ es.toList = (ks.map sdEn).map (entryOfKey (nestedKind P w))
/-- and its keys stand -/
def KsOk (K : PySem.W.Frag) (H : Hp) (ks : List (St5 × Addr)) : Prop := ∀ x ∈ ks, Dp K H (.ref x.2) (stD x.1)
theorem KsOk.ex {K : PySem.W.Frag} {H H' : Hp} {ks : List (St5 × Addr)} (h : KsOk K H ks) (e : Ex H H') : KsOk K H' ks := fun x m => dp_ex e _ _ (h x m)
theorem KsOk.nil {K : PySem.W.Frag} {H : Hp} : KsOk K H [] := fun _ m => absurd m (by simp)
theorem KsOk.snoc {K : PySem.W.Frag} {H : Hp} {ks : List (St5 × Addr)} {s : St5} {b : Addr} (h : KsOk K H ks) (d : Dp K H (.ref b) (stD s)) : KsOk K H (ks ++ [(s, b)]) := fun x m => by
  rcases List.mem_append.mp m with m | m
  · exact h x m
  · rw [List.mem_singleton] at m
    subst m
    exact d
theorem sd_nodup : ∀ {ks : List (St5 × Addr)}, (ks.map (·.1)).Nodup → ((ks.map sdEn).map (·.1)).Nodup := by
  intro ks h
  have e : (ks.map sdEn).map (·.1) = (ks.map (·.1)).map stK := by
    rw [List.map_map, List.map_map]
    rfl
  rw [e]
  exact h.map stK fun x y n z => n (stK_inj z)
theorem sd_at (t : St5) : ∀ ks : List (St5 × Addr), (atKey (ks.map sdEn) (stK t)).isSome = decide (t ∈ ks.map (·.1))
  | [] => rfl
  | x :: r => by
    have ih := sd_at t r
    by_cases e : x.1 = t
    · have h1 : (stK x.1 = stK t) := by rw [e]
      have h2 : atKey ((x :: r).map sdEn) (stK t) = some (x.2, .bool true) := by simp [atKey, sdEn, h1]
      rw [h2, List.map_cons, decide_eq_true (List.mem_cons.mpr (.inl e.symm))]
      rfl
    · have h1 : ¬ stK x.1 = stK t := fun z => e (stK_inj z)
      have h2 : atKey ((x :: r).map sdEn) (stK t) = atKey (r.map sdEn) (stK t) := by simp [atKey, sdEn, h1]
      rw [h2, ih]
      exact decide_eq_decide.mpr ⟨fun m => List.mem_cons_of_mem _ m, fun m => (List.mem_cons.mp m).elim (fun z => absurd z.symm e) id⟩
theorem sd_none {t : St5} {ks : List (St5 × Addr)} (h : t ∉ ks.map (·.1)) : atKey (ks.map sdEn) (stK t) = none := by
  have := sd_at t ks
  rw [decide_eq_false h] at this
  cases q : atKey (ks.map sdEn) (stK t) with
  | none => rfl
  | some x =>
    rw [q] at this
    cases this
section
variable {X : Cx} {pins : List (Addr × Obj)} {σ : L2.St} {H : Hp} {s : Shared} {a : Addr} {ks : List (St5 × Addr)} {A : Around} {E : Value → Shared → Prop}
theorem sd_is {x : St5 × Addr} (I : Inv X pins σ H s) (d : Dp X.K H (.ref x.2) (stD x.1)) : (nestedKind X.prog X.w).is s.heap (stK x.1) x.2 :=
  IsSt.key (is_st I d rfl)
theorem sd_of (I : Inv X pins σ H s) (e : H a = some (SD X.prog X.w a ks)) (k : KsOk X.K H ks) : ks.length ≤ sizeLine ∧ (a == sysModules) = false ∧ (ks.map (·.1)).Nodup ∧ s.heap.DictOfH (nestedKind X.prog X.w) a (ks.map sdEn) := by
  obtain ⟨⟨z, hd, hn, o, es, ep, h1, h2, h3, h4⟩, _, _⟩ := (show ObjOk X.prog X.w H s.heap a (SD X.prog X.w a ks) from I.hok a _ e)
  refine ⟨z, hd, hn, o, es, ep, h1, h2, h3, h4, fun y hy => ?_, sd_nodup hn⟩
  obtain ⟨x, hx, rfl⟩ := List.mem_map.mp hy
  exact sd_is I (k x hx)
theorem sd_ok {P : Program} {w : World} {H' : Hp} {h' : Heap} (z : ks.length ≤ sizeLine) (hd : (a == sysModules) = false) (hn : (ks.map (·.1)).Nodup) (d : h'.DictOfH (nestedKind P w) a (ks.map sdEn)) : ObjOk P w H' h' a (SD P w a ks) := by
  obtain ⟨o, es, ep, h1, h2, h3, h4, _⟩ := d
  exact ⟨⟨z, hd, hn, o, es, ep, h1, h2, h3, h4⟩, ⟨o, h1⟩, fun h1' h2' p k => by
    obtain ⟨z, hd, hn, o, es, ep, g1, g⟩ := p
    exact ⟨z, hd, hn, o, es, ep, k _ g1, g⟩⟩
/-- found[step] = True, the step new -/
theorem sd_set {t : St5} {b : Addr} {Q : Unit → Shared → Prop} (hu : A.units + 9 < cLine) (I : Inv X pins σ H s) (e : H a = some (SD X.prog X.w a ks)) (k : KsOk X.K H ks) (d : Dp X.K H (.ref b) (stD t)) (hn : t ∉ ks.map (·.1)) (hl : ks.length < sizeLine)
    (h : ∀ s', Inv X pins σ (upd H a (SD X.prog X.w a (ks ++ [(t, b)]))) s' → Q () s') : wpAny (model X.prog X.w) A (setItem (.ref a) (.ref b) (.bool true)) Q E s := by
  obtain ⟨z, hd, nd, dd⟩ := sd_of I e k
  refine wpAny_setItem_heap (hsz := by rw [List.length_map]; exact z) (show A.in1.units + 8 < cLine by rw [Around.in1_units]; omega) (sd_is (x := (t, b)) I d) dd fun h' dd' hs => h _ ?_
  rw [storedH_new (sd_none hn)] at dd'
  have e2 : ks.map sdEn ++ [(stK t, b, Value.bool true)] = (ks ++ [(t, b)]).map sdEn := by rw [List.map_append]; rfl
  rw [show ((stK (t, b).1), b, Value.bool true) = (stK t, b, Value.bool true) from rfl, e2] at dd'
  obtain ⟨q, es, ep, hq, h2⟩ := id dd'
  refine d_write I (by rw [e]; exact True.intro) hs ⟨q, hq⟩ (sd_ok (by rw [List.length_append]; exact hl) hd ?_ dd')
  rw [List.map_append, List.nodup_append]
  refine ⟨nd, by simp, fun x hx y hy => ?_⟩
  simp only [List.map_cons, List.map_nil, List.mem_singleton] at hy
  subst hy
  exact fun q => hn (q ▸ hx)
theorem sd_in {t : St5} {b : Addr} {Q : Value → Shared → Prop} (hu : A.units + 9 < cLine) (I : Inv X pins σ H s) (e : H a = some (SD X.prog X.w a ks)) (k : KsOk X.K H ks) (d : Dp X.K H (.ref b) (stD t))
    (h : ∀ s', Inv X pins σ H s' → Q (.bool (decide (t ∈ ks.map (·.1)))) s') : wpAny (model X.prog X.w) A (compareOp .In (.ref b) (.ref a)) Q E s := by
  obtain ⟨z, hd, nd, dd⟩ := sd_of I e k
  refine wpAny_in_heap (show A.in1.units + 8 < cLine by rw [Around.in1_units]; omega) (sd_is (x := (t, b)) I d) hd dd ?_
  rw [sd_at]
  exact h _ (I.tok _)
theorem sd_notIn {t : St5} {b : Addr} {Q : Value → Shared → Prop} (hu : A.units + 9 < cLine) (I : Inv X pins σ H s) (e : H a = some (SD X.prog X.w a ks)) (k : KsOk X.K H ks) (d : Dp X.K H (.ref b) (stD t))
    (h : ∀ s', Inv X pins σ H s' → Q (.bool (!decide (t ∈ ks.map (·.1)))) s') : wpAny (model X.prog X.w) A (compareOp .NotIn (.ref b) (.ref a)) Q E s := by
  obtain ⟨z, hd, nd, dd⟩ := sd_of I e k
  refine wpAny_notIn_heap (show A.in1.units + 8 < cLine by rw [Around.in1_units]; omega) (sd_is (x := (t, b)) I d) hd dd ?_
  rw [sd_at]
  exact h _ (I.tok _)
end
end AA

set_option Elab.async false
set_option linter.all false
set_option maxRecDepth 100000
set_option maxHeartbeats 4000000
/-! The same: None looked up, the rules for the program's text, list of it, a comprehension that makes one. -/
namespace AA
open PySem PySem.Spec PyProof.Rows L2 Evl
section
variable {prog : Program} {w : World} {A : Around} {E : Value → Shared → Prop} {s : Shared}
theorem find_none {d : Addr} {o : Obj} {es : Array DictEntry} {ep : Nat} {hh : Int} {Q : Option Nat → Shared → Prop} (hu : A.units + 8 < cLine) (ho : s.heap.get? d = some o) (hd : o.data = .dict es ep)
    (hk : ∀ e ∈ es, ∃ t b, e.key = .ref b ∧ IsSt s.heap (.ref b) t) (hq : Q none s) : wpAny (model prog w) A (dictFind d .none hh) Q E s := by
  have key : ∀ (i : Nat) (e : DictEntry), es[i]? = some e → ∃ t b, e.key = .ref b ∧ IsSt s.heap (.ref b) t := fun i e h => hk e (Array.mem_of_getElem? h)
  unfold dictFind
  try with_reducible refine wpAny_holding ?_
  refine wpAny_bind (wpAny_dictEntries ho hd ?_)
  dsimp only
  by_cases hc : ((Value.none :: (placesWithHash es.size (fun i => es[i]?.map (·.hash)) hh).filterMap (fun i => es[i]?.map (·.key))).all carriedByValue) = true
  · rw [if_pos hc]
    have hp : ∀ i ∈ placesWithHash es.size (fun i => es[i]?.map (·.hash)) hh, es[i]? = none := fun i hi => by
      cases q : es[i]? with
      | none => rfl
      | some e =>
        obtain ⟨t, b, e1, _⟩ := key i e q
        have m : e.key ∈ (placesWithHash es.size (fun i => es[i]?.map (·.hash)) hh).filterMap (fun i => es[i]?.map (·.key)) := List.mem_filterMap.mpr ⟨i, hi, by rw [q]; rfl⟩
        have := List.all_eq_true.mp hc _ (List.mem_cons_of_mem _ m)
        rw [e1] at this
        cases this
    unfold dictWalkPlain
    refine wpAny_bind ?_
    refine wpAny_forIn_list _ (fun rest b s' => s' = s ∧ b = (none, ()) ∧ ∀ i ∈ rest, es[i]? = none) _ ?_ ?_ _ _ ⟨rfl, rfl, hp⟩
    · rintro x rest b s' ⟨rfl, rfl, hr⟩
      rw [hr x List.mem_cons_self]
      exact wpAny_pure ⟨rfl, rfl, fun i hi => hr i (List.mem_cons_of_mem _ hi)⟩
    · rintro b s' ⟨rfl, rfl, _⟩
      exact wpAny_pure hq
  · rw [if_neg hc]
    have hst : ∀ v ∈ (placesWithHash es.size (fun i => es[i]?.map (·.hash)) hh).filterMap (fun i => es[i]?.map (·.key)), ∃ t b, v = .ref b ∧ IsSt s.heap (.ref b) t := fun v hv => by
      obtain ⟨i, _, hi⟩ := List.mem_filterMap.mp hv
      cases q : es[i]? with
      | none =>
        rw [q] at hi
        cases hi
      | some e =>
        rw [q] at hi
        obtain rfl : e.key = v := by simpa using hi
        exact key i e q
    have tell : ∀ (st : List Value) (R : Bool → Shared → Prop), (∀ v ∈ st, ∃ t b, v = .ref b ∧ IsSt s.heap (.ref b) t) → R false s → wpAny (model prog w) A (tableMayTell .none st) R E s := by
      intro st R hv hR
      unfold tableMayTell
      split
      · exact wpAny_pure hR
      · refine wpAny_bind (quiet_key .none _ 8 s .none (by simp [NestedKey.depth]) A E _ ?_)
        simp only [Bool.not_true, Bool.false_eq_true, if_false]
        refine wpAny_bind ?_
        refine wpAny_forIn_list _ (fun rest r s' => s' = s ∧ r = (none, ()) ∧ ∀ v ∈ rest, ∃ t b, v = .ref b ∧ IsSt s.heap (.ref b) t) _ ?_ ?_ _ _ ⟨rfl, rfl, hv⟩
        · rintro x rest r s' ⟨rfl, rfl, hr⟩
          obtain ⟨t, b, rfl, hb⟩ := hr x List.mem_cons_self
          refine wpAny_bind (quiet_key (stK t) _ 8 s' hb.nested (by simp [stK, NestedKey.depth, NestedKey.depthAll]) A E _ ?_)
          simp only [Bool.not_true, Bool.false_eq_true, if_false]
          exact wpAny_pure ⟨rfl, rfl, fun v m => hr v (List.mem_cons_of_mem _ m)⟩
        · rintro r s' ⟨rfl, rfl, _⟩
          exact wpAny_pure hR
    rw [if_neg (fun z => ?bad)]
    case bad =>
      have z1 := eq_of_beq z
      obtain ⟨t, b, q, _⟩ := hst .none (by rw [z1]; exact List.mem_cons_self)
      cases q
    refine wpAny_bind (tell _ _ hst ?_)
    rw [if_neg (by simp)]
    refine wpAny_bind ?_
    refine wpAny_forIn_list _ (fun rest b s' => s' = s ∧ b = (none, none)) _ ?_ ?_ _ _ ⟨rfl, rfl⟩
    · rintro x rest b s' ⟨rfl, rfl⟩
      cases q : es[x]? with
      | none => exact wpAny_pure ⟨rfl, rfl⟩
      | some e =>
        obtain ⟨t, b, e1, hb⟩ := key x e q
        dsimp only
        by_cases hs : (e.hash == hh) = true
        · rw [if_pos hs]
          refine wpAny_bind (wpAny_dictEpoch ho hd (wpAny_bind ?_))
          rw [e1]
          refine eqAt_key (stK t) .none A s' _ _ hb.nested .none (by simp only [NestedKey.depth]; omega) _ _ _ _ ?_
          refine wpAny_bind (wpAny_dictEpoch ho hd ?_)
          rw [if_neg (by simp)]
          rw [if_neg (by simp [stK, NestedKey.beq])]
          refine wpAny_bind (wpAny_rule ?_)
          rw [if_neg (by simp)]
          exact wpAny_pure ⟨rfl, rfl⟩
        · rw [if_neg hs]
          exact wpAny_pure ⟨rfl, rfl⟩
    · rintro b s' ⟨rfl, rfl⟩
      exact wpAny_pure hq
theorem get_none {d : Addr} {o : Obj} {es : Array DictEntry} {ep : Nat} {Q : Option Value → Shared → Prop} (hu : A.units + 8 < cLine) (ho : s.heap.get? d = some o) (hd : o.data = .dict es ep)
    (hk : ∀ e ∈ es, ∃ t b, e.key = .ref b ∧ IsSt s.heap (.ref b) t) (hq : Q none { s with toks := s.toks + 1 }) : wpAny (model prog w) A (dictGet d .none) Q E s := by
  unfold dictGet
  try with_reducible refine wpAny_holding ?_
  exact wpAny_bind (pyHash_key .none .none A s _ .none (by simp only [NestedKey.depth]; omega) (wpAny_bind (find_none (s := { s with toks := s.toks + 1 }) hu ho hd hk (wpAny_pure hq))))
theorem notIn_none {d : Addr} {o : Obj} {es : Array DictEntry} {ep : Nat} {Q : Value → Shared → Prop} (hu : A.units + 9 < cLine) (hs : (d == sysModules) = false) (ho : s.heap.get? d = some o) (hx : o.ExactDict) (hd : o.data = .dict es ep)
    (hk : ∀ e ∈ es, ∃ t b, e.key = .ref b ∧ IsSt s.heap (.ref b) t) (hq : Q (.bool true) { s with toks := s.toks + 1 }) : wpAny (model prog w) A (compareOp .NotIn .none (.ref d)) Q E s := by
  have hT : s.TypeIs (.ref d) "dict" := ⟨o, ho, hx.1⟩
  show wpAny _ _ (contains (.ref d) .none >>= fun b => pure (.bool (!b))) Q E s
  refine wpAny_bind (wpAny_contains_slot hT slot_dict_contains (wpAny_call_entry slot_dict_contains hT entry_dict_contains ?_ (args_dict_contains _ _)))
  show wpAny _ _ (dictGet d .none >>= _) _ _ s
  refine wpAny_bind (get_none (by rw [Around.in1_units]; omega) ho hd hk ?_)
  exact wpAny_bind (wpAny_pendingKey_other hs (wpAny_pure ⟨_, rfl, wpAny_truthy_bool (wpAny_pure hq)⟩))
end
section
variable {X : Cx} {o i e value : Expr} {pos pos' tpos : Pos} {j : Nat} {td ty tv : TE}
theorem sd_ents {pins : List (Addr × Obj)} {σ : L2.St} {H : Hp} {s : Shared} {a : Addr} {ks : List (St5 × Addr)} (I : Inv X pins σ H s) (e : H a = some (SD X.prog X.w a ks)) (k : KsOk X.K H ks) :
    (a == sysModules) = false ∧ ks.length ≤ sizeLine ∧ ∃ o es ep, s.heap.get? a = some o ∧ o.ExactDict ∧ o.data = .dict es ep ∧ es.toList = (ks.map sdEn).map (entryOfKey (nestedKind X.prog X.w)) ∧ ∀ e ∈ es, ∃ t b, e.key = .ref b ∧ IsSt s.heap (.ref b) t := by
  obtain ⟨⟨z, hd, hn, o, es, ep, h1, h2, h3, h4⟩, _, _⟩ := (show ObjOk X.prog X.w H s.heap a (SD X.prog X.w a ks) from I.hok a _ e)
  refine ⟨hd, z, o, es, ep, h1, h2, h3, h4, fun en hen => ?_⟩
  have m : en ∈ (ks.map sdEn).map (entryOfKey (nestedKind X.prog X.w)) := h4 ▸ Array.mem_toList_iff.mpr hen
  obtain ⟨y, hy, rfl⟩ := List.mem_map.mp m
  obtain ⟨x, hx, rfl⟩ := List.mem_map.mp hy
  exact ⟨x.1, x.2, rfl, is_st I (k x hx) rfl⟩
/-- {}, to hold steps -/
def tSNew (X : Cx) : TE := fun _ H Q => ∀ p, H p = none → Q (.ref p) (upd H p (SD X.prog X.w p []))
theorem sd_empty {P : Program} {w : World} {H : Hp} (h : Heap) (hb : sysModules < h.objs.size) : ObjOk P w H (h.push { cls := .type "dict", data := .dict #[] }) h.objs.size (SD P w h.objs.size []) :=
  sd_ok (Nat.zero_le _) (beq_eq_false_iff_ne.mpr (Ne.symm (Nat.ne_of_lt hb))) List.nodup_nil (Heap.DictOfH.new h)
theorem pe_snew : PE X (.Dict [] [] pos) (tSNew X) := ⟨fun pins s σ H Q I h =>
  have hf : s.heap.objs.size ≤ s.heap.objs.size := Nat.le_refl _
  wpAny_Dict_empty ⟨.ref s.heap.objs.size, _, I.laid (t' := s.toks) (o := SD X.prog X.w s.heap.objs.size []) (fun _ _ q => Heap.get?_push_of_some _ q) hf (sd_empty s.heap I.big), rfl, h _ (I.hok.fresh hf)⟩⟩
/-- the step y among the dict's keys -/
def SHas (X : Cx) (H : Hp) (x y : V) (r : Bool) : Prop := ∃ a ks b t, x = .ref a ∧ y = .ref b ∧ H a = some (SD X.prog X.w a ks) ∧ KsOk X.K H ks ∧ Dp X.K H (.ref b) (stD t) ∧ r = decide (t ∈ ks.map (·.1))
/-- None is not -/
def SNon (X : Cx) (H : Hp) (x y : V) : Prop := ∃ a ks, x = .ref a ∧ y = .non ∧ H a = some (SD X.prog X.w a ks) ∧ KsOk X.K H ks
def tSIn (X : Cx) (ty td : TE) : TE := fun σ H Q => ty σ H fun y H1 => td σ H1 fun x H2 => ∃ r, SHas X H2 x y r ∧ Q (.bl r) H2
def tSNot (X : Cx) (ty td : TE) : TE := fun σ H Q => ty σ H fun y H1 => td σ H1 fun x H2 => (∃ r, SHas X H2 x y r ∧ Q (.bl (!r)) H2) ∨ (SNon X H2 x y ∧ Q (.bl true) H2)
def sSPut (X : Cx) (td ty : TE) : TS := fun D σ H => td σ H fun x H2 => ty σ H2 fun y H3 => ∃ a ks b t, x = .ref a ∧ y = .ref b ∧ H3 a = some (SD X.prog X.w a ks) ∧ KsOk X.K H3 ks ∧ Dp X.K H3 (.ref b) (stD t) ∧ t ∉ ks.map (·.1) ∧ ks.length < sizeLine ∧
  D.nx σ (upd H3 a (SD X.prog X.w a (ks ++ [(t, b)])))
theorem pc_sin (hu : X.A.units + 9 < cLine) (hi : PE X i ty) (ho : PE X o td) : PC X .In i o (tSIn X ty td) := ⟨fun pins s σ H Q I h =>
  thn (hi.run pins s σ H _ I h) fun iv s1 ⟨y, H1, I1, ry, q1⟩ => thn (ho.run pins s1 σ H1 _ I1 q1) fun u s2 ⟨x, H2, I2, rx, r, g, q2⟩ => by
    obtain ⟨a, ks, b, t, rfl, rfl, e, k, d, rfl⟩ := g
    cases (show u = Value.ref a from rx)
    cases (show iv = Value.ref b from ry)
    exact sd_in hu I2 e k d fun s3 I3 => ⟨.bl _, H2, I3, rfl, q2⟩⟩
theorem pc_snot (hu : X.A.units + 9 < cLine) (hi : PE X i ty) (ho : PE X o td) : PC X .NotIn i o (tSNot X ty td) := ⟨fun pins s σ H Q I h =>
  thn (hi.run pins s σ H _ I h) fun iv s1 ⟨y, H1, I1, ry, q1⟩ => thn (ho.run pins s1 σ H1 _ I1 q1) fun u s2 ⟨x, H2, I2, rx, q2⟩ => by
    rcases q2 with ⟨r, ⟨a, ks, b, t, rfl, rfl, e, k, d, rfl⟩, q2⟩ | ⟨⟨a, ks, rfl, rfl, e, k⟩, q2⟩
    · cases (show u = Value.ref a from rx)
      cases (show iv = Value.ref b from ry)
      exact sd_notIn hu I2 e k d fun s3 I3 => ⟨.bl _, H2, I3, rfl, q2⟩
    · cases (show u = Value.ref a from rx)
      cases (show iv = Value.none from ry)
      obtain ⟨hs, _, o, es, ep, h1, h2, h3, _, h5⟩ := sd_ents I2 e k
      exact notIn_none hu hs h1 h2 h3 h5 ⟨.bl true, H2, I2.tok _, rfl, q2⟩⟩
theorem ps_sput (hu : X.A.units + 9 < cLine) (ho : PE X o td) (hi : PE X i ty) (hs : swapsWith (.Constant (.bool true) j tpos) (some (.Subscript o i pos')) pos.line X.env = pure false) :
    PS X (.Assign [.Subscript o i pos'] (.Constant (.bool true) j tpos) pos) (sSPut X td ty) := ⟨fun pins s σ H D I h =>
  wpAny_Assign_Subscript (Constant_bool (thn (ho.run pins s σ H _ I h) fun u s2 ⟨x, H2, I2, rx, q2⟩ => thn (hi.run pins s2 σ H2 _ I2 q2) fun iv s3 ⟨y, H3, I3, ry, g⟩ => by
    obtain ⟨a, ks, b, t, rfl, rfl, e, k, d, hn, hl, q⟩ := g
    cases (show u = Value.ref a from rx)
    cases (show iv = Value.ref b from ry)
    exact sd_set hu I3 e k d hn hl fun s4 I4 => ⟨σ, _, I4, q⟩)) hs⟩
/-- list(d): the steps in the order in which they came -/
theorem call_list_sd (hc : X.calm = true) : CallR X (.type "list") (fun xs H Q => ∃ d ks, xs = [V.ref d] ∧ H d = some (SD X.prog X.w d ks) ∧ KsOk X.K H ks ∧ ∀ p, H p = none → Q (.ref p) (upd H p (.lst (ks.map fun x => V.ref x.2)))) := by
  intro pins s σ H xs us Q I r h
  obtain ⟨d, ks, rfl, hd, hk, q⟩ := h
  obtain ⟨u, rfl, rx⟩ := r.one
  cases rx
  obtain ⟨hs, hz, o, es, ep, ho, hx, hdt, he, _⟩ := sd_ents I hd hk
  have l1 : es.size = ks.length := by rw [size_of_entries he, List.length_map]
  refine PySem.W.kdl_call (kdl_raw hs hx hdt) (I.ok.hd hc) ho (by omega) fun h' tk acc' c' kp e it => ?_
  have ea : acc'.toList = (ks.map fun x => x.2).map Value.ref := by
    apply List.ext_getElem?
    intro j
    rw [List.getElem?_map, List.getElem?_map]
    by_cases hj : j < ks.length
    · have hj2 : j < acc'.toList.length := by rw [Array.length_toList, it.1]; omega
      have ej := List.getElem?_eq_getElem hj2
      obtain ⟨en, hen, hv⟩ := it.2 j _ (by rw [← Array.getElem?_toList]; exact ej)
      have qe := entry_at he j
      rw [hen, List.getElem?_map, List.getElem?_eq_getElem hj] at qe
      have e2 : en = entryOfKey (nestedKind X.prog X.w) (sdEn ks[j]) := Option.some.inj qe
      rw [ej, List.getElem?_eq_getElem hj, hv, e2]
      rfl
    · rw [List.getElem?_eq_none (by rw [Array.length_toList, it.1]; omega), List.getElem?_eq_none (by omega)]
      rfl
  have rv : Vals ((ks.map fun x => x.2).map V.ref) acc'.toList := by
    rw [ea]
    exact vals_refs _
  have em : (ks.map fun x => x.2).map V.ref = ks.map fun x => V.ref x.2 := by
    rw [List.map_map]
    rfl
  rw [em] at rv
  have hf : s.heap.objs.size ≤ s.heap.objs.size := Nat.le_refl _
  exact ⟨.ref s.heap.objs.size, _, I.laid (t' := tk) (o := .lst (ks.map fun x => V.ref x.2)) kp hf ⟨by rw [List.length_map]; exact hz, acc'.toList, c', rv, by rw [Array.toArray_toList]; exact e⟩, rfl, q _ (I.hok.fresh hf)⟩
end
end AA

set_option Elab.async false
set_option linter.all false
set_option maxRecDepth 100000
set_option maxHeartbeats 4000000
/-! {step: True for .. in ..}: a comprehension that makes a dict of steps (by way of compLoop_anyD, as dc_core goes for dicts with plain keys). -/
namespace AA
open PySem PySem.Spec PyProof.Rows L2 Evl
section
variable {X : Cx} {pins : List (Addr × Obj)} {σ : L2.St} {H : Hp} {s : Shared}
theorem sd_dictSet {E : Value → Shared → Prop} {D b : Addr} {ks : List (St5 × Addr)} {t : St5} {Q : Unit → Shared → Prop} (hu : X.A.units + 8 < cLine) (I : Inv X pins σ H s) (e : H D = some (SD X.prog X.w D ks)) (k : KsOk X.K H ks) (d : Dp X.K H (.ref b) (stD t))
    (hn : t ∉ ks.map (·.1)) (hl : ks.length < sizeLine) (h : ∀ s', Inv X pins σ (upd H D (SD X.prog X.w D (ks ++ [(t, b)]))) s' → Q () s') : wpAny (model X.prog X.w) X.A (dictSet D (.ref b) (.bool true)) Q E s := by
  obtain ⟨z, hd, nd, dd⟩ := sd_of I e k
  refine wpAny_dictSet_heap (hsz := by rw [List.length_map]; exact z) (show X.A.units + 8 < cLine from hu) (sd_is (x := (t, b)) I d) dd fun h' dd' hs => h _ ?_
  rw [storedH_new (sd_none hn)] at dd'
  have e2 : ks.map sdEn ++ [(stK (t, b).1, b, Value.bool true)] = (ks ++ [(t, b)]).map sdEn := by rw [List.map_append]; rfl
  rw [e2] at dd'
  obtain ⟨q, es, ep, hq, h2⟩ := id dd'
  refine d_write I (by rw [e]; exact True.intro) hs ⟨q, hq⟩ (sd_ok (by rw [List.length_append]; exact hl) hd ?_ dd')
  rw [List.map_append, List.nodup_append]
  refine ⟨nd, by simp, fun x hx y hy => ?_⟩
  simp only [List.map_cons, List.map_nil, List.mem_singleton] at hy
  subst hy
  exact fun q => hn (q ▸ hx)
end
/-- the key y goes into the dict at D -/
def SNext (X : Cx) (H : Hp) (D : Addr) (y : V) (Nx : Hp → Prop) : Prop := ∃ ks b t, y = .ref b ∧ H D = some (SD X.prog X.w D ks) ∧ KsOk X.K H ks ∧ Dp X.K H (.ref b) (stD t) ∧ t ∉ ks.map (·.1) ∧ ks.length < sizeLine ∧ Nx (upd H D (SD X.prog X.w D (ks ++ [(t, b)])))
def tSc (X : Cx) (wi : TI) (g : TG) (tk : TE) (vs : List Nat) : TE := fun σ G Q => wi σ G fun J G1 => ∀ D, G1 D = none → ∃ W : Nat → Nat → Hp → Prop, (∃ m, W 0 m (upd G1 D (SD X.prog X.w D []))) ∧ ∀ i m G, W i m G →
  (J.stop i G ∧ Q (.ref D) G) ∨ (J.go i G ∧ ∃ Nx : Hp → Prop, (∀ G', Nx G' → ∃ m', m' < m ∧ W (i + 1) m' G') ∧ ∀ x G', J.yld i G x G' → g x (wipe σ vs) G' fun σ2 G2 => wipe σ2 vs = wipe σ vs ∧ tk σ2 G2 fun y G4 => SNext X G4 D y Nx)
section
variable {X : Cx}
theorem sc_core {pins : List (Addr × Obj)} {t0 : Shared} {σ : L2.St} {G : Hp} {Q : VK} {kx tg iter : Expr} {scope : Scope} {own : List (Str × Nat)} {j : Nat} {p0 p1 p2 : Pos} {wi : TI} {g : TG} {tk : TE} {use : Option (Value → Sem Unit)} {Qf : Value → Shared → Prop}
    (hu : X.A.units + 8 < cLine) (hc : X.calm = true) (hN : X.N.Nodup) (I0 : Inv X pins σ G t0) (hi : PI X tg iter wi) (ok : BlkOk X.N X.env.scope scope own)
    (hg : ∀ (t : Shared) (G : Hp) (C : Addr) (cl : List (Str × Addr)) (fp : List Addr), PG (X.blk t G scope (compEnvC scope cl C X.env) fp) tg g)
    (hk : ∀ (t : Shared) (G : Hp) (C : Addr) (cl : List (Str × Addr)) (fp : List Addr), PE (X.blk t G scope (compEnvC scope cl C X.env) fp) kx tk) (hs : ∀ x, foldedSetIterable iter X.env x = pure x)
    (h : tSc X wi g tk (own.map (·.2)) σ G Q)
    (back : ∀ D C s' m G', Inv X pins σ G' s' → Q (.ref D) G' → s'.heap.Ns C m → FpOk X pins G' C → compPost (model X.prog X.w) X.A X.xe use Qf (.ref D) C (.ok .next) s') :
    wpAny (model X.prog X.w) X.A (comprehension (.DictComp kx (.Constant (.bool true) j p2) [⟨tg, iter, [], 0⟩] scope p0) scope X.env p1 newDict false (eval iter X.env) use) Qf X.xe t0 := by
  have fr : ∀ y ∈ scope.names, y.2 = .free → ∃ c, X.env.cells.lookup y.1 = some c := fun y hy e => (ok.free y hy e).elim (fun k => I0.ok.has _ (.inl k)) (fun k => I0.ok.has _ (.inr k))
  refine wpAny_comprehension_free (use := use) rfl hs (closure_ok fr) ok.kind (fun y hy e => by rw [ok.uniq y hy, e]) (thn (hi.run pins t0 σ G _ I0 h) fun xv t1 hx => thn hx fun itv t2 got => ?_)
  obtain ⟨it, fp, tn, J, G2, rfl, I2, T, st2, f2, q⟩ := got
  refine wpAny_newObj_type (newEnv_comp ?_)
  generalize hD : t2.heap.objs.size = D
  have hDn : G2 D = none := I2.hok.fresh (Nat.le_of_eq hD)
  obtain ⟨W, ⟨m0, w0⟩, turn⟩ := q D hDn
  generalize ht3 : ({ t2 with heap := t2.heap.push { cls := .type "dict", data := .dict #[] } } : Shared) = t3
  have e3 : t3.heap = t2.heap.push { cls := .type "dict", data := .dict #[] } := by rw [← ht3]
  have I3 : Inv X pins σ (upd G2 D (SD X.prog X.w D [])) t3 := by
    rw [← ht3]
    refine I2.laid (t' := t2.toks) (fun b o e => Heap.get?_push_of_some _ e) (Nat.le_of_eq hD) ?_
    rw [← hD]
    exact sd_empty t2.heap I2.big
  have f3 : ∀ b ∈ fp, FpOk X pins (upd G2 D (SD X.prog X.w D [])) b ∧ b < t3.heap.objs.size := fun b hb => by
    obtain ⟨o, e, _⟩ := T.obj _ _ st2 b hb
    have hlt := Heap.lt_size e
    refine ⟨⟨?_, (f2 b hb).2⟩, by rw [e3, Heap.size_push]; exact Nat.lt_succ_of_lt hlt⟩
    rw [upd_ne (by rw [← hD]; exact Nat.ne_of_lt hlt)]
    exact (f2 b hb).1
  have st3 : tn 0 t3.heap := T.keep _ _ _ st2 fun b _ o e => by rw [e3]; exact Heap.get?_push_of_some _ e
  have I4 := block_start I3 ok hN f3
  have pg := hg t3 (upd G2 D (SD X.prog X.w D [])) t3.heap.objs.size (cellsFrom (t3.heap.objs.size + 1) scope.names (cloFrom X.env.cells scope.names [])) fp
  have pk := hk t3 (upd G2 D (SD X.prog X.w D [])) t3.heap.objs.size (cellsFrom (t3.heap.objs.size + 1) scope.names (cloFrom X.env.cells scope.names [])) fp
  show codeAny _ _ (.compStart (.DictComp kx (.Constant (.bool true) j p2) [⟨tg, iter, [], 0⟩] scope p0) 0 (.ref it) (.ref D) (compEnvC scope (cellsFrom (t3.heap.objs.size + 1) scope.names (cloFrom X.env.cells scope.names [])) t3.heap.objs.size X.env)) (compPost (model X.prog X.w) X.A X.xe use Qf (.ref D) t3.heap.objs.size) { t3 with heap := pushCells (t3.heap.push { cls := .type "dict", data := .dict #[] }) scope.names }
  have nfp : ∀ b ∈ fp, (upd G2 D (SD X.prog X.w D [])) b = none := fun b hb => (f3 b hb).1.1
  generalize hce : compEnvC scope (cellsFrom (t3.heap.objs.size + 1) scope.names (cloFrom X.env.cells scope.names [])) t3.heap.objs.size X.env = ce at I4 pg pk ⊢
  have cL : ce.locals = t3.heap.objs.size := by subst hce; rfl
  generalize hG3 : upd G2 D (SD X.prog X.w D []) = G3 at I3 I4 pg pk w0 nfp f3
  generalize ht4 : ({ t3 with heap := pushCells (t3.heap.push { cls := .type "dict", data := .dict #[] }) scope.names } : Shared) = t4 at I4 ⊢
  have st4 : tn 0 t4.heap := T.keep _ _ _ st3 fun b _ o e => by rw [← ht4]; exact pushCells_keeps _ _ _ _ (Heap.get?_push_of_some _ e)
  have stat : ∀ {σ' : L2.St} {G' : Hp} {s' : Shared}, Inv (X.blk t3 G3 scope ce fp) [] σ' G' s' → (∀ b ∈ fp, G' b = none) → ∀ b ∈ fp, FpOk (X.blk t3 G3 scope ce fp) [] G' b := fun {σ' G' s'} I' hn b hb =>
    ⟨hn b hb, (I'.ok.exf b hb).1, I'.ok.exfs b hb, .inl hb, fun x c e => (I'.ok.exf b hb).2 x c e, fun p hp => absurd (show p ∈ ([] : List (Addr × Obj)) ++ [] from hp) (by simp)⟩
  have loop : codeAny (model X.prog X.w) X.A (.compLoop (.DictComp kx (.Constant (.bool true) j p2) [⟨tg, iter, [], 0⟩] scope p0) 0 (.ref it) (.ref D) ce) (compPost (model X.prog X.w) X.A X.xe use Qf (.ref D) t3.heap.objs.size) t4 := by
    refine compLoop_anyD (fun n s' => ∃ i G', Inv (X.blk t3 G3 scope ce fp) [] (wipe σ (own.map (·.2))) G' s' ∧ tn i s'.heap ∧ (∀ b ∈ fp, G' b = none) ∧ W i n G') ?_ m0 ⟨0, G3, I4, st4, nfp, w0⟩
    rintro n t5 ⟨i, G5, I5, st5, n5, w5⟩
    rcases turn i n G5 w5 with ⟨stop, qq⟩ | ⟨go, Nx, hNx, step⟩
    · have td := T.done (X.blk t3 G3 scope ce fp) rfl rfl rfl hc i [] t5 _ G5 (fun _ _ => False) I5 (stat I5 n5) st5 stop
      refine thnF td fun r t6 ⟨hr, I6⟩ => ?_
      subst hr
      have I7 : Inv X pins σ G5 t6 := I3.call' (ch := fp) I6.os I6.base I6.hok I6.bare fun b hb => ⟨(f3 b hb).1.2.2.2.1, (f3 b hb).1.2.1, (f3 b hb).1.2.2.2.2.1, (f3 b hb).1.2.2.2.2.2⟩
      have nC : G5 t3.heap.objs.size = none := by
        have z : G5 ce.locals = none := I6.free
        rw [cL] at z
        exact z
      obtain ⟨m, hn, _⟩ := I6.loc
      have hn : t6.heap.Ns ce.locals m := hn
      rw [cL] at hn
      exact back D t3.heap.objs.size t6 m G5 I7 qq hn (I3.fpOk (Nat.le_refl _) nC)
    · have ti := T.item (X.blk t3 G3 scope ce fp) rfl rfl rfl hc i [] t5 _ G5 (fun _ _ => False) I5 (stat I5 n5) st5 go
      refine thnF ti fun r t6 ⟨u, hr, h6⟩ => ?_
      subst hr
      refine thnF h6 fun _ t7 ⟨x, G7, I7, r7, y7, st7, n7⟩ => ?_
      have I7' := I7.pinned (stat I7 n7) (T.obj _ _ st7)
      refine thnF (pg.run _ t7 _ G7 x u _ I7' r7 (step x G7 y7)) fun _ t8 ⟨σ8, G8, I8, hw8, q8⟩ => ?_
      refine wpAny_pure ?_
      simp only [if_true]
      refine thnF (pk.run _ t8 σ8 G8 _ I8 q8) fun z t9 ⟨yk, G9, I9, r9, ks, b, t, ek, hD9, hk9, hd9, hn9, hl9, nx⟩ => ?_
      subst ek
      cases (show z = Value.ref b from r9)
      refine Constant_bool ?_
      refine sd_dictSet (X := X.blk t3 G3 scope ce fp) hu I9 hD9 hk9 hd9 hn9 hl9 fun s' I' => ?_
      obtain ⟨m', hm, w'⟩ := hNx _ nx
      have pin' : ∀ b ∈ fp, ∀ o, t7.heap.get? b = some o → s'.heap.get? b = some o ∧ _ = none := fun b hb o e =>
        let z := I'.pin (b, o) (List.mem_append_right _ (List.mem_append_right _ (mem_pinsAt hb e)))
        ⟨z.1, z.2.1⟩
      have hl : (wipe σ (own.map (·.2))).length = σ8.length := by rw [← hw8, wipe_length]
      refine ⟨m', hm, i + 1, _, (I'.unpinned (pins := [])).weak hl (fun j v e => ?_), T.keep _ _ _ st7 fun b hb o e => (pin' b hb o e).1, fun b hb => ?_, w'⟩
      · rw [← hw8] at e
        exact (wipe_some e).1
      · obtain ⟨o, e, _⟩ := T.obj _ _ st7 b hb
        exact (pin' b hb o e).2
  exact codeAny_compStart_dict loop (T.self X.A 0 _ _ _ st4 loop)
theorem pe_sc {kx tg iter : Expr} {scope : Scope} {own : List (Str × Nat)} {j : Nat} {p0 p2 : Pos} {wi : TI} {g : TG} {tk : TE} (hu : X.A.units + 8 < cLine) (hc : X.calm = true) (hN : X.N.Nodup) (hi : PI X tg iter wi) (ok : BlkOk X.N X.env.scope scope own)
    (hg : ∀ (t : Shared) (G : Hp) (C : Addr) (cl : List (Str × Addr)) (fp : List Addr), PG (X.blk t G scope (compEnvC scope cl C X.env) fp) tg g)
    (hk : ∀ (t : Shared) (G : Hp) (C : Addr) (cl : List (Str × Addr)) (fp : List Addr), PE (X.blk t G scope (compEnvC scope cl C X.env) fp) kx tk) (hs : ∀ x, foldedSetIterable iter X.env x = pure x := by intro _; rfl) :
    PE X (.DictComp kx (.Constant (.bool true) j p2) [⟨tg, iter, [], 0⟩] scope p0) (tSc X wi g tk (own.map (·.2))) := ⟨fun pins t0 σ G Q I0 h => by
  rw [arm_eval_DictComp]
  refine sc_core hu hc hN I0 hi ok hg hk hs h fun D C s' m G' I' q hn f => ⟨m, hn, fun h'' sb => ?_⟩
  obtain ⟨f0, f1, f2, f3, f4, f5⟩ := f
  exact ⟨.ref D, G', I'.turned (t' := s'.toks) (fun b o hb e => (sb.2 b hb).trans e) f0 f1 f3 f4 f5, rfl, q⟩⟩
/-- over a list that stays -/
theorem sc_list {K : PySem.W.Frag} {a : Addr} {xs : List V} {g : TG} {tk : TE} {vs : List Nat} {σ : L2.St} {G1 : Hp} {D : Addr} {Qd : Hp → Prop} (Pv : Nat → Hp → Prop) (h0 : Pv 0 (upd G1 D (SD X.prog X.w D []))) (hl : ∀ i G, i ≤ xs.length → Pv i G → SqL K G a xs)
    (hs : ∀ i x G, xs[i]? = some x → Pv i G → g x (wipe σ vs) G fun σ2 G2 => wipe σ2 vs = wipe σ vs ∧ tk σ2 G2 fun y G4 => SNext X G4 D y (Pv (i + 1))) (hd : ∀ G, Pv xs.length G → Qd G) :
    ∃ W : Nat → Nat → Hp → Prop, (∃ m, W 0 m (upd G1 D (SD X.prog X.w D []))) ∧ ∀ i m G, W i m G →
      ((Itl K a).stop i G ∧ Qd G) ∨ ((Itl K a).go i G ∧ ∃ Nx : Hp → Prop, (∀ G', Nx G' → ∃ m', m' < m ∧ W (i + 1) m' G') ∧ ∀ x G', (Itl K a).yld i G x G' → g x (wipe σ vs) G' fun σ2 G2 => wipe σ2 vs = wipe σ vs ∧ tk σ2 G2 fun y G4 => SNext X G4 D y Nx) := by
  refine ⟨fun i m G => m = xs.length - i ∧ i ≤ xs.length ∧ Pv i G, ⟨xs.length, by simp, Nat.zero_le _, h0⟩, fun i m G w => ?_⟩
  obtain ⟨rfl, hi, p⟩ := w
  have q := hl i G hi p
  by_cases hlt : i < xs.length
  · refine .inr ⟨⟨xs, xs[i], q, by simp [hlt]⟩, Pv (i + 1), fun G' p' => ⟨xs.length - (i + 1), by omega, rfl, hlt, p'⟩, fun x G' y => ?_⟩
    obtain ⟨rfl, y⟩ := y
    exact hs i x _ (y xs q) p
  · obtain rfl : i = xs.length := by omega
    exact .inl ⟨⟨xs, q, Nat.le_refl _⟩, hd G p⟩
end
end AA

set_option Elab.async false
set_option linter.all false
set_option maxRecDepth 100000
set_option maxHeartbeats 4000000
/-! The program's checks: is_integer, is_list, is_integers. -/
namespace AA
open PySem PySem.Spec PyProof.Rows L2 Evl
/-! ### the heap without tables of code objects: they alone grow -/
def nt (H : Hp) : Hp := fun x => match H x with
  | some (.tbl _) => none
  | o => o
theorem nt_some {H : Hp} {x : Addr} {o : HO} (h : nt H x = some o) : H x = some o ∧ ∀ ps, o ≠ .tbl ps := by
  unfold nt at h
  split at h
  · cases h
  · rename_i hn
    exact ⟨h, fun ps e => hn ps (by rw [h, e])⟩
theorem nt_of {H : Hp} {x : Addr} {o : HO} (h : H x = some o) (n : ∀ ps, o ≠ .tbl ps) : nt H x = some o := by
  unfold nt
  split
  · rename_i ps hp
    rw [h] at hp
    exact absurd (Option.some.inj hp) (n ps)
  · exact h
theorem nt_le {H : Hp} : Ex (nt H) H := fun x o h => (nt_some h).1
theorem nt_mono {H H' : Hp} (e : Ex H H') : Ex (nt H) (nt H') := fun x o h => nt_of (e _ _ (nt_some h).1) (nt_some h).2
theorem nt_idem {H : Hp} : Ex (nt H) (nt (nt H)) := fun x o h => nt_of h (nt_some h).2
theorem sql_nt {K : PySem.W.Frag} {H : Hp} {a : Addr} {xs : List V} (h : SqL K H a xs) : SqL K (nt H) a xs := by
  rcases h with h | h
  · refine .inl ?_
    rcases h with h | ⟨u, h⟩
    · exact .inl (nt_of h fun ps z => nomatch z)
    · exact .inr ⟨u, nt_of h fun ps z => nomatch z⟩
  · exact .inr h
theorem sqt_nt {K : PySem.W.Frag} {H : Hp} {a : Addr} {xs : List V} (h : SqT K H a xs) : SqT K (nt H) a xs := by
  rcases h with h | h
  · refine .inl ?_
    rcases h with h | ⟨u, h⟩
    · exact .inl (nt_of h fun ps z => nomatch z)
    · exact .inr ⟨u, nt_of h fun ps z => nomatch z⟩
  · exact .inr h
mutual
theorem dp_nt {K : PySem.W.Frag} {H : Hp} : ∀ (d : PyData) (v : V), Dp K H v d → Dp K (nt H) v d
  | .none, _, h => by
    cases h
    exact .non
  | .bool b, _, h => by
    cases h
    exact .bl _
  | .int i, _, h => by
    cases h
    exact .int _
  | .str x, _, h => by
    cases h
    exact .str _
  | .list ds, _, h => by
    cases h with
    | lst h1 h2 => exact .lst (sql_nt h1) (dpa_nt ds _ h2)
  | .tuple ds, _, h => by
    cases h with
    | tup h1 h2 => exact .tup (sqt_nt h1) (dpa_nt ds _ h2)
  | .dict _, _, h => by cases h
theorem dpa_nt {K : PySem.W.Frag} {H : Hp} : ∀ (ds : List PyData) (vs : List V), DpAll K H vs ds → DpAll K (nt H) vs ds
  | [], _, h => by
    cases h
    exact .nil
  | d :: ds, _, h => by
    cases h with
    | cons h1 h2 => exact .cons (dp_nt d _ h1) (dpa_nt ds _ h2)
end
/-- the name of the type of data -/
def tnD : PyData → String
  | .none => "NoneType"
  | .bool _ => "bool"
  | .int _ => "int"
  | .str _ => "str"
  | .list _ => "list"
  | .tuple _ => "tuple"
  | .dict _ => "dict"
def isIntD : PyData → Bool
  | .int _ => true
  | _ => false
def isListD : PyData → Bool
  | .list _ => true
  | .tuple _ => true
  | _ => false
def isIntsD (m : Int) : PyData → Bool
  | .list xs => decide ((xs.length : Int) = m) && xs.all isIntD
  | .tuple xs => decide ((xs.length : Int) = m) && xs.all isIntD
  | _ => false
theorem ty_dp {K : PySem.W.Frag} {H : Hp} {v : V} {d : PyData} (h : Dp K H v d) : TyF K H v (.type (tnD d)) := by
  cases h with
  | non => exact .inl (.base .non)
  | bl b => exact .inl (.base (.bl b))
  | int i => exact .inl (.base (.int i))
  | str x => exact .inl (.base (.str x))
  | lst h1 _ => exact .inl (ty_l h1)
  | tup h1 _ => exact .inl (ty_t h1)
def isBoolD : PyData → Bool
  | .bool _ => true
  | _ => false
theorem kd_int {K : PySem.W.Frag} (d : PyData) : PySem.W.kitOne K (.type (tnD d)) (.type "int") = some (isIntD d || isBoolD d) := by
  cases d with
  | none => exact kit_ty (show kitB "NoneType" "int" = some false by decide +kernel)
  | bool => exact kit_ty (show kitB "bool" "int" = some true by decide +kernel)
  | int => exact kit_ty (show kitB "int" "int" = some true by decide +kernel)
  | str => exact kit_ty (show kitB "str" "int" = some false by decide +kernel)
  | list => exact kit_ty (show kitB "list" "int" = some false by decide +kernel)
  | tuple => exact kit_ty (show kitB "tuple" "int" = some false by decide +kernel)
  | dict => exact kit_ty (show kitB "dict" "int" = some false by decide +kernel)
theorem kd_bool {K : PySem.W.Frag} (d : PyData) : PySem.W.kitOne K (.type (tnD d)) (.type "bool") = some (isBoolD d) := by
  cases d with
  | none => exact kit_ty (show kitB "NoneType" "bool" = some false by decide +kernel)
  | bool => exact kit_ty (show kitB "bool" "bool" = some true by decide +kernel)
  | int => exact kit_ty (show kitB "int" "bool" = some false by decide +kernel)
  | str => exact kit_ty (show kitB "str" "bool" = some false by decide +kernel)
  | list => exact kit_ty (show kitB "list" "bool" = some false by decide +kernel)
  | tuple => exact kit_ty (show kitB "tuple" "bool" = some false by decide +kernel)
  | dict => exact kit_ty (show kitB "dict" "bool" = some false by decide +kernel)
theorem kd_seq {K : PySem.W.Frag} (d : PyData) : PySem.W.kitAny K (.type (tnD d)) [.type "list", .type "tuple"] = some (isListD d) := by
  cases d with
  | list => exact seq_yes_l
  | tuple => exact seq_yes_t
  | none => exact kit_no2 (T := "NoneType") (by decide +kernel) (by decide +kernel)
  | bool => exact kit_no2 (T := "bool") (by decide +kernel) (by decide +kernel)
  | int => exact kit_no2 (T := "int") (by decide +kernel) (by decide +kernel)
  | str => exact kit_no2 (T := "str") (by decide +kernel) (by decide +kernel)
  | dict => exact kit_no2 (T := "dict") (by decide +kernel) (by decide +kernel)
section
variable {P : Program} {w : World} {K : PySem.W.Frag} {mg : Str → Option Value} {base : Heap}
def spIsInteger (K : PySem.W.Frag) : Sp := fun vs H Q _ => ∃ (v : V) (d : PyData), vs = [v] ∧ Dp K H v d ∧ Q (.bl (isIntD d)) H
theorem scIsInteger : FnScope ["thing"] ["thing"] (defScope sIsInteger) := ⟨rfl, rfl, rfl, by decide +kernel, rfl, by decide +kernel, by decide +kernel⟩
theorem ok_isInteger {f : Addr} {fd : FuncData} (F : L2.Fun K "is_integer" "is_integer" sIsInteger f fd) (T : Bn mg) : FnOk P w K mg base CX0 1 f fd ["thing"] (spIsInteger K) := by
  refine F.ok scIsInteger (fun vs H Q E h => ?_) (fun cdv A outer s H vs Q E hr h => ?_)
  · obtain ⟨v, d, rfl, _⟩ := h
    rfl
  · obtain ⟨v, d, rfl, hd, k⟩ := h
    refine ⟨_, pss_one (ps_ret (pe_and (pe_callB call_is1 (by rfl) T.isinstance boot_isinstance (pa_cons (pv 0) (pa_cons (pe_bltn (v := .ty "int") (by rfl) T.int boot_int rfl) pa_nil)))
      (pe_one (pe_not (pe_callB call_is1 (by rfl) T.isinstance boot_isinstance (pa_cons (pv 0) (pa_cons (pe_bltn (v := .ty "bool") (by rfl) T.bool boot_bool rfl) pa_nil))))))), ?_⟩
    refine ⟨_, rfl, v, _, _, .type "int", _, rfl, .ty _, ty_dp hd, kd_int d, _, rfl, ?_⟩
    by_cases hi : isIntD d = true
    · rw [hi] at k ⊢
      refine iteT ?_
      refine ⟨_, rfl, v, _, _, .type "bool", _, rfl, .ty _, ty_dp hd, kd_bool d, _, rfl, ?_⟩
      cases d <;> first | exact k | cases hi
    · have hf : isIntD d = false := by simpa using hi
      rw [hf] at k ⊢
      cases d with
      | bool b =>
        refine iteT ?_
        exact ⟨_, rfl, v, _, _, .type "bool", _, rfl, .ty _, ty_dp hd, kd_bool _, _, rfl, k⟩
      | int i => cases hf
      | _ => exact iteF k
/-- what a thing is asked by is_list, in this heap and later ones -/
def Lk (K : PySem.W.Frag) (H : Hp) (v : V) (b : Bool) : Prop := ∃ t : Value, (∀ H', Ex (nt H) H' → TyF K H' v t) ∧ PySem.W.kitAny K t [.type "list", .type "tuple"] = some b
theorem lk_dp {H : Hp} {v : V} {d : PyData} (h : Dp K H v d) : Lk K H v (isListD d) := ⟨_, fun H' e => ty_dp (dp_ex e d v (dp_nt d v h)), kd_seq d⟩
theorem Lk.ex {H H' : Hp} {v : V} {b : Bool} (h : Lk K H v b) (e : Ex H H') : Lk K H' v b := by
  obtain ⟨t, h1, h2⟩ := h
  exact ⟨t, fun H2 e2 => h1 H2 ((nt_mono e).trans e2), h2⟩
theorem Lk.nt {H : Hp} {v : V} {b : Bool} (h : Lk K H v b) : Lk K (AA.nt H) v b := by
  obtain ⟨t, h1, h2⟩ := h
  exact ⟨t, fun H2 e2 => h1 H2 (nt_idem.trans e2), h2⟩
def spIsList (K : PySem.W.Frag) : Sp := fun vs H Q _ => ∃ (v : V) (b : Bool), vs = [v] ∧ Lk K H v b ∧ ∀ H', Ex H H' → Q (.bl b) H'
theorem scIsList : FnScope ["thing"] ["thing"] (defScope sIsList) := ⟨rfl, rfl, rfl, by decide +kernel, rfl, by decide +kernel, by decide +kernel⟩
theorem ok_isList {f : Addr} {fd : FuncData} (F : L2.Fun K "is_list" "is_list" sIsList f fd) (T : Bn mg) : FnOk P w K mg base CX0 1 f fd ["thing"] (spIsList K) := by
  refine F.ok scIsList (fun vs H Q E h => ?_) (fun cdv A outer s H vs Q E hr h => ?_)
  · obtain ⟨v, b, rfl, _⟩ := h
    rfl
  · obtain ⟨v, b, rfl, ⟨t, hty, hk⟩, k⟩ := h
    refine ⟨_, pss_one (ps_ret (pe_callB call_isN (by rfl) T.isinstance boot_isinstance (pa_cons (pv 0) (pa_cons (pe_tup (pa_cons (pe_bltn (v := .ty "list") (by rfl) T.list boot_list rfl) (pa_cons (pe_bltn (v := .ty "tuple") (by rfl) T.tuple boot_tuple rfl) pa_nil))) pa_nil)))), ?_⟩
    refine ⟨_, rfl, by show 2 ≤ sizeLine; decide, fun p hp => ?_⟩
    have e1 : Ex H (upd H p (.tup [.ty "list", .ty "tuple"])) := Ex.new hp
    exact ⟨v, p, _, t, [.type "list", .type "tuple"], b, rfl, upd_same, .cons (.ty _) (.cons (.ty _) .nil), hty _ (nt_le.trans e1), hk, k _ e1⟩
/-- a list or a tuple of data -/
theorem dp_seq {H : Hp} {v : V} {d : PyData} (h : Dp K H v d) (l : isListD d = true) : ∃ (a : Addr) (xs : List V) (ds : List PyData), v = .ref a ∧ DpAll K H xs ds ∧ ((d = .list ds ∧ SqL K H a xs) ∨ (d = .tuple ds ∧ SqT K H a xs)) := by
  cases h with
  | lst h1 h2 => exact ⟨_, _, _, rfl, h2, .inl ⟨rfl, h1⟩⟩
  | tup h1 h2 => exact ⟨_, _, _, rfl, h2, .inr ⟨rfl, h1⟩⟩
  | _ => cases l
def itemsD : PyData → List PyData
  | .list xs => xs
  | .tuple xs => xs
  | _ => []
end
end AA

set_option Elab.async false
set_option linter.all false
set_option maxRecDepth 100000
set_option maxHeartbeats 4000000
/-! read_step. -/
namespace AA
open PySem PySem.Spec PyProof.Rows L2 Evl
/-- the step that a thing is, between n places -/
def rdStep (n : Int) (d : PyData) : Option St5 :=
  match itemsD d with
  | [.int a, .int b, c, .int e, .int f] =>
    match itemsD c with
    | [.int p, .int q] => if 0 ≤ a ∧ a < n ∧ 0 ≤ b ∧ b < n ∧ 1 ≤ e then some ⟨a, b, p, q, e, f⟩ else none
    | _ => none
  | _ => none
theorem int_of {d : PyData} (h : isIntD d = true) : ∃ i, d = .int i := by
  cases d with
  | int i => exact ⟨i, rfl⟩
  | _ => cases h
theorem ints_of {m : Int} {d : PyData} (h : isIntsD m d = true) : ((itemsD d).length : Int) = m ∧ (itemsD d).all isIntD = true ∧ isListD d = true := by
  cases d with
  | list xs =>
    have h' : (decide ((xs.length : Int) = m) && xs.all isIntD) = true := h
    rw [Bool.and_eq_true] at h'
    exact ⟨of_decide_eq_true h'.1, h'.2, rfl⟩
  | tuple xs =>
    have h' : (decide ((xs.length : Int) = m) && xs.all isIntD) = true := h
    rw [Bool.and_eq_true] at h'
    exact ⟨of_decide_eq_true h'.1, h'.2, rfl⟩
  | _ => cases h
theorem rd_len {n : Int} {d : PyData} {s : St5} (h : rdStep n d = some s) : (itemsD d).length = 5 := by
  unfold rdStep at h
  split at h
  · rename_i e
    rw [e]
    rfl
  · cases h
theorem rd_list {n : Int} {d : PyData} {s : St5} (h : rdStep n d = some s) : isListD d = true := by
  have := rd_len h
  cases d with
  | list => rfl
  | tuple => rfl
  | _ => cases this
theorem rd_ints {n : Int} {d d0 d1 d2 d3 d4 : PyData} {s : St5} (hd : itemsD d = [d0, d1, d2, d3, d4]) (h : rdStep n d = some s) : isIntsD 4 (.list [d0, d1, d3, d4]) = true ∧ isIntsD 2 d2 = true := by
  unfold rdStep at h
  rw [hd] at h
  split at h
  · rename_i a b c e f q
    cases q
    split at h
    · rename_i p q e2
      refine ⟨rfl, ?_⟩
      cases d2 with
      | list xs =>
        obtain rfl : xs = [.int p, .int q] := e2
        rfl
      | tuple xs =>
        obtain rfl : xs = [.int p, .int q] := e2
        rfl
      | _ => cases e2
    · cases h
  · cases h
theorem rd_at {n a b e f p q : Int} {d c : PyData} (hd : itemsD d = [.int a, .int b, c, .int e, .int f]) (hc : itemsD c = [.int p, .int q]) :
    rdStep n d = if 0 ≤ a ∧ a < n ∧ 0 ≤ b ∧ b < n ∧ 1 ≤ e then some ⟨a, b, p, q, e, f⟩ else none := by
  unfold rdStep
  rw [hd]
  show (match itemsD c with | [.int p, .int q] => if 0 ≤ a ∧ a < n ∧ 0 ≤ b ∧ b < n ∧ 1 ≤ e then some (⟨a, b, p, q, e, f⟩ : St5) else none | _ => none) = _
  rw [hc]
theorem four_of {d0 d1 d3 d4 : PyData} (h : isIntsD 4 (.list [d0, d1, d3, d4]) = true) : ∃ a b e f, d0 = .int a ∧ d1 = .int b ∧ d3 = .int e ∧ d4 = .int f := by
  have := (ints_of h).2.1
  have h2 : (isIntD d0 && (isIntD d1 && (isIntD d3 && (isIntD d4 && true)))) = true := this
  simp only [Bool.and_eq_true] at h2
  obtain ⟨a, rfl⟩ := int_of h2.1
  obtain ⟨b, rfl⟩ := int_of h2.2.1
  obtain ⟨e, rfl⟩ := int_of h2.2.2.1
  obtain ⟨f, rfl⟩ := int_of h2.2.2.2.1
  exact ⟨a, b, e, f, rfl, rfl, rfl, rfl⟩
theorem two_of {d : PyData} (h : isIntsD 2 d = true) : ∃ p q, itemsD d = [.int p, .int q] := by
  obtain ⟨h1, h2, _⟩ := ints_of h
  generalize itemsD d = l at h1 h2
  match l, h1, h2 with
  | [x, y], _, h2 =>
    have h3 : (isIntD x && (isIntD y && true)) = true := h2
    simp only [Bool.and_eq_true] at h3
    obtain ⟨p, rfl⟩ := int_of h3.1
    obtain ⟨q, rfl⟩ := int_of h3.2.1
    exact ⟨p, q, rfl⟩
  | [], h1, _ => cases h1
  | [x], h1, _ => cases h1
  | x :: y :: z :: r, h1, _ =>
    simp only [List.length_cons] at h1
    omega
/-- what read_step answers -/
def RdR (K : PySem.W.Frag) (H : Hp) (r : V) : Option St5 → Prop
  | none => r = .non
  | some s => Dp K H r (stD s)
theorem pg_or {X : Cx} {tg : Expr} {g1 g2 : TG} (h1 : PG X tg g1) (h2 : PG X tg g2) : PG X tg (fun v σ H Q => g1 v σ H Q ∨ g2 v σ H Q) :=
  ⟨fun pins s σ H v u Q I r hw => hw.elim (h1.run pins s σ H v u Q I r) (h2.run pins s σ H v u Q I r)⟩
theorem gun_or {K : PySem.W.Frag} {n : Nat} {t : TGs} {v : V} {σ : L2.St} {H : Hp} {Q : L2.St → Hp → Prop} {a : Addr} {xs : List V} (e : v = .ref a) (h : SqL K H a xs ∨ SqT K H a xs) (hn : xs.length = n) (ht : t xs σ H Q) : gUnl K n t v σ H Q ∨ gTup K n t v σ H Q :=
  h.imp (fun h => ⟨a, xs, e, h, hn, ht⟩) (fun h => ⟨a, xs, e, h, hn, ht⟩)
theorem five_of {α : Type} {xs : List α} (h : xs.length = 5) : ∃ a b c d e, xs = [a, b, c, d, e] := by
  match xs, h with
  | [a, b, c, d, e], _ => exact ⟨a, b, c, d, e, rfl⟩
theorem dpa_five {K : PySem.W.Frag} {H : Hp} {x0 x1 x2 x3 x4 : V} {ds : List PyData} (h : DpAll K H [x0, x1, x2, x3, x4] ds) :
    ∃ d0 d1 d2 d3 d4, ds = [d0, d1, d2, d3, d4] ∧ Dp K H x0 d0 ∧ Dp K H x1 d1 ∧ Dp K H x2 d2 ∧ Dp K H x3 d3 ∧ Dp K H x4 d4 := by
  cases h with
  | cons h0 h =>
    cases h with
    | cons h1 h =>
      cases h with
      | cons h2 h =>
        cases h with
        | cons h3 h =>
          cases h with
          | cons h4 h =>
            cases h
            exact ⟨_, _, _, _, _, rfl, h0, h1, h2, h3, h4⟩
section
variable {P : Program} {w : World} {K : PySem.W.Frag} {mg : Str → Option Value} {base : Heap}
/-- a list or a tuple stands there -/
def SqA (K : PySem.W.Frag) (H : Hp) (a : Addr) (xs : List V) : Prop := SqL K H a xs ∨ SqT K H a xs
theorem SqA.ex {H H' : Hp} {a : Addr} {xs : List V} (h : SqA K H a xs) (e : Ex H H') : SqA K H' a xs := h.imp (fun h => ex_l e h) (fun h => ex_t e h)
theorem SqA.nt {H : Hp} {a : Addr} {xs : List V} (h : SqA K H a xs) : SqA K (AA.nt H) a xs := h.imp sql_nt sqt_nt
theorem lk_sq {H : Hp} {a : Addr} {xs : List V} (h : SqA K H a xs) : Lk K H (.ref a) true := h.elim (fun h => ⟨_, fun H' e => .inl (ty_l (ex_l e (sql_nt h))), seq_yes_l⟩) (fun h => ⟨_, fun H' e => .inl (ty_t (ex_t e (sqt_nt h))), seq_yes_t⟩)
/-- a thing that is no integer, in this heap and later ones -/
def NotI (K : PySem.W.Frag) (H : Hp) (v : V) : Prop := ∃ (t : Value) (i b : Bool), (∀ H', Ex (nt H) H' → TyF K H' v t) ∧ PySem.W.kitOne K t (.type "int") = some i ∧ PySem.W.kitOne K t (.type "bool") = some b ∧ (i && !b) = false
theorem NotI.ex {H H' : Hp} {v : V} (h : NotI K H v) (e : Ex H H') : NotI K H' v := by
  obtain ⟨t, i, b, h1, h2⟩ := h
  exact ⟨t, i, b, fun H2 e2 => h1 H2 ((nt_mono e).trans e2), h2⟩
theorem NotI.nt {H : Hp} {v : V} (h : NotI K H v) : NotI K (AA.nt H) v := by
  obtain ⟨t, i, b, h1, h2⟩ := h
  exact ⟨t, i, b, fun H2 e2 => h1 H2 (nt_idem.trans e2), h2⟩
theorem ni_dp {H : Hp} {v : V} {d : PyData} (h : Dp K H v d) (hd : isIntD d = false) : NotI K H v := ⟨_, _, _, fun H' e => ty_dp (dp_ex e d v (dp_nt d v h)), kd_int d, kd_bool d, by cases d <;> first | rfl | cases hd⟩
theorem ni_fn {H : Hp} {f : Addr} {o : Obj} (h1 : K.lookup f = some o) (h2 : o.cls = .type "function") : NotI K H (.ref f) := ⟨.type "function", false, false, fun H' e => .inr ⟨f, o, rfl, h1, h2, rfl⟩, kit_ty (by decide +kernel), kit_ty (by decide +kernel), rfl⟩
theorem ni_dict {H : Hp} {p : Addr} (h : H p = some (.dK [])) : NotI K H (.ref p) := ⟨.type "dict", false, false, fun H' e => .inl (.base (.dK (e _ _ (nt_of h fun ps z => nomatch z)))), kit_ty (by decide +kernel), kit_ty (by decide +kernel), rfl⟩
theorem ni_sq {H : Hp} {a : Addr} {xs : List V} (h : SqA K H a xs) : NotI K H (.ref a) := h.elim (fun h => ⟨_, false, false, fun H' e => .inl (ty_l (ex_l e (sql_nt h))), kit_ty (by decide +kernel), kit_ty (by decide +kernel), rfl⟩) (fun h => ⟨_, false, false, fun H' e => .inl (ty_t (ex_t e (sqt_nt h))), kit_ty (by decide +kernel), kit_ty (by decide +kernel), rfl⟩)
theorem lk_fn {H : Hp} {f : Addr} {o : Obj} (h1 : K.lookup f = some o) (h2 : o.cls = .type "function") : Lk K H (.ref f) false := ⟨.type "function", fun H' e => .inr ⟨f, o, rfl, h1, h2, rfl⟩, kit_no2 (by decide +kernel) (by decide +kernel)⟩
theorem lk_dict {H : Hp} {p : Addr} (h : H p = some (.dK [])) : Lk K H (.ref p) false := ⟨.type "dict", fun H' e => .inl (.base (.dK (e _ _ (nt_of h fun ps z => nomatch z)))), kit_no2 (by decide +kernel) (by decide +kernel)⟩
/-- a thing that read_step tells to be none -/
def RdNo (K : PySem.W.Frag) (n : Int) (H : Hp) (v : V) : Prop :=
  Lk K H v false ∨ ∃ (a : Addr) (xs : List V), v = .ref a ∧ SqA K H a xs ∧ (xs.length ≠ 5 ∨ ∃ x0 x1 x2 x3 x4, xs = [x0, x1, x2, x3, x4] ∧
    (Lk K H x2 false ∨ ∃ (b : Addr) (ys : List V), x2 = .ref b ∧ SqA K H b ys ∧ (ys.length ≠ 2 ∨ ∃ y0 y1, ys = [y0, y1] ∧
      ((∃ (is : List Int) (z : V) (r : List V), [x0, x1, y0, y1, x3, x4] = is.map V.int ++ z :: r ∧ NotI K H z) ∨
        ∃ i0 i1 p q i3 i4 : Int, [x0, x1, y0, y1, x3, x4] = [V.int i0, V.int i1, V.int p, V.int q, V.int i3, V.int i4] ∧ ¬ (0 ≤ i0 ∧ i0 < n ∧ 0 ≤ i1 ∧ i1 < n ∧ 1 ≤ i3)))))
theorem RdNo.ex {n : Int} {H H' : Hp} {v : V} (h : RdNo K n H v) (e : Ex H H') : RdNo K n H' v := by
  rcases h with h | ⟨a, xs, h1, h2, h⟩
  · exact .inl (h.ex e)
  · refine .inr ⟨a, xs, h1, h2.ex e, h.imp id ?_⟩
    rintro ⟨x0, x1, x2, x3, x4, h3, h⟩
    refine ⟨x0, x1, x2, x3, x4, h3, h.imp (fun z => z.ex e) ?_⟩
    rintro ⟨b, ys, h4, h5, h⟩
    refine ⟨b, ys, h4, h5.ex e, h.imp id ?_⟩
    rintro ⟨y0, y1, h6, h⟩
    refine ⟨y0, y1, h6, h.imp ?_ id⟩
    rintro ⟨is, z, r, h7, h8⟩
    exact ⟨is, z, r, h7, h8.ex e⟩
theorem RdNo.nt {n : Int} {H : Hp} {v : V} (h : RdNo K n H v) : RdNo K n (AA.nt H) v := by
  rcases h with h | ⟨a, xs, h1, h2, h⟩
  · exact .inl h.nt
  · refine .inr ⟨a, xs, h1, h2.nt, h.imp id ?_⟩
    rintro ⟨x0, x1, x2, x3, x4, h3, h⟩
    refine ⟨x0, x1, x2, x3, x4, h3, h.imp (fun z => z.nt) ?_⟩
    rintro ⟨b, ys, h4, h5, h⟩
    refine ⟨b, ys, h4, h5.nt, h.imp id ?_⟩
    rintro ⟨y0, y1, h6, h⟩
    refine ⟨y0, y1, h6, h.imp ?_ id⟩
    rintro ⟨is, z, r, h7, h8⟩
    exact ⟨is, z, r, h7, h8.nt⟩
def spReadStep (K : PySem.W.Frag) : Sp := fun vs H Q _ => ∃ (n : Int) (v : V), vs = [.int n, v] ∧ ((RdNo K n H v ∧ ∀ H', Ex H H' → Q .non H') ∨ ∃ d, Dp K H v d ∧ ∀ H' r, Ex H H' → RdR K H' r (rdStep n d) → Q r H')
theorem scReadStep : FnScope ["places", "thing", "one", "other", "amounts", "ticks", "change", "number"] ["places", "thing"] (defScope sReadStep) := ⟨rfl, rfl, rfl, by decide +kernel, rfl, by decide +kernel, by decide +kernel⟩
theorem rd_six {n : Int} {d d0 d1 d2 d3 d4 : PyData} {s : St5} (hd : itemsD d = [d0, d1, d2, d3, d4]) (h : rdStep n d = some s) : isListD d2 = true ∧ ∃ e0 e1, itemsD d2 = [e0, e1] ∧ ∀ z ∈ [d0, d1, e0, e1, d3, d4], isIntD z = true := by
  obtain ⟨h4, h2⟩ := rd_ints hd h
  obtain ⟨a, b, e, f, rfl, rfl, rfl, rfl⟩ := four_of h4
  obtain ⟨p, q, hc⟩ := two_of h2
  refine ⟨(ints_of h2).2.2, _, _, hc, fun z hz => ?_⟩
  simp only [List.mem_cons, List.not_mem_nil, or_false] at hz
  rcases hz with rfl | rfl | rfl | rfl | rfl | rfl <;> rfl
theorem two_ofl {α : Type} {xs : List α} (h : xs.length = 2) : ∃ a b, xs = [a, b] := by
  match xs, h with
  | [a, b], _ => exact ⟨a, b, rfl⟩
theorem dpa_two {K : PySem.W.Frag} {H : Hp} {x0 x1 : V} {ds : List PyData} (h : DpAll K H [x0, x1] ds) : ∃ d0 d1, ds = [d0, d1] ∧ Dp K H x0 d0 ∧ Dp K H x1 d1 := by
  cases h with
  | cons h0 h =>
    cases h with
    | cons h1 h =>
      cases h
      exact ⟨_, _, rfl, h0, h1⟩
theorem ix_at {K : PySem.W.Frag} {G : Hp} {b : Addr} {ys : List V} {j : Nat} {y : V} {Q : V → Hp → Prop} (h : SqL K G b ys ∨ SqT K G b ys) (e : ys[j]? = some y) (k : Q y G) : rIx K (.ref b) (.int (j : Nat)) G Q :=
  h.elim (fun h => .inl ⟨b, ys, _, y, rfl, rfl, h, atI_nat e, k⟩) (fun h => .inr (.inl ⟨b, ys, _, y, rfl, rfl, h, atI_nat e, k⟩))
theorem ok_readStep {f : Addr} {fd : FuncData} (F : L2.Fun K "read_step" "read_step" sReadStep f fd) (T : Bn mg) (cL : C8.Cal P w K mg base 1 "is_list" (spIsList K) []) :
    FnOk P w K mg base CX0 3 f fd ["places", "thing"] (spReadStep K) := by
  refine F.ok scReadStep (fun vs H Q E h => ?_) (fun cdv A outer s H vs Q E hr h => ?_)
  · obtain ⟨n, v, rfl, _⟩ := h
    rfl
  · obtain ⟨n, v, rfl, h⟩ := h
    refine ⟨_, pss_cons (ps_if (PW.pt (pw_or (pt_not (pt_val (C8.pe_c cL hr (by decide) (by rfl) (pa_cons (pv 1) pa_nil)))) (pw_or1 (pt_cmpR op_ne (pe_callB call_len_seq (by rfl) T.len PySem.boot_len (pa_cons (pv 1) pa_nil)) pe_int (nomark _)))))
        (pss_one (ps_ret pe_non)) pss_nil)
      (pss_cons (ps_asg (pv 1) (pg_or (pg_unl (n := 5) rfl (pgs_cons (pg_name (i := 2) scReadStep.nd rfl (Or.inl rfl)) (pgs_cons (pg_name (i := 3) scReadStep.nd rfl (Or.inl rfl)) (pgs_cons (pg_name (i := 4) scReadStep.nd rfl (Or.inl rfl)) (pgs_cons (pg_name (i := 5) scReadStep.nd rfl (Or.inl rfl)) (pgs_cons (pg_name (i := 6) scReadStep.nd rfl (Or.inl rfl)) pgs_nil))))))
          (pg_tup (n := 5) rfl (pgs_cons (pg_name (i := 2) scReadStep.nd rfl (Or.inl rfl)) (pgs_cons (pg_name (i := 3) scReadStep.nd rfl (Or.inl rfl)) (pgs_cons (pg_name (i := 4) scReadStep.nd rfl (Or.inl rfl)) (pgs_cons (pg_name (i := 5) scReadStep.nd rfl (Or.inl rfl)) (pgs_cons (pg_name (i := 6) scReadStep.nd rfl (Or.inl rfl)) pgs_nil))))))))
      (pss_cons (ps_if (PW.pt (pw_or (pt_not (pt_val (C8.pe_c cL hr (by decide) (by rfl) (pa_cons (pv 4) pa_nil)))) (pw_or1 (pt_cmpR op_ne (pe_callB call_len_seq (by rfl) T.len PySem.boot_len (pa_cons (pv 4) pa_nil)) pe_int (nomark _)))))
        (pss_one (ps_ret pe_non)) pss_nil)
      (pss_cons (ps_for PassesOwn.never rfl (pi_tup (pe_tup (pa_cons (pv 2) (pa_cons (pv 3) (pa_cons (pe_ix ix_seq (pv 4) pe_int (fun _ _ => rfl)) (pa_cons (pe_ix ix_seq (pv 4) pe_int (fun _ _ => rfl)) (pa_cons (pv 5) (pa_cons (pv 6) pa_nil)))))))) (pg_name (i := 7) scReadStep.nd rfl (Or.inl rfl))
        (pss_one (ps_if (PW.pt (pw_or (pt_not (pt_val (pe_callB call_is1 (by rfl) T.isinstance boot_isinstance (pa_cons (pv 7) (pa_cons (pe_bltn (v := .ty "int") (by rfl) T.int boot_int rfl) pa_nil)))))
            (pw_or1 (pt_val (pe_callB call_is1 (by rfl) T.isinstance boot_isinstance (pa_cons (pv 7) (pa_cons (pe_bltn (v := .ty "bool") (by rfl) T.bool boot_bool rfl) pa_nil)))))))
          (pss_one (ps_ret pe_non)) pss_nil)))
      (pss_cons (ps_if (PW.pt (pw_or (pt_cmpR op_lt (pv 2) pe_int (nomark _)) (pw_or (pt_cmpR op_ge (pv 2) (pv 0) (nomark _)) (pw_or (pt_cmpR op_lt (pv 3) pe_int (nomark _)) (pw_or (pt_cmpR op_ge (pv 3) (pv 0) (nomark _)) (pw_or1 (pt_cmpR op_lt (pv 5) pe_int (nomark _))))))))
        (pss_one (ps_ret pe_non)) pss_nil)
      (pss_one (ps_ret (pe_tup (pa_cons (pv 2) (pa_cons (pv 3) (pa_cons (pe_callTy call_tuple_of (by rfl) T.tuple boot_tuple (pa_cons (pv 4) pa_nil)) (pa_cons (pv 5) (pa_cons (pv 6) pa_nil)))))))))))), ?_⟩
    rcases h with ⟨hno, k⟩ | ⟨d, hd, k⟩
    · rcases hno with hl | ⟨a, xs, rfl, hs, hno⟩
      · exact ⟨_, rfl, v, _, rfl, hl, fun H1 e1 => ⟨_, rfl, iteT (iteT (k _ e1))⟩⟩
      refine ⟨_, rfl, .ref a, _, rfl, lk_sq hs, fun H1 e1 => ⟨_, rfl, iteF ?_⟩⟩
      have hs1 := hs.ex e1
      refine ⟨_, rfl, a, xs, rfl, hs1, rfl, _, rfl, ?_⟩
      rcases hno with h5 | ⟨x0, x1, x2, x3, x4, rfl, hno⟩
      · rw [decide_eq_false (fun z => h5 (by have := V.int.inj z; omega))]
        exact iteT (k _ e1)
      rw [decide_eq_true (show V.int (([x0, x1, x2, x3, x4] : List V).length : Int) = V.int 5 from rfl)]
      refine iteF ?_
      refine ⟨_, rfl, gun_or rfl hs1 rfl ⟨x0, _, rfl, x1, _, rfl, x2, _, rfl, x3, _, rfl, x4, _, rfl, rfl, ?_⟩⟩
      rcases hno with hl2 | ⟨b, ys, rfl, hs2, hno⟩
      · exact ⟨_, rfl, x2, _, rfl, hl2.ex e1, fun G2 e2 => ⟨_, rfl, iteT (iteT (k _ (e1.trans e2)))⟩⟩
      refine ⟨_, rfl, .ref b, _, rfl, lk_sq (hs2.ex e1), fun G2 eG2 => ⟨_, rfl, iteF ?_⟩⟩
      have e2 := e1.trans eG2
      have hs2' : SqL K G2 b ys ∨ SqT K G2 b ys := hs2.ex e2
      refine ⟨_, rfl, b, ys, rfl, hs2', rfl, _, rfl, ?_⟩
      rcases hno with h2 | ⟨y0, y1, rfl, hno⟩
      · rw [decide_eq_false (fun z => h2 (by have := V.int.inj z; omega))]
        exact iteT (k _ e2)
      rw [decide_eq_true (show V.int (([y0, y1] : List V).length : Int) = V.int 2 from rfl)]
      refine iteF ?_
      refine ⟨_, rfl, _, rfl, _, rfl, ix_at (j := 0) hs2' rfl ?_⟩
      refine ⟨_, rfl, ix_at (j := 1) hs2' rfl ?_⟩
      refine ⟨_, rfl, _, rfl, by show 6 ≤ sizeLine; decide, fun L hL => ?_⟩
      have e3 := e2.trans (Ex.new (o := .tup [x0, x1, y0, y1, x3, x4]) hL)
      refine ⟨L, rfl, ⟨_, SqT.of upd_same⟩, ?_⟩
      rcases hno with ⟨is, z, r, hz, hni⟩ | ⟨i0, i1, p, q, i3, i4, hz, hno⟩
      · have hln : is.length + 1 + r.length = 6 := by
          have := congrArg List.length hz
          simp only [List.length_cons, List.length_nil, List.length_append, List.length_map] at this
          omega
        refine for_tup (K := K) (a := L) (xs := [x0, x1, y0, y1, x3, x4]) (fun i σ G => ∃ x7 : Option V, σ = [some (.int n), some (.ref a), some x0, some x1, some (.ref b), some x3, some x4, x7] ∧ G = upd G2 L (.tup [x0, x1, y0, y1, x3, x4]) ∧ i ≤ is.length)
          ⟨none, rfl, rfl, Nat.zero_le _⟩ (fun i σ G _ ⟨_, _, e, _⟩ => by rw [e]; exact SqT.of upd_same) ?_ ?_
        · rintro i y σ G hy ⟨x7, rfl, rfl, hi⟩
          by_cases hlt : i < is.length
          · rw [hz, List.getElem?_append_left (by rw [List.length_map]; exact hlt)] at hy
            obtain ⟨c, _, rfl⟩ := get_ints hy
            refine ⟨_, rfl, _, _, _, .type "int", _, rfl, .ty _, ty_dp (d := .int c) (.int c), kd_int (.int c), _, rfl, ?_⟩
            refine iteF ?_
            exact ⟨_, rfl, _, _, _, .type "bool", _, rfl, .ty _, ty_dp (d := .int c) (.int c), kd_bool (.int c), _, rfl, iteF ⟨_, rfl, rfl, hlt⟩⟩
          · have hie : i = is.length := by omega
            subst hie
            rw [hz, List.getElem?_append_right (by rw [List.length_map]; exact Nat.le_refl _), List.length_map, Nat.sub_self] at hy
            cases (Option.some.inj hy)
            obtain ⟨t, bi, bb, h1, h2, h3, h4⟩ := hni
            refine ⟨_, rfl, _, _, _, .type "int", _, rfl, .ty _, h1 _ (nt_le.trans e3), h2, _, rfl, ?_⟩
            cases bi with
            | false => exact iteT (iteT (k _ e3))
            | true =>
              refine iteF ?_
              refine ⟨_, rfl, _, _, _, .type "bool", _, rfl, .ty _, h1 _ (nt_le.trans e3), h3, _, rfl, ?_⟩
              cases bb with
              | true => exact iteT (k _ e3)
              | false => cases h4
        · rintro σ G ⟨x7, rfl, rfl, hi⟩
          have hi : 6 ≤ is.length := hi
          omega
      · simp only [List.cons.injEq, and_true] at hz
        obtain ⟨rfl, rfl, rfl, rfl, rfl, rfl⟩ := hz
        refine for_tup (K := K) (a := L) (xs := [.int i0, .int i1, .int p, .int q, .int i3, .int i4]) (fun i σ G => ∃ x7 : Option V, σ = [some (.int n), some (.ref a), some (.int i0), some (.int i1), some (.ref b), some (.int i3), some (.int i4), x7] ∧ G = upd G2 L (.tup [.int i0, .int i1, .int p, .int q, .int i3, .int i4]))
          ⟨none, rfl, rfl⟩ (fun i σ G _ ⟨_, _, e⟩ => by rw [e]; exact SqT.of upd_same) ?_ ?_
        · rintro i y σ G hy ⟨x7, rfl, rfl⟩
          obtain ⟨c, _, rfl⟩ := get_ints (ns := [i0, i1, p, q, i3, i4]) hy
          refine ⟨_, rfl, _, _, _, .type "int", _, rfl, .ty _, ty_dp (d := .int c) (.int c), kd_int (.int c), _, rfl, ?_⟩
          refine iteF ?_
          exact ⟨_, rfl, _, _, _, .type "bool", _, rfl, .ty _, ty_dp (d := .int c) (.int c), kd_bool (.int c), _, rfl, iteF ⟨_, rfl, rfl⟩⟩
        · rintro σ G ⟨x7, rfl, rfl⟩
          have no : Q .non (upd G2 L (.tup [.int i0, .int i1, .int p, .int q, .int i3, .int i4])) := k _ e3
          refine ⟨_, rfl, _, _, rfl, rfl, _, rfl, ?_⟩
          refine dec_ite (fun z => ?_) (fun z1 => ?_)
          · exact iteT no
          refine ⟨_, rfl, _, rfl, _, _, rfl, rfl, _, rfl, ?_⟩
          refine dec_ite (fun z => ?_) (fun z2 => ?_)
          · exact iteT no
          refine ⟨_, rfl, _, _, rfl, rfl, _, rfl, ?_⟩
          refine dec_ite (fun z => ?_) (fun z3 => ?_)
          · exact iteT no
          refine ⟨_, rfl, _, rfl, _, _, rfl, rfl, _, rfl, ?_⟩
          refine dec_ite (fun z => ?_) (fun z4 => ?_)
          · exact iteT no
          refine ⟨_, rfl, _, _, rfl, rfl, _, rfl, ?_⟩
          refine dec_ite (fun z => ?_) (fun z5 => ?_)
          · exact no
          exact absurd ⟨by omega, by omega, by omega, by omega, by omega⟩ hno
    have kn : rdStep n d = none → ∀ H', Ex H H' → Q .non H' := fun e H' e' => k H' .non e' (by rw [e]; rfl)
    refine ⟨_, rfl, v, _, rfl, lk_dp hd, fun H1 e1 => ?_⟩
    refine ⟨_, rfl, ?_⟩
    by_cases hl : isListD d = true
    · rw [hl]
      refine iteF ?_
      obtain ⟨a, xs, ds, rfl, hX, hs⟩ := dp_seq hd hl
      have hlen := dpa_len hX
      have hit : itemsD d = ds := by
        rcases hs with ⟨rfl, _⟩ | ⟨rfl, _⟩ <;> rfl
      refine ⟨_, rfl, a, xs, rfl, hs.imp (fun z => ex_l e1 z.2) (fun z => ex_t e1 z.2), rfl, _, rfl, ?_⟩
      by_cases h5 : xs.length = 5
      · have h5' : V.int (xs.length : Int) = V.int 5 := by rw [h5]; rfl
        rw [decide_eq_true h5']
        refine iteF ?_
        obtain ⟨x0, x1, x2, x3, x4, rfl⟩ := five_of h5
        obtain ⟨d0, d1, d2, d3, d4, rfl, hx0, hx1, hx2, hx3, hx4⟩ := dpa_five hX
        refine ⟨_, rfl, gun_or rfl (hs.imp (fun z => ex_l e1 z.2) (fun z => ex_t e1 z.2)) rfl ⟨x0, _, rfl, x1, _, rfl, x2, _, rfl, x3, _, rfl, x4, _, rfl, rfl, ?_⟩⟩
        have nope : (isListD d2 = true → ∀ e0 e1, itemsD d2 = [e0, e1] → (∀ z ∈ [d0, d1, e0, e1, d3, d4], isIntD z = true) → False) → rdStep n d = none := fun z => by
          cases q : rdStep n d with
          | none => rfl
          | some s =>
            obtain ⟨z1, e0, e1, z2, z3⟩ := rd_six hit q
            exact (z z1 e0 e1 z2 z3).elim
        refine ⟨_, rfl, x2, _, rfl, lk_dp (dp_ex e1 _ _ hx2), fun G2 eG2 => ⟨_, rfl, ?_⟩⟩
        have e2 := e1.trans eG2
        by_cases hl2 : isListD d2 = true
        · rw [hl2]
          refine iteF ?_
          obtain ⟨b, ys, es, rfl, hY, hs2⟩ := dp_seq hx2 hl2
          have hit2 : itemsD d2 = es := by
            rcases hs2 with ⟨rfl, _⟩ | ⟨rfl, _⟩ <;> rfl
          have hylen := dpa_len hY
          have hs2' : SqL K G2 b ys ∨ SqT K G2 b ys := hs2.imp (fun z => ex_l e2 z.2) (fun z => ex_t e2 z.2)
          refine ⟨_, rfl, b, ys, rfl, hs2', rfl, _, rfl, ?_⟩
          by_cases h2 : ys.length = 2
          · have h2' : V.int (ys.length : Int) = V.int 2 := by rw [h2]; rfl
            rw [decide_eq_true h2']
            refine iteF ?_
            obtain ⟨y0, y1, rfl⟩ := two_ofl h2
            obtain ⟨c0, c1, rfl, hy0, hy1⟩ := dpa_two hY
            refine ⟨_, rfl, _, rfl, _, rfl, ix_at (j := 0) hs2' rfl ?_⟩
            refine ⟨_, rfl, ix_at (j := 1) hs2' rfl ?_⟩
            refine ⟨_, rfl, _, rfl, by show 6 ≤ sizeLine; decide, fun L hL => ?_⟩
            have e3 := e2.trans (Ex.new (o := .tup [x0, x1, y0, y1, x3, x4]) hL)
            have hA : DpAll K (upd G2 L (.tup [x0, x1, y0, y1, x3, x4])) [x0, x1, y0, y1, x3, x4] [d0, d1, c0, c1, d3, d4] := dpa_ex e3 _ _ (.cons hx0 (.cons hx1 (.cons hy0 (.cons hy1 (.cons hx3 (.cons hx4 .nil))))))
            refine ⟨L, rfl, ⟨_, SqT.of upd_same⟩, ?_⟩
            refine for_tup (K := K) (a := L) (xs := [x0, x1, y0, y1, x3, x4]) (fun i σ G => ∃ x7 : Option V, σ = [some (.int n), some (.ref a), some x0, some x1, some (.ref b), some x3, some x4, x7] ∧ G = upd G2 L (.tup [x0, x1, y0, y1, x3, x4]) ∧ ∀ z ∈ ([d0, d1, c0, c1, d3, d4] : List PyData).take i, isIntD z = true)
              ⟨none, rfl, rfl, fun z hz => by simp at hz⟩ (fun i σ G _ ⟨_, _, e, _⟩ => by rw [e]; exact SqT.of upd_same) ?_ ?_
            · rintro i y σ G hy ⟨x7, rfl, rfl, hi⟩
              obtain ⟨di, hdi, hyd⟩ := dpa_get hA hy
              have hmem := mem_of_get hdi
              refine ⟨_, rfl, y, _, _, .type "int", _, rfl, .ty _, ty_dp hyd, kd_int di, _, rfl, ?_⟩
              have bad : isIntD di = false → Q .non (upd G2 L (.tup [x0, x1, y0, y1, x3, x4])) := fun z => kn (nope fun _ f0 f1 hf hz => by
                rw [hit2] at hf
                cases hf
                have := hz di hmem
                rw [z] at this
                cases this) _ e3
              cases hi1 : isIntD di with
              | true =>
                refine iteF ?_
                refine ⟨_, rfl, y, _, _, .type "bool", _, rfl, .ty _, ty_dp hyd, kd_bool di, ?_⟩
                obtain ⟨i', rfl⟩ := int_of hi1
                refine ⟨_, rfl, iteF ⟨_, rfl, rfl, fun z hz => ?_⟩⟩
                rw [List.take_succ, hdi] at hz
                rcases List.mem_append.mp hz with hz | hz
                · exact hi z hz
                · simp at hz
                  subst hz
                  rfl
              | false =>
                cases di with
                | bool b' =>
                  refine iteF ?_
                  refine ⟨_, rfl, y, _, _, .type "bool", _, rfl, .ty _, ty_dp hyd, kd_bool _, ?_⟩
                  exact ⟨_, rfl, iteT (bad hi1)⟩
                | int => cases hi1
                | _ => exact iteT (iteT (bad hi1))
            · rintro σ G ⟨x7, rfl, rfl, hi⟩
              have hall : ∀ z ∈ [d0, d1, c0, c1, d3, d4], isIntD z = true := fun z hz => hi z (by simpa using hz)
              obtain ⟨i0, rfl⟩ := int_of (hall d0 (by simp))
              obtain ⟨i1, rfl⟩ := int_of (hall d1 (by simp))
              obtain ⟨p, rfl⟩ := int_of (hall c0 (by simp))
              obtain ⟨q, rfl⟩ := int_of (hall c1 (by simp))
              obtain ⟨i3, rfl⟩ := int_of (hall d3 (by simp))
              obtain ⟨i4, rfl⟩ := int_of (hall d4 (by simp))
              have hr5 := rd_at (n := n) hit hit2
              cases hx0
              cases hx1
              cases hx3
              cases hx4
              cases hy0
              cases hy1
              have no : ¬ (0 ≤ i0 ∧ i0 < n ∧ 0 ≤ i1 ∧ i1 < n ∧ 1 ≤ i3) → Q .non (upd G2 L (.tup [.int i0, .int i1, .int p, .int q, .int i3, .int i4])) := fun z => kn (by rw [hr5, if_neg z]) _ e3
              refine ⟨_, rfl, _, _, rfl, rfl, _, rfl, ?_⟩
              refine dec_ite (fun z => ?_) (fun z1 => ?_)
              · exact iteT (no (fun y => by omega))
              refine ⟨_, rfl, _, rfl, _, _, rfl, rfl, _, rfl, ?_⟩
              refine dec_ite (fun z => ?_) (fun z2 => ?_)
              · exact iteT (no (fun y => by omega))
              refine ⟨_, rfl, _, _, rfl, rfl, _, rfl, ?_⟩
              refine dec_ite (fun z => ?_) (fun z3 => ?_)
              · exact iteT (no (fun y => by omega))
              refine ⟨_, rfl, _, rfl, _, _, rfl, rfl, _, rfl, ?_⟩
              refine dec_ite (fun z => ?_) (fun z4 => ?_)
              · exact iteT (no (fun y => by omega))
              refine ⟨_, rfl, _, _, rfl, rfl, _, rfl, ?_⟩
              refine dec_ite (fun z => ?_) (fun z5 => ?_)
              · exact no (fun y => by omega)
              rw [if_pos ⟨by omega, by omega, by omega, by omega, by omega⟩] at hr5
              refine ⟨_, rfl, _, rfl, _, rfl, b, [.int p, .int q], rfl, ?_⟩
              rcases hs2 with ⟨_, hs2⟩ | ⟨_, hs2⟩
              · refine .inl ⟨ex_l e3 hs2, fun l hl => ⟨_, rfl, _, rfl, by show 5 ≤ sizeLine; decide, fun t ht => ?_⟩⟩
                refine k _ _ ((e3.trans (Ex.new hl)).trans (Ex.new ht)) ?_
                rw [hr5]
                exact stD_mk (s := ⟨i0, i1, p, q, i3, i4⟩) (SqT.of upd_same) (SqT.of (by rw [upd_ne (ne_of_none upd_same ht)]; exact upd_same))
              · refine .inr ⟨ex_t e3 hs2, _, rfl, _, rfl, by show 5 ≤ sizeLine; decide, fun t ht => ?_⟩
                refine k _ _ (e3.trans (Ex.new ht)) ?_
                rw [hr5]
                exact stD_mk (s := ⟨i0, i1, p, q, i3, i4⟩) (SqT.of upd_same) (ex_t (e3.trans (Ex.new ht)) hs2)
          · rw [decide_eq_false (fun z => h2 (by have := V.int.inj z; omega))]
            refine iteT (kn (nope fun _ f0 f1 hf _ => h2 ?_) _ e2)
            rw [hylen, ← hit2, hf]
            rfl
        · have hf : isListD d2 = false := by simpa using hl2
          rw [hf]
          exact iteT (iteT (kn (nope fun z _ _ _ _ => hl2 z) _ e2))
      · have hn : rdStep n d = none := by
          cases q : rdStep n d with
          | none => rfl
          | some s => exact absurd (by rw [hlen, ← hit]; exact rd_len q) h5
        rw [decide_eq_false (fun z => h5 (by have := V.int.inj z; omega))]
        exact iteT (kn hn _ e1)
    · have hn : rdStep n d = none := by
        cases q : rdStep n d with
        | none => rfl
        | some s => exact absurd (rd_list q) hl
      have hf : isListD d = false := by simpa using hl
      rw [hf]
      exact iteT (iteT (kn hn _ e1))
end
end AA

set_option Elab.async false
set_option linter.all false
set_option maxRecDepth 100000
set_option maxHeartbeats 4000000
/-! enumerate over a list or a tuple. -/
namespace AA
open PySem PySem.Spec PyProof.Rows L2 Evl
theorem enumT_new {v : Value} {o : Obj} {Z : Heap → Prop} (B : Begins v o Z) :
    Meets (Builtin.«enumerate.__new__» ⟨[.type "enumerate", v], []⟩) (fun _ R s => Z s.heap ∧
      R (.ok (.ret (.ref (s.heap.push o).objs.size))) { s with heap := (s.heap.push o).push { cls := .type "enumerate", data := .fields #[.none, .bool false, .ref s.heap.objs.size, rawInt 0, .none, .none] } }) :=
  .of_wp fun prog w A R s h => by
    obtain ⟨hp, g, d, tk, os⟩ := s
    obtain ⟨z, h⟩ := h
    have sb := sub_enumerate
    have go : ∀ {A' : Around} {E : Value → Shared → Prop} {Q : Value → Shared → Prop}, Q (.ref hp.objs.size) ⟨hp.push o, g, d, tk, os⟩ → wpAny (model prog w) A' (pyIter v) Q E ⟨hp, g, d, tk, os⟩ := fun q => B.iter prog w _ _ ⟨hp, g, d, tk, os⟩ _ z q
    wp_walk using go
    refine wpAny_stack_any (fun st => wpAny_pure ?_)
    split
    · rename_i c _ _ _ _ _
      cases (c == Value.type "enumerate") <;> (wp_walk using go; exact ⟨_, rfl, h⟩)
    · wp_walk using go
      exact ⟨_, rfl, h⟩
section
variable {prog : Program} {w : World} {A : Around} {E : Value → Shared → Prop} {s : Shared}
theorem enumT_call {v : Value} {o : Obj} {Z : Heap → Prop} {Q : Value → Shared → Prop} (B : Begins v o Z) (z : Z s.heap)
    (h : ∀ h', IsEnum h' (s.heap.objs.size + 1) s.heap.objs.size 0 .none → h'.get? s.heap.objs.size = some o → h'.objs.size = s.heap.objs.size + 2 →
      (∀ b o, s.heap.get? b = some o → h'.get? b = some o) → Q (.ref (s.heap.objs.size + 1)) { s with heap := h' }) : wpAny (model prog w) A (call (.type "enumerate") [v]) Q E s := by
  have hz : (s.heap.push o).objs.size = s.heap.objs.size + 1 := Heap.size_push ..
  have he : IsEnum ((s.heap.push o).push { cls := .type "enumerate", data := .fields #[.none, .bool false, .ref s.heap.objs.size, rawInt 0, .none, .none] }) (s.heap.objs.size + 1) s.heap.objs.size 0 .none := by
    have q := Heap.get?_push_size (s.heap.push o) (o := { cls := .type "enumerate", data := .fields #[.none, .bool false, .ref s.heap.objs.size, rawInt 0, .none, .none] }) rfl
    rw [hz] at q
    exact q
  refine callType_new F.called_enumerate (by decide) (F.typeCall_enumerate_1 _) (F.newCall_enumerate_1 _) (fun obj => F.args_object_init_2 obj _) F.entry_enumerate_new (enumT_new B) ⟨z, ?_⟩
  show _ ∧ _
  rw [hz]
  exact ⟨⟨_, he, rfl⟩, h _ he (Heap.get?_push_of_some _ (Heap.get?_push_size _ B.free)) (by rw [Heap.size_push, hz]) (fun b u x => Heap.get?_push_of_some _ (Heap.get?_push_of_some _ x))⟩
end
/-- the tuple at a, each item in a new pair -/
def IteT (K : PySem.W.Frag) (a : Addr) : It :=
  ⟨fun i H => ∃ (xs : List V) (x : V), SqT K H a xs ∧ xs[i]? = some x, fun i H v H' => ∃ T x, v = .ref T ∧ H T = none ∧ H' = upd H T (.tup [.int (i : Nat), x]) ∧ (∀ xs, SqT K H a xs → xs[i]? = some x), fun i H => ∃ xs : List V, SqT K H a xs ∧ xs.length = i⟩
theorem turn_enumT {P : Program} {w : World} {K : PySem.W.Frag} {elts : List Expr} {kk : Nat} {tpos : Pos} {a e it : Addr} (ai : a ≠ it) (hne : e ≠ it) (hea : e ≠ a) :
    Turn P w K (.Tuple elts kk tpos) (IteT K a) [e, it] e (fun i h => (∃ old, IsEnum h e it ((i : Nat) : Int) old) ∧ h.IsTupleIter it a i) where
  mem := List.mem_cons_self
  obj := fun i h st b hb => by
    obtain ⟨⟨old, he⟩, ⟨o, ho, hc, hd⟩⟩ := st
    rcases List.mem_cons.mp hb with rfl | z
    · exact ⟨_, he, fun v q => nomatch q⟩
    · obtain rfl := List.mem_singleton.mp z
      exact ⟨o, ho, fun v q => by rw [hd] at q; cases q⟩
  keep := fun i h h' st k => by
    obtain ⟨⟨old, he⟩, hi⟩ := st
    exact ⟨⟨old, k e List.mem_cons_self _ he⟩, hi.at fun o q => k it (by simp) o q⟩
  item := by
    intro X hP hw hK hc i pins s σ H E I hf st hg
    subst hP hw hK
    obtain ⟨⟨old, he⟩, hit⟩ := st
    obtain ⟨xs, x, hq, hx⟩ := hg
    obtain ⟨its, rv, p, hz⟩ := I.tuple hq
    obtain ⟨u, hu, ru⟩ := rv.get hx
    have hel : e < s.heap.objs.size := Heap.lt_size he
    have hil : it < s.heap.objs.size := by
      obtain ⟨_, q, _⟩ := hit
      exact Heap.lt_size q
    have hin : i < its.toArray.size := by
      have := (List.getElem?_eq_some_iff.mp hu).1
      simpa using this
    have pt : s.heap.IsTuple a its.toArray := p
    refine wpAny_pyNext_enum_itemD (Draws.tuple (A := X.A.in1) (I.ok.hd hc) it a ai its.toArray) he ⟨hit, pt⟩ hin hne (by simp [hne, hea]) fun y h' tk hy ho hst hT hsz hk => ?_
    have ey : u = y := by
      have h1 : its.toArray[i]? = some u := by simpa using hu
      exact Option.some.inj (h1.symm.trans hy)
    subst ey
    refine ⟨_, rfl, wpAny_letOwnedTupleGo_enum (s := { s with heap := h', toks := tk + 1 }) ho fun h'' he' sb => ?_⟩
    have hT2 : h''.get? s.heap.objs.size = some { cls := .type "tuple", data := .seq #[.int i tk, u] } := (sb.2 _ (Nat.ne_of_gt hel)).trans hT
    have new : ObjOk X.prog X.w (upd H s.heap.objs.size (.tup [.int (i : Nat), x])) h'' s.heap.objs.size (.tup [.int (i : Nat), x]) :=
      ⟨by show 2 ≤ sizeLine; decide, [.int i tk, u], .cons ⟨_, rfl⟩ (.cons ru .nil), _, hT2, rfl, _, rfl⟩
    have I1 : Inv X pins σ (upd H s.heap.objs.size (.tup [.int (i : Nat), x])) { s with heap := h'', toks := tk + 1 } :=
      I.turnedNew (ch := [e, it]) (fun b ob hb q => (sb.2 b (fun z => hb (by simp [z]))).trans (hk b ob (fun z => hb (by simp [z])) (fun z => hb (by simp [z])) q)) hf (Nat.le_refl _) new
    have e1 : ((i + 1 : Nat) : Int) = (i : Int) + 1 := by omega
    refine ⟨.ref s.heap.objs.size, _, I1, rfl, ⟨_, x, rfl, I.hok.fresh (Nat.le_refl _), rfl, fun ys hy => by rw [I.tuple_inj hy hq]; exact hx⟩, ⟨⟨u, by rw [e1]; exact he'⟩, hst.1.at fun o q => (sb.2 it (Ne.symm hne)).trans q⟩, fun b hb => ?_⟩
    have hb' : b < s.heap.objs.size := by
      rcases List.mem_cons.mp hb with rfl | z
      · exact hel
      · obtain rfl := List.mem_singleton.mp z
        exact hil
    rw [upd_ne (Nat.ne_of_lt hb')]
    exact (hf b hb).1
  done := by
    intro X hP hw hK hc i pins s σ H E I hf st hg
    subst hP hw hK
    obtain ⟨⟨old, he⟩, hit⟩ := st
    obtain ⟨xs, hq, hx⟩ := hg
    obtain ⟨its, rv, p, hz⟩ := I.tuple hq
    obtain ⟨f0, f1, f2, f3, f4, f5⟩ := hf it (by simp)
    have hl := rv.length
    have pt : s.heap.IsTuple a its.toArray := p
    have hi : i = its.toArray.size := by
      rw [← hx, hl]
      simp
    subst hi
    exact wpAny_pyNext_enum_endD (Draws.tuple (A := X.A.in1) (I.ok.hd hc) it a ai its.toArray) he ⟨hit, pt⟩ fun h' eb => ⟨rfl, I.turned (t' := s.toks) (fun b o hb q => eb b o hb q) f0 f1 f3 f4 f5⟩
  self := fun A i s Q E st h => by
    obtain ⟨⟨_, he⟩, _⟩ := st
    exact wpAny_pyIter_enum he h
/-- enumerate(list) or enumerate(tuple) -/
def iEnumA (K : PySem.W.Frag) (ta : TA) : TI := fun σ H R => ta σ H fun vs H1 => ∃ a xs, vs = [.ref a] ∧ ((SqL K H1 a xs ∧ R (Ite K a) H1) ∨ (SqT K H1 a xs ∧ R (IteT K a) H1))
theorem pi_enumA {X : Cx} {e : Expr} {ta : TA} {p pos tpos : Pos} {elts : List Expr} {kk : Nat} (hg : Gl X "enumerate") (hm : X.mg "enumerate" = none) (ha : PA X [e] ta) (hs : starEach [e] X.env = [(false, eval e X.env)] := by rfl) :
    PI X (.Tuple elts kk tpos) (.Call (.Name "enumerate" p) [e] [] pos) (iEnumA X.K ta) := ⟨fun pins s σ H R I h =>
  Call_ (ld_blt I hg hm boot_enumerate (PyProof.Rows.callWith_type1 (thn (ha.run pos pins s σ H _ I h) fun us s1 ⟨vs, H1, I1, r1, a, xs, ex, q1⟩ => by
    subst ex
    obtain ⟨u, rfl, ru⟩ := vals1 r1
    cases (show u = Value.ref a from ru)
    have fresh : ∀ b ∈ [s1.heap.objs.size + 1, s1.heap.objs.size], FpOk X pins H1 b := fun b hb => by
      have hle : s1.heap.objs.size ≤ b := by
        rcases List.mem_cons.mp hb with rfl | z
        · exact Nat.le_add_right _ _
        · exact Nat.le_of_eq (List.mem_singleton.mp z).symm
      exact I1.fpOk hle (I1.hok.fresh hle)
    rcases q1 with ⟨hq, q⟩ | ⟨hq, q⟩
    · obtain ⟨its, rv, p', hz⟩ := I1.list hq
      refine call_enumerate_list p'.isList fun h' he hit hsz hk => wpAny_pyIter_enum he ?_
      exact ⟨s1.heap.objs.size + 1, _, _, _, H1, rfl, I1.kept (t' := s1.toks) hk, turn_enum a (s1.heap.objs.size + 1) s1.heap.objs.size, ⟨⟨.none, he⟩, hit, Nat.succ_ne_self _⟩, fresh, q⟩
    · obtain ⟨its, rv, p', hz⟩ := I1.tuple hq
      have hal : a < s1.heap.objs.size := p'.lt
      refine enumT_call (begins_tuple a its.toArray) p' fun h' he hit hsz hk => wpAny_pyIter_enum he ?_
      exact ⟨s1.heap.objs.size + 1, _, _, _, H1, rfl, I1.kept (t' := s1.toks) hk, turn_enumT (a := a) (e := s1.heap.objs.size + 1) (it := s1.heap.objs.size) (Nat.ne_of_lt hal) (Nat.succ_ne_self _) (Ne.symm (Nat.ne_of_lt (Nat.lt_succ_of_lt hal))), ⟨⟨.none, he⟩, ⟨_, hit, rfl, rfl⟩⟩, fresh, q⟩) hs rfl))⟩
theorem for_enumT {K : PySem.W.Frag} {a : Addr} {xs : List V} {g : TG} {tb : TS} {D : Ends} {σ : L2.St} {H : Hp} (Pv : Nat → L2.St → Hp → Prop) (h0 : Pv 0 σ H) (hl : ∀ i σ H, i ≤ xs.length → Pv i σ H → SqT K H a xs)
    (hs : ∀ (i : Nat) (x : V) (σ : L2.St) (H : Hp) (T : Addr), xs[i]? = some x → Pv i σ H → H T = none → g (.ref T) σ (upd H T (.tup [.int (i : Nat), x])) fun σ2 H2 => tb { D with nx := Pv (i + 1), ct := Pv (i + 1), bk := D.nx } σ2 H2) (hd : ∀ σ H, Pv xs.length σ H → D.nx σ H) :
    ∃ W : Nat → Nat → L2.St → Hp → Prop, (∃ m, W 0 m σ H) ∧ ∀ i m σ H, W i m σ H →
      ((IteT K a).stop i H ∧ D.nx σ H) ∨ ((IteT K a).go i H ∧ ∃ N : L2.St → Hp → Prop, (∀ σ' H', N σ' H' → ∃ m', m' < m ∧ W (i + 1) m' σ' H') ∧ ∀ x H', (IteT K a).yld i H x H' → g x σ H' fun σ2 H2 => tb { D with nx := N, ct := N, bk := D.nx } σ2 H2) := by
  refine ⟨fun i m σ H => m = xs.length - i ∧ i ≤ xs.length ∧ Pv i σ H, ⟨xs.length, by simp, Nat.zero_le _, h0⟩, ?_⟩
  rintro i m σ H ⟨rfl, hi, p⟩
  have q := hl i σ H hi p
  by_cases hlt : i < xs.length
  · refine .inr ⟨⟨xs, xs[i], q, by simp [hlt]⟩, Pv (i + 1), fun σ' H' p' => ⟨xs.length - (i + 1), by omega, rfl, hlt, p'⟩, fun x H' y => ?_⟩
    obtain ⟨T, z, rfl, hT, rfl, e⟩ := y
    exact hs i z σ _ T (e xs q) p hT
  · have e : i = xs.length := by omega
    subst e
    exact .inl ⟨⟨xs, q, rfl⟩, hd σ H p⟩
theorem for_enumA {K : PySem.W.Frag} {a : Addr} {xs : List V} {g : TG} {tb : TS} {D : Ends} {σ : L2.St} {H0 H : Hp} (hq : SqL K H0 a xs ∨ SqT K H0 a xs) (Pv : Nat → L2.St → Hp → Prop) (h0 : Pv 0 σ H) (he : ∀ i σ G, Pv i σ G → Ex H0 G)
    (hs : ∀ (i : Nat) (x : V) (σ : L2.St) (H : Hp) (T : Addr), xs[i]? = some x → Pv i σ H → H T = none → g (.ref T) σ (upd H T (.tup [.int (i : Nat), x])) fun σ2 H2 => tb { D with nx := Pv (i + 1), ct := Pv (i + 1), bk := D.nx } σ2 H2) (hd : ∀ σ H, Pv xs.length σ H → D.nx σ H) :
    (SqL K H a xs ∧ ∃ W : Nat → Nat → L2.St → Hp → Prop, (∃ m, W 0 m σ H) ∧ ∀ i m σ H, W i m σ H →
      ((Ite K a).stop i H ∧ D.nx σ H) ∨ ((Ite K a).go i H ∧ ∃ N : L2.St → Hp → Prop, (∀ σ' H', N σ' H' → ∃ m', m' < m ∧ W (i + 1) m' σ' H') ∧ ∀ x H', (Ite K a).yld i H x H' → g x σ H' fun σ2 H2 => tb { D with nx := N, ct := N, bk := D.nx } σ2 H2)) ∨
    (SqT K H a xs ∧ ∃ W : Nat → Nat → L2.St → Hp → Prop, (∃ m, W 0 m σ H) ∧ ∀ i m σ H, W i m σ H →
      ((IteT K a).stop i H ∧ D.nx σ H) ∨ ((IteT K a).go i H ∧ ∃ N : L2.St → Hp → Prop, (∀ σ' H', N σ' H' → ∃ m', m' < m ∧ W (i + 1) m' σ' H') ∧ ∀ x H', (IteT K a).yld i H x H' → g x σ H' fun σ2 H2 => tb { D with nx := N, ct := N, bk := D.nx } σ2 H2)) :=
  hq.imp (fun q => ⟨ex_l (he _ _ _ h0) q, for_enumL Pv h0 (fun i σ G hi p => ex_l (he i σ G p) q) hs hd⟩) (fun q => ⟨ex_t (he _ _ _ h0) q, for_enumT Pv h0 (fun i σ G hi p => ex_t (he i σ G p) q) hs hd⟩)
end AA

set_option Elab.async false
set_option linter.all false
set_option maxRecDepth 100000
set_option maxHeartbeats 4000000
/-! Exceptions of one field, made and raised. -/
namespace AA
open PySem PySem.Spec PyProof.Rows L2 Evl
section
variable {P : Program} {w : World} {K : PySem.W.Frag} {mg : Str → Option Value} {base : Heap}
/-- a def that may raise, asked where it doesn't -/
theorem fn_calm {k : Nat} {f : Addr} {fd : FuncData} {ps : List Str} {sp : Sp} (G : FnOk P w K mg base (L2.CX P w) k f fd ps sp) : FnOk P w K mg base CX0 k f fd ps (fun vs H Q _ => sp vs H Q E0) := by
  refine ⟨fun vs H Q E h => G.len vs H Q E0 h, fun A outer s H args us vs Q E hr e0 hb r h => ?_⟩
  refine codeAny_mono (G.run A outer s H args us vs Q E0 hr e0 hb r h) fun r s' hq => ?_
  cases r with
  | ok fl => cases fl <;> exact hq
  | error e =>
    obtain ⟨_, _, _, _, _, _, _, _, _, _, _, _, z⟩ := hq
    exact z.elim
/-- what the top has written of an exception's class x with the field m -/
structure ExT (K : PySem.W.Frag) (mg : Str → Option Value) (x m : Str) (CB fI : Addr) : Prop where
  ox : OexC K CB
  xf : XfC K CB
  no : PySem.W.findIn K (.ref CB) m = some none
  gC : mg x = some (.ref CB)
  iC : PySem.W.findIn K (.ref CB) "__init__" = some (some (.ref fI))
  tC : PySem.W.typeIn K (.ref fI) = some (.type "function")
def spExI (CB : Addr) (m : Str) : Sp := fun vs H Q _ => ∃ (a : Addr) (v : V), vs = [.ref a, v] ∧ H a = some (exo a CB none) ∧ ∀ dx, H dx = none → dx ≠ a → Q .non (upd (upd H dx (exd dx [(m, v)])) a (exo a CB (some dx)))
theorem scBadPl : FnScope ["self", "places"] ["self", "places"] (defScope sBadPlInit) := ⟨rfl, rfl, rfl, by decide +kernel, rfl, by decide +kernel, by decide +kernel⟩
theorem ok_badPl {CB f fI : Addr} {fd : FuncData} (F : L2.Fun K "__init__" "BadPlaces.__init__" sBadPlInit f fd) (T : ExT K mg "BadPlaces" "places" CB fI) : FnOk P w K mg base CX0 1 f fd ["self", "places"] (spExI CB "places") := by
  refine F.ok scBadPl (fun vs H Q E h => ?_) (fun cdv A outer s H vs Q E hr h => ?_)
  · obtain ⟨a, v, rfl, _⟩ := h
    rfl
  · obtain ⟨a, v, rfl, ha, k⟩ := h
    exact ⟨_, pss_one (ps_ost (pv 0) (pv 1) rfl), _, rfl, _, rfl, a, CB, rfl, T.ox, T.no, .inl ⟨ha, k⟩⟩
theorem scBadSt : FnScope ["self", "index"] ["self", "index"] (defScope sBadStInit) := ⟨rfl, rfl, rfl, by decide +kernel, rfl, by decide +kernel, by decide +kernel⟩
theorem ok_badSt {CB f fI : Addr} {fd : FuncData} (F : L2.Fun K "__init__" "BadSteps.__init__" sBadStInit f fd) (T : ExT K mg "BadSteps" "index" CB fI) : FnOk P w K mg base CX0 1 f fd ["self", "index"] (spExI CB "index") := by
  refine F.ok scBadSt (fun vs H Q E h => ?_) (fun cdv A outer s H vs Q E hr h => ?_)
  · obtain ⟨a, v, rfl, _⟩ := h
    rfl
  · obtain ⟨a, v, rfl, ha, k⟩ := h
    exact ⟨_, pss_one (ps_ost (pv 0) (pv 1) rfl), _, rfl, _, rfl, a, CB, rfl, T.ox, T.no, .inl ⟨ha, k⟩⟩
/-- an exception of this class with this field flies -/
def BadE (CB : Addr) (m : Str) (H : Hp) (v : V) (E : XK) : Prop := ∀ (H' : Hp) (dd : Addr), Ex H H' → H dd = none → H' dd = some (.xd [(m, v)]) → E (.ref CB) (some dd) H'
theorem BadE.ex {CB : Addr} {m : Str} {H H1 : Hp} {v : V} {E : XK} (h : BadE CB m H v E) (e : Ex H H1) : BadE CB m H1 v E := fun H' dd e' h0 h1 => h H' dd (e.trans e') (fresh_back e h0) h1
/-- raise C(e), read -/
theorem raise_go {CB : Addr} {m : Str} {H1 : Hp} {v : V} {E : XK} (kb : BadE CB m H1 v E) : ∀ a, H1 a = none → spExI CB m [.ref a, v] (upd H1 a (exo a CB none)) (fun u H2 => u = .non ∧ ∃ (d : Addr) (fs : List (Str × V)), H2 a = some (exo a CB (some d)) ∧ H2 d = some (exd d fs) ∧ H1 d = none ∧ E (.ref CB) (some d) (upd (del H2 a) d (.xd fs))) (fun _ _ _ => False) := by
  intro a ha
  refine ⟨a, v, rfl, upd_same, fun dx hdx ne => ⟨rfl, dx, _, upd_same, by rw [upd_ne ne]; exact upd_same, ?_, ?_⟩⟩
  · rw [upd_ne ne] at hdx
    exact hdx
  · have hd1 : H1 dx = none := by
      rw [upd_ne ne] at hdx
      exact hdx
    refine kb _ dx (fun b o hb => ?_) hd1 upd_same
    have hb1 : b ≠ dx := ne_of_none hb hd1
    have hb2 : b ≠ a := ne_of_none hb ha
    rw [upd_ne hb1, del_ne hb2, upd_ne hb2, upd_ne hb1, upd_ne hb2]
    exact hb
end
end AA

set_option Elab.async false
set_option linter.all false
set_option maxRecDepth 100000
set_option maxHeartbeats 4000000
/-! read_steps, of good steps. -/
namespace AA
open PySem PySem.Spec PyProof.Rows L2 Evl
theorem sqt_upd {K : PySem.W.Frag} {G : Hp} {p a : Addr} {φ : Heap → Prop} {o : HO} {xs : List V} (hp : G p = some (.ext φ)) (h : SqT K G a xs) : SqT K (upd G p o) a xs := by
  rcases h with h | h
  · refine .inl ?_
    rcases h with h | ⟨u, h⟩
    · exact .inl (by rw [upd_ne (fun z => by rw [z, hp] at h; cases h)]; exact h)
    · exact .inr ⟨u, by rw [upd_ne (fun z => by rw [z, hp] at h; cases h)]; exact h⟩
  · exact .inr h
theorem st_upd {K : PySem.W.Frag} {G : Hp} {p : Addr} {φ : Heap → Prop} {o : HO} {v : V} {s : St5} (hp : G p = some (.ext φ)) (h : Dp K G v (stD s)) : Dp K (upd G p o) v (stD s) := by
  obtain ⟨t, u, rfl, h1, h2⟩ := stD_inv h
  exact stD_mk (sqt_upd hp h1) (sqt_upd hp h2)
theorem ks_upd {K : PySem.W.Frag} {G : Hp} {p : Addr} {φ : Heap → Prop} {o : HO} {ks : List (St5 × Addr)} (hp : G p = some (.ext φ)) (h : KsOk K G ks) : KsOk K (upd G p o) ks := fun x m => st_upd hp (h x m)
theorem ks_dpa {K : PySem.W.Frag} {G : Hp} : ∀ {ks : List (St5 × Addr)}, KsOk K G ks → DpAll K G (ks.map fun x => V.ref x.2) ((ks.map (·.1)).map stD)
  | [], _ => .nil
  | x :: r, h => .cons (h x List.mem_cons_self) (ks_dpa fun y m => h y (List.mem_cons_of_mem _ m))
theorem map_get {α β : Type} {f : α → Option β} {xs : List α} {ys : List β} (h : xs.map f = ys.map some) {i : Nat} {x : α} (hx : xs[i]? = some x) : ∃ y, ys[i]? = some y ∧ f x = some y := by
  have h1 : (xs.map f)[i]? = some (f x) := by rw [List.getElem?_map, hx]; rfl
  rw [h, List.getElem?_map] at h1
  cases q : ys[i]? with
  | none =>
    rw [q] at h1
    cases h1
  | some y =>
    rw [q] at h1
    exact ⟨y, rfl, (Option.some.inj h1).symm⟩
theorem nodup_take {α : Type} {ys : List α} (h : ys.Nodup) {i : Nat} {y : α} (hy : ys[i]? = some y) : y ∉ ys.take i := by
  intro m
  obtain ⟨j, hj⟩ := List.mem_iff_getElem?.mp m
  rw [List.getElem?_take] at hj
  split at hj
  · rename_i hlt
    have : j = i := (List.getElem?_inj (List.getElem?_eq_some_iff.mp hj).1 h).mp (hj.trans hy.symm)
    omega
  · cases hj
section
variable {P : Program} {w : World} {K : PySem.W.Frag} {mg : Str → Option Value} {base : Heap}
def spIsIntegerV (K : PySem.W.Frag) : Sp := fun vs H Q _ => ∃ v : V, vs = [v] ∧ ((NotI K H v ∧ Q (.bl false) H) ∨ ∃ n, v = .int n ∧ Q (.bl true) H)
theorem ok_isIntegerV {f : Addr} {fd : FuncData} (F : L2.Fun K "is_integer" "is_integer" sIsInteger f fd) (T : Bn mg) : FnOk P w K mg base CX0 1 f fd ["thing"] (spIsIntegerV K) := by
  refine F.ok scIsInteger (fun vs H Q E h => ?_) (fun cdv A outer s H vs Q E hr h => ?_)
  · obtain ⟨v, rfl, _⟩ := h
    rfl
  · obtain ⟨v, rfl, h⟩ := h
    refine ⟨_, pss_one (ps_ret (pe_and (pe_callB call_is1 (by rfl) T.isinstance boot_isinstance (pa_cons (pv 0) (pa_cons (pe_bltn (v := .ty "int") (by rfl) T.int boot_int rfl) pa_nil)))
      (pe_one (pe_not (pe_callB call_is1 (by rfl) T.isinstance boot_isinstance (pa_cons (pv 0) (pa_cons (pe_bltn (v := .ty "bool") (by rfl) T.bool boot_bool rfl) pa_nil))))))), ?_⟩
    rcases h with ⟨⟨t, bi, bb, h1, h2, h3, h4⟩, k⟩ | ⟨n, rfl, k⟩
    · refine ⟨_, rfl, v, _, _, .type "int", _, rfl, .ty _, h1 _ nt_le, h2, _, rfl, ?_⟩
      cases bi with
      | false => exact iteF k
      | true =>
        refine iteT ?_
        refine ⟨_, rfl, v, _, _, .type "bool", _, rfl, .ty _, h1 _ nt_le, h3, _, rfl, ?_⟩
        cases bb with
        | true => exact k
        | false => cases h4
    · refine ⟨_, rfl, _, _, _, .type "int", _, rfl, .ty _, ty_dp (d := .int n) (.int n), kd_int (.int n), _, rfl, ?_⟩
      refine iteT ?_
      exact ⟨_, rfl, _, _, _, .type "bool", _, rfl, .ty _, ty_dp (d := .int n) (.int n), kd_bool (.int n), _, rfl, k⟩
/-- steps in a row, read -/
inductive RdAll (K : PySem.W.Frag) (n : Int) (H : Hp) : List V → List St5 → Prop
  | nil : RdAll K n H [] []
  | cons {v : V} {d : PyData} {s : St5} {vs : List V} {ss : List St5} (h : Dp K H v d) (hr : rdStep n d = some s) (t : RdAll K n H vs ss) : RdAll K n H (v :: vs) (s :: ss)
theorem RdAll.ex {n : Int} {H H' : Hp} (e : Ex H H') : ∀ {vs : List V} {ss : List St5}, RdAll K n H vs ss → RdAll K n H' vs ss
  | _, _, .nil => .nil
  | _, _, .cons h hr t => .cons (dp_ex e _ _ h) hr (RdAll.ex e t)
theorem RdAll.len {n : Int} {H : Hp} : ∀ {vs : List V} {ss : List St5}, RdAll K n H vs ss → vs.length = ss.length
  | _, _, .nil => rfl
  | _, _, .cons _ _ t => by rw [List.length_cons, List.length_cons, RdAll.len t]
theorem RdAll.get {n : Int} {H : Hp} : ∀ {vs : List V} {ss : List St5} {i : Nat} {v : V}, RdAll K n H vs ss → vs[i]? = some v → ∃ d s, Dp K H v d ∧ rdStep n d = some s ∧ ss[i]? = some s
  | _, _, _, _, .nil, e => by simp at e
  | _, _, 0, _, .cons h hr t, e => by
    cases (Option.some.inj e)
    exact ⟨_, _, h, hr, rfl⟩
  | _, _, i + 1, _, .cons h hr t, e => RdAll.get (i := i) t e
/-- what read_steps is handed: no list; a list whose first bad one is at an index; good steps -/
def StArg (K : PySem.W.Frag) (n : Int) (H : Hp) (v : V) (Bad : Nat → Prop) (Good : List St5 → Prop) : Prop :=
  (Lk K H v false ∧ Bad 0) ∨ ∃ (a : Addr) (xs : List V) (ss : List St5), v = .ref a ∧ SqA K H a xs ∧ ss.Nodup ∧ ss.length ≤ 1000000 ∧
    ((RdAll K n H xs ss ∧ Good ss) ∨ ∃ (pre : List V) (z : V) (r : List V), xs = pre ++ z :: r ∧ RdAll K n H pre ss ∧ (RdNo K n H z ∨ ∃ d s, Dp K H z d ∧ rdStep n d = some s ∧ s ∈ ss) ∧ Bad ss.length)
theorem StArg.ex {n : Int} {H H' : Hp} {v : V} {B : Nat → Prop} {G : List St5 → Prop} (h : StArg K n H v B G) (e : Ex H H') : StArg K n H' v B G := by
  rcases h with ⟨h1, h2⟩ | ⟨a, xs, ss, h1, h2, h3, h4, h⟩
  · exact .inl ⟨h1.ex e, h2⟩
  · refine .inr ⟨a, xs, ss, h1, h2.ex e, h3, h4, h.imp (fun z => ⟨z.1.ex e, z.2⟩) ?_⟩
    rintro ⟨pre, z, r, h5, h6, h7, h8⟩
    exact ⟨pre, z, r, h5, h6.ex e, h7.imp (fun y => y.ex e) (fun ⟨d, s, y1, y2⟩ => ⟨d, s, dp_ex e _ _ y1, y2⟩), h8⟩
theorem StArg.imp {n : Int} {H : Hp} {v : V} {B B' : Nat → Prop} {G G' : List St5 → Prop} (h : StArg K n H v B G) (hb : ∀ i, B i → B' i) (hg : ∀ ss, G ss → G' ss) : StArg K n H v B' G' := by
  rcases h with ⟨h1, h2⟩ | ⟨a, xs, ss, h1, h2, h3, h4, h⟩
  · exact .inl ⟨h1, hb _ h2⟩
  · refine .inr ⟨a, xs, ss, h1, h2, h3, h4, h.imp (fun z => ⟨z.1, hg _ z.2⟩) ?_⟩
    rintro ⟨pre, z, r, h5, h6, h7, h8⟩
    exact ⟨pre, z, r, h5, h6, h7, hb _ h8⟩
def spReadSteps (K : PySem.W.Frag) (CB : Addr) : Sp := fun vs H Q E => ∃ (n : Int) (v : V), vs = [.int n, v] ∧ StArg K n H v (fun i => BadE CB "index" H (.int (i : Nat)) E)
  (fun ss => ∀ H' p ys, Ex H H' → H p = none → H' p = some (.lst ys) → DpAll K H' ys (ss.map stD) → Q (.ref p) H')
theorem scReadSteps : FnScope ["places", "things", "found", "index", "thing", "step"] ["places", "things"] (defScope sReadSteps) := ⟨rfl, rfl, rfl, by decide +kernel, rfl, by decide +kernel, by decide +kernel⟩
theorem ok_readSteps {f CB fI : Addr} {fd fdI : FuncData} (F : L2.Fun K "read_steps" "read_steps" sReadSteps f fd) (T : Bn mg) (TB : ExT K mg "BadSteps" "index" CB fI) (GI : FnOk P w K mg base CX0 1 fI fdI ["self", "index"] (spExI CB "index")) (bI : Binds K fdI ["self", "index"] [])
    (cR : C8.Cal P w K mg base 3 "read_step" (spReadStep K) []) (cL : C8.Cal P w K mg base 1 "is_list" (spIsList K) []) :
    FnOk P w K mg base (L2.CX P w) 4 f fd ["places", "things"] (spReadSteps K CB) := by
  refine F.okX scReadSteps (fun vs H Q E h => ?_) (fun cdv A outer s H vs Q E hr h => ?_)
  · obtain ⟨n, v, rfl, _⟩ := h
    rfl
  · obtain ⟨n, v, rfl, h⟩ := h
    have hun := hr.un
    have hu9 : (A.deeper (envOfC "read_steps" (defScope sReadSteps) s.heap.objs.size f cdv)).units + 9 < cLine := by omega
    refine ⟨_, pss_cons (ps_if (pt_not (pt_val (C8.pe_c cL hr (by decide) (by rfl) (pa_cons (pv 1) pa_nil))))
        (pss_one (ps_raise rfl (takes_of rfl rfl rfl rfl) (pmk_oex TB.ox TB.iC TB.tC GI (hr.mono (by decide)) bI .nil pass0 (by rfl) TB.gC (pa_cons pe_int pa_nil)))) pss_nil)
      (pss_cons (ps_set (i := 2) scReadSteps.nd rfl (Or.inl rfl) pe_snew)
      (pss_cons (ps_for (passes_of rfl) rfl (pi_enumA (by rfl) T.enumerate (pa_cons (pv 1) pa_nil)) (pg_tup (n := 2) rfl (pgs_cons (pg_name (i := 3) scReadSteps.nd rfl (Or.inl rfl)) (pgs_cons (pg_name (i := 4) scReadSteps.nd rfl (Or.inl rfl)) pgs_nil)))
        (pss_cons (ps_set (i := 5) scReadSteps.nd rfl (Or.inl rfl) (C8.pe_c cR hr (by decide) (by rfl) (pa_cons (pv 0) (pa_cons (pv 4) pa_nil))))
        (pss_cons (ps_if (PW.pt (pw_or (pt_cmp (pc_isN (pv 5))) (pw_or1 (pt_cmp (pc_sin hu9 (pv 5) (pv 2))))))
          (pss_one (ps_raise rfl (takes_of rfl rfl rfl rfl) (pmk_oex TB.ox TB.iC TB.tC GI (hr.mono (by decide)) bI .nil pass0 (by rfl) TB.gC (pa_cons (pv 3) pa_nil)))) pss_nil)
        (pss_one (ps_sput hu9 (pv 2) (pv 5) (by rfl))))))
      (pss_one (ps_ret (pe_callTy (call_list_sd (by rfl)) (by rfl) T.list boot_list (pa_cons (pv 2) pa_nil)))))), ?_⟩
    rcases h with ⟨hl, kb⟩ | ⟨a, xs, ss, rfl, hs, hnd, hsz, h⟩
    · refine ⟨_, rfl, v, false, rfl, hl, fun H1 e1 => ⟨_, rfl, iteT ?_⟩⟩
      exact ⟨by show 1 ≤ 1000; decide, raise_go (kb.ex e1)⟩
    obtain ⟨pre, r, rfl, hpre, hr0⟩ : ∃ (pre r : List V), xs = pre ++ r ∧ RdAll K n H pre ss ∧ ((r = [] ∧ ∀ H' p ys, Ex H H' → H p = none → H' p = some (.lst ys) → DpAll K H' ys (ss.map stD) → Q (.ref p) H') ∨
        ∃ (z : V) (r' : List V), r = z :: r' ∧ (RdNo K n H z ∨ ∃ d s, Dp K H z d ∧ rdStep n d = some s ∧ s ∈ ss) ∧ BadE CB "index" H (.int (ss.length : Nat)) E) := by
      rcases h with ⟨h1, h2⟩ | ⟨pre, z, r, h1, h2, h3, h4⟩
      · exact ⟨xs, [], (List.append_nil _).symm, h1, .inl ⟨rfl, h2⟩⟩
      · exact ⟨pre, z :: r, h1, h2, .inr ⟨z, r, rfl, h3, h4⟩⟩
    have hlen := hpre.len
    refine ⟨_, rfl, .ref a, true, rfl, lk_sq hs, fun H1 e1 => ⟨_, rfl, ?_⟩⟩
    refine iteF ?_
    refine fun p hp => ?_
    refine ⟨_, rfl, a, pre ++ r, rfl, for_enumA (K := K) (a := a) (xs := pre ++ r) (H0 := H) hs
      (fun i σ G => ∃ (x3 x4 x5 : Option V) (ks : List (St5 × Addr)), σ = [some (.int n), some (.ref a), some (.ref p), x3, x4, x5] ∧ Ex H1 G ∧ G p = some (SD P w p ks) ∧ KsOk K G ks ∧ ks.map (·.1) = ss.take i ∧ i ≤ ss.length) ?_ ?_ ?_ ?_⟩
    · exact ⟨none, none, none, [], rfl, Ex.new hp, upd_same, KsOk.nil, by rw [List.take_zero]; rfl, Nat.zero_le _⟩
    · rintro i σ G ⟨x3, x4, x5, ks, rfl, q1, _⟩
      exact e1.trans q1
    · rintro i x σ G T hx ⟨x3, x4, x5, ks, rfl, q1, q2, q3, q4, q5⟩ hT
      have eT := Ex.new (o := .tup [.int (i : Nat), x]) hT
      refine ⟨T, _, rfl, SqT.of upd_same, rfl, _, _, rfl, _, _, rfl, rfl, ?_⟩
      have hkl : ks.length ≤ 1000000 := by
        have := congrArg List.length q4
        rw [List.length_map, List.length_take] at this
        omega
      by_cases hlt : i < pre.length
      · rw [List.getElem?_append_left hlt] at hx
        obtain ⟨di, si, hxd, hrd, hsi⟩ := hpre.get hx
        refine ⟨_, rfl, _, rfl, n, x, rfl, .inr ⟨di, dp_ex (e1.trans (q1.trans eT)) _ _ hxd, fun G2 r eG2 hr2 => ?_⟩⟩
        rw [hrd] at hr2
        obtain ⟨b, c, rfl, _⟩ := stD_inv hr2
        have hp2 : G2 p = some (SD P w p ks) := eG2 _ _ (eT _ _ q2)
        have hk2 : KsOk K G2 ks := (q3.ex eT).ex eG2
        have hni : si ∉ ks.map (·.1) := by
          rw [q4]
          exact nodup_take hnd hsi
        refine ⟨_, rfl, _, rfl, ?_⟩
        refine iteF ?_
        refine ⟨_, rfl, _, rfl, _, ⟨p, ks, b, si, rfl, rfl, hp2, hk2, hr2, rfl⟩, _, rfl, ?_⟩
        rw [decide_eq_false hni]
        refine iteF ?_
        refine ⟨_, rfl, _, rfl, p, ks, b, si, rfl, rfl, hp2, hk2, hr2, hni, sz_m hkl, ?_⟩
        refine ⟨_, _, _, ks ++ [(si, b)], rfl, Ex.mut ((q1.trans eT).trans eG2) hp, upd_same, (ks_upd hp2 hk2).snoc (st_upd hp2 hr2), ?_, by omega⟩
        rw [List.map_append, q4, List.take_succ, hsi]
        rfl
      · have hie : i = pre.length := by omega
        rcases hr0 with ⟨rfl, _⟩ | ⟨z, r', rfl, hbad, kb⟩
        · rw [List.append_nil] at hx
          exact absurd (List.getElem?_eq_some_iff.mp hx).1 hlt
        · rw [hie, List.getElem?_append_right (Nat.le_refl _), Nat.sub_self] at hx
          cases (Option.some.inj hx)
          have il : i = ss.length := by omega
          subst il
          rcases hbad with hno | ⟨d, s', hzd, hrs, hms⟩
          · refine ⟨_, rfl, _, rfl, n, _, rfl, .inl ⟨hno.ex (e1.trans (q1.trans eT)), fun G2 eG2 => ?_⟩⟩
            refine ⟨_, rfl, _, rfl, iteT (iteT ?_)⟩
            exact ⟨_, rfl, by show 1 ≤ 1000; decide, raise_go (kb.ex (e1.trans (q1.trans (eT.trans eG2))))⟩
          · refine ⟨_, rfl, _, rfl, n, _, rfl, .inr ⟨d, dp_ex (e1.trans (q1.trans eT)) _ _ hzd, fun G2 r eG2 hr2 => ?_⟩⟩
            rw [hrs] at hr2
            obtain ⟨b, c, rfl, _⟩ := stD_inv hr2
            have hp2 : G2 p = some (SD P w p ks) := eG2 _ _ (eT _ _ q2)
            have hk2 : KsOk K G2 ks := (q3.ex eT).ex eG2
            have hmi : s' ∈ ks.map (·.1) := by
              rw [q4, List.take_length]
              exact hms
            refine ⟨_, rfl, _, rfl, ?_⟩
            refine iteF ?_
            refine ⟨_, rfl, _, rfl, _, ⟨p, ks, b, s', rfl, rfl, hp2, hk2, hr2, rfl⟩, _, rfl, ?_⟩
            rw [decide_eq_true hmi]
            refine iteT ?_
            exact ⟨_, rfl, by show 1 ≤ 1000; decide, raise_go (kb.ex (e1.trans (q1.trans (eT.trans eG2))))⟩
    · rintro σ G ⟨x3, x4, x5, ks, rfl, q1, q2, q3, q4, q5⟩
      have hrn : r = [] := by
        rw [List.length_append] at q5
        exact List.eq_nil_of_length_eq_zero (by omega)
      subst hrn
      rcases hr0 with ⟨_, k⟩ | ⟨z, r', h0, _⟩
      · rw [List.append_nil, hlen, List.take_length] at q4
        refine ⟨_, rfl, p, ks, rfl, q2, q3, fun l hl2 => ?_⟩
        have e2 := e1.trans q1
        refine k _ l _ (e2.trans (Ex.new hl2)) (fresh_back e2 hl2) upd_same ?_
        have q5 := ks_dpa (q3.ex (Ex.new (o := .lst (ks.map fun x => V.ref x.2)) hl2))
        rw [q4] at q5
        exact q5
      · cases h0
end
end AA

set_option Elab.async false
set_option linter.all false
set_option maxRecDepth 100000
set_option maxHeartbeats 4000000
/-! The class of webs. -/
namespace AA
open PySem PySem.Spec PyProof.Rows L2 Evl
theorem nps_ : ¬ (("_places" : Str) = "_steps") := by decide +kernel
theorem npk_ : ¬ (("_places" : Str) = "known") := by decide +kernel
theorem nsk_ : ¬ (("_steps" : Str) = "known") := by decide +kernel
def wf (n : Int) (l kd : Addr) : List (Str × V) := putF "known" (.ref kd) (putF "_steps" (.ref l) (putF "_places" (.int n) []))
theorem wf_places (n : Int) (l kd : Addr) : (wf n l kd).lookup ("_places" : Str) = some (.int n) := by
  unfold wf
  rw [lookup_putF, if_neg npk_, lookup_putF, if_neg nps_, lookup_putF, if_pos rfl]
theorem wf_steps (n : Int) (l kd : Addr) : (wf n l kd).lookup ("_steps" : Str) = some (.ref l) := by
  unfold wf
  rw [lookup_putF, if_neg nsk_, lookup_putF, if_pos rfl]
theorem wf_known (n : Int) (l kd : Addr) : (wf n l kd).lookup ("known" : Str) = some (.ref kd) := by
  unfold wf
  rw [lookup_putF, if_pos rfl]
theorem wf_no (n : Int) (l kd : Addr) {m : Str} (h1 : ¬ m = "_steps") (h2 : ¬ m = "_places") (h3 : ¬ m = "known") : (wf n l kd).lookup m = none := by
  unfold wf
  rw [lookup_putF, if_neg h3, lookup_putF, if_neg h1, lookup_putF, if_neg h2]
  all_goals rfl
/-- a web stands at x: n places, the steps ss in some list -/
def WebAt (K : PySem.W.Frag) (C : Addr) (H : Hp) (x : Addr) (n : Int) (ss : List St5) : Prop := ∃ (dx l kd : Addr) (ys : List V), H x = some (.ins C dx (wf n l kd)) ∧ H l = some (.lst ys) ∧ DpAll K H ys (ss.map stD)
theorem WebAt.ex {K : PySem.W.Frag} {C : Addr} {H H' : Hp} {x : Addr} {n : Int} {ss : List St5} (h : WebAt K C H x n ss) (e : Ex H H') : WebAt K C H' x n ss := by
  obtain ⟨dx, l, kd, ys, h1, h2, h3⟩ := h
  exact ⟨dx, l, kd, ys, e _ _ h1, e _ _ h2, dpa_ex e _ _ h3⟩
/-- what the top has written of the class -/
structure WebTxt (K : PySem.W.Frag) (mg : Str → Option Value) (C : Addr) : Prop where
  cl : Cls K C
  nP : NoAttr K C "_places"
  nS : NoAttr K C "_steps"
  nK : NoAttr K C "known"
  mgC : mg "Web" = some (.ref C)
theorem sqt_upd2 {K : PySem.W.Frag} {G : Hp} {p a : Addr} {o : HO} {xs : List V} (hp : ∀ xs u, G p ≠ some (.tup xs) ∧ G p ≠ some (.frz u (.tup xs))) (h : SqT K G a xs) : SqT K (upd G p o) a xs := by
  rcases h with h | h
  · refine .inl ?_
    rcases h with h | ⟨u, h⟩
    · exact .inl (by rw [upd_ne (fun z => (hp xs { cls := .none, data := .fields #[] }).1 (by rw [← z]; exact h))]; exact h)
    · exact .inr ⟨u, by rw [upd_ne (fun z => (hp xs u).2 (by rw [← z]; exact h))]; exact h⟩
  · exact .inr h
theorem sts_upd {K : PySem.W.Frag} {G : Hp} {p : Addr} {o : HO} (hp : ∀ xs u, G p ≠ some (.tup xs) ∧ G p ≠ some (.frz u (.tup xs))) : ∀ {vs : List V} {ss : List St5}, DpAll K G vs (ss.map stD) → DpAll K (upd G p o) vs (ss.map stD)
  | [], [], _ => .nil
  | v :: vs, s :: ss, h => by
    cases h with
    | cons h1 h2 =>
      obtain ⟨t, u, rfl, h3, h4⟩ := stD_inv h1
      exact .cons (stD_mk (sqt_upd2 hp h3) (sqt_upd2 hp h4)) (sts_upd hp h2)
  | [], _ :: _, h => by cases h
  | _ :: _, [], h => by cases h
theorem hid_up {H : Hp} {x : Addr} {o : HO} : Ex (hid x x H) (upd H x o) := fun z u h => by
  obtain ⟨h1, h2, _⟩ := hid_some h
  rw [upd_ne h2]
  exact h1
theorem hid_up2 {H H' : Hp} {x : Addr} {o : HO} (e : Ex (hid x x H) H') : Ex (hid x x H) (upd H' x o) := fun z u h => by
  rw [upd_ne (hid_some h).2.1]
  exact e _ _ h
section
variable {P : Program} {w : World} {K : PySem.W.Frag} {mg : Str → Option Value} {base : Heap}
/-- what Web is made of -/
def WbArg (K : PySem.W.Frag) (H : Hp) (v u : V) (BadP : Prop) (BadS : Nat → Prop) (Good : Int → List St5 → Prop) : Prop :=
  ((NotI K H v ∨ ∃ n, v = .int n ∧ n < 1) ∧ BadP) ∨ ∃ n, v = .int n ∧ 1 ≤ n ∧ StArg K n H u BadS (Good n)
theorem WbArg.ex {H H' : Hp} {v u : V} {B : Prop} {S : Nat → Prop} {G : Int → List St5 → Prop} (h : WbArg K H v u B S G) (e : Ex H H') : WbArg K H' v u B S G :=
  h.imp (fun z => ⟨z.1.imp (fun y => y.ex e) id, z.2⟩) (fun ⟨n, z1, z2, z3⟩ => ⟨n, z1, z2, z3.ex e⟩)
theorem WbArg.imp {H : Hp} {v u : V} {B B' : Prop} {S S' : Nat → Prop} {G G' : Int → List St5 → Prop} (h : WbArg K H v u B S G) (hb : B → B') (hs : ∀ i, S i → S' i) (hg : ∀ n ss, G n ss → G' n ss) : WbArg K H v u B' S' G' :=
  Or.imp (fun z => ⟨z.1, hb z.2⟩) (fun ⟨n, z1, z2, z3⟩ => ⟨n, z1, z2, z3.imp hs (hg n)⟩) h
def spWebInit (K : PySem.W.Frag) (C CP CS : Addr) : Sp := fun vs H Q E => ∃ (x dx : Addr) (v u : V), vs = [.ref x, v, u] ∧ H x = some (.ins C dx []) ∧
  WbArg K (hid x x H) v u (BadE CP "places" (hid x x H) v E) (fun i => BadE CS "index" (hid x x H) (.int (i : Nat)) E)
    (fun n ss => ∀ (H' : Hp) (ts : List St5) (dy l kd : Addr) (ys : List V), Ex (hid x x H) H' → H' x = some (.ins C dy (wf n l kd)) → H l = none → H' l = some (.lst ys) → DpAll K H' ys (ts.map stD) → ts.Perm ss → SrS ts → Q .non H')
theorem scWebInit : FnScope ["self", "places", "steps"] ["self", "places", "steps"] (defScope sWebInit) := ⟨rfl, rfl, rfl, by decide +kernel, rfl, by decide +kernel, by decide +kernel⟩
theorem ok_webInit {f C CP CS fP fS fR : Addr} {fd fdP fdR : FuncData} (F : L2.Fun K "__init__" "Web.__init__" sWebInit f fd) (B : Bn mg) (T : WebTxt K mg C) (TP : ExT K mg "BadPlaces" "places" CP fP) (GP : FnOk P w K mg base CX0 1 fP fdP ["self", "places"] (spExI CP "places")) (bP : Binds K fdP ["self", "places"] [])
    (cI : C8.Cal P w K mg base 1 "is_integer" (spIsIntegerV K) []) (GR : FnOk P w K mg base (L2.CX P w) 4 fR fdR ["places", "things"] (spReadSteps K CS)) (mR : mg "read_steps" = some (.ref fR)) (kR : PySem.W.keepIn K (.ref fR) = true) (bR : Binds K fdR ["places", "things"] []) :
    FnOk P w K mg base (L2.CX P w) 5 f fd ["self", "places", "steps"] (spWebInit K C CP CS) := by
  refine F.okX scWebInit (fun vs H Q E h => ?_) (fun cdv A outer s H vs Q E hr h => ?_)
  · obtain ⟨x, dx, v, u, rfl, _⟩ := h
    rfl
  · obtain ⟨x, dx, v, u, rfl, hx, h⟩ := h
    refine ⟨_, pss_cons (ps_if (PW.pt (pw_or (pt_not (pt_val (C8.pe_c cI hr (by decide) (by rfl) (pa_cons (pv 1) pa_nil)))) (pw_or1 (pt_cmpR op_lt (pv 1) pe_int (nomark _)))))
        (pss_one (ps_raise rfl (takes_of rfl rfl rfl rfl) (pmk_oex TP.ox TP.iC TP.tC GP (hr.mono (by decide)) bP .nil pass0 (by rfl) TP.gC (pa_cons (pv 1) pa_nil)))) pss_nil)
      (pss_cons (ps_fld (pv 0) (pv 1) rfl)
      (pss_cons (ps_fld (pv 0) (pe_callB (cr_sortSt hr) (by rfl) B.sorted boot_sorted (pa_cons (pe_callS (E := WE fun cls d _ H => E cls d H) GR (hr.mono (by decide)) (by rfl) mR kR bR (fun σ => passAt (takes_of rfl rfl rfl rfl) σ) (pa_cons (pv 1) (pa_cons (pv 2) pa_nil))) pa_nil)) rfl)
      (pss_one (ps_fld (pv 0) pe_dnewK rfl)))), ?_⟩
    rcases h with ⟨hb, kb⟩ | ⟨n, rfl, hn, hst⟩
    · have kb' := kb.ex (hid_ex (H := H))
      rcases hb with hni | ⟨n, rfl, hn⟩
      · refine ⟨_, rfl, v, rfl, .inl ⟨hni.ex hid_ex, ⟨_, rfl, iteT (iteT ?_)⟩⟩⟩
        exact ⟨_, rfl, by show 1 ≤ 1000; decide, raise_go kb'⟩
      · refine ⟨_, rfl, .int n, rfl, .inr ⟨n, rfl, ⟨_, rfl, iteF ?_⟩⟩⟩
        refine ⟨_, rfl, _, _, rfl, rfl, _, rfl, ?_⟩
        refine dec_ite (fun z => ?_) (fun z => ?_)
        · exact ⟨_, rfl, by show 1 ≤ 1000; decide, raise_go kb'⟩
        · omega
    refine ⟨_, rfl, .int n, rfl, .inr ⟨n, rfl, ⟨_, rfl, iteF ?_⟩⟩⟩
    refine ⟨_, rfl, _, _, rfl, rfl, _, rfl, ?_⟩
    refine dec_ite (fun z => ?_) (fun _ => ?_)
    · omega
    refine ⟨_, rfl, _, rfl, x, C, dx, _, rfl, hx, T.cl, T.nP, by show 0 < 1000; decide, ?_⟩
    refine ⟨_, rfl, _, rfl, n, u, rfl, (hst.ex hid_up).imp (fun i z => z.ex hid_up) (fun ss k H1 p ys e1 hp0 hp hys => ?_)⟩
    refine ⟨p, ys, ss, rfl, SqL.of hp, hys, fun zs ts l hz hts hD hso hl2 => ?_⟩
    have hx1 : H1 x = some (.ins C dx (putF "_places" (.int n) [])) := e1 _ _ upd_same
    have hxl : x ≠ l := ne_of_none hx1 hl2
    refine ⟨_, rfl, x, C, dx, _, rfl, by rw [upd_ne hxl]; exact hx1, T.cl, T.nS, by show 1 < 1000; decide, ?_⟩
    have hD1 := dpa_ex (Ex.new (o := .lst zs) hl2) _ _ hD
    have e1' : Ex (hid x x H) (upd H1 l (.lst zs)) := (hid_up.trans e1).trans (Ex.new hl2)
    have hx2 : upd H1 l (.lst zs) x = some (.ins C dx (putF "_places" (.int n) [])) := by
      rw [upd_ne hxl]
      exact hx1
    have hl3 : upd H1 l (.lst zs) l = some (.lst zs) := upd_same
    have l0 : H l = none := by
      have := fresh_back e1 hl2
      rw [upd_ne hxl.symm] at this
      exact this
    generalize upd H1 l (.lst zs) = G1 at *
    have hnt : ∀ (f : List (Str × V)) (G : Hp), G x = some (.ins C dx f) → ∀ (xs : List V) (u : Obj), G x ≠ some (.tup xs) ∧ G x ≠ some (.frz u (.tup xs)) := fun f G hG xs u => by
      rw [hG]
      exact ⟨(fun z => nomatch z), (fun z => nomatch z)⟩
    intro kd hkd
    have hkx : x ≠ kd := fun z => by
      rw [← z, upd_same] at hkd
      cases hkd
    have hkl : l ≠ kd := fun z => by
      rw [← z, upd_ne hxl.symm, hl3] at hkd
      cases hkd
    refine ⟨_, rfl, x, C, dx, _, rfl, by rw [upd_ne hkx]; exact upd_same, T.cl, T.nK, by show 2 < 1000; decide, ?_⟩
    refine k _ ts dx l kd zs (hid_up2 ((hid_up2 e1').trans (Ex.new hkd))) upd_same l0 ?_ ?_ hts hso
    · rw [upd_ne hxl.symm, upd_ne hkl, upd_ne hxl.symm]
      exact hl3
    · have hx3 : ∀ o : HO, upd (upd G1 x (.ins C dx (putF "_steps" (.ref l) (putF "_places" (.int n) [])))) kd o x = some (.ins C dx (putF "_steps" (.ref l) (putF "_places" (.int n) []))) := fun o => by
        rw [upd_ne hkx]
        exact upd_same
      exact sts_upd (hnt _ _ (hx3 _)) (dpa_ex (Ex.new hkd) _ _ (sts_upd (hnt _ _ hx2) hD1))
def spPlaces (K : PySem.W.Frag) (C : Addr) : Sp := fun vs H Q _ => ∃ (x : Addr) (n : Int) (ss : List St5), vs = [.ref x] ∧ WebAt K C H x n ss ∧ Q (.int n) H
theorem scPlaces : FnScope ["self"] ["self"] (defScope sWebPlaces) := ⟨rfl, rfl, rfl, by decide +kernel, rfl, by decide +kernel, by decide +kernel⟩
theorem ok_places {f C : Addr} {fd : FuncData} (F : L2.Fun K "places" "Web.places" sWebPlaces f fd) (T : WebTxt K mg C) : FnOk P w K mg base CX0 1 f fd ["self"] (spPlaces K C) := by
  refine F.ok scPlaces (fun vs H Q E h => ?_) (fun cdv A outer s H vs Q E hr h => ?_)
  · obtain ⟨x, n, ss, rfl, _⟩ := h
    rfl
  · obtain ⟨x, n, ss, rfl, ⟨dx, l, kd, ys, h1, h2, h3⟩, k⟩ := h
    exact ⟨_, pss_one (ps_ret (pe_fld (pv 0) rfl)), _, rfl, x, C, dx, _, _, rfl, h1, T.cl, T.nP, wf_places _ _ _, k⟩
def spSteps (K : PySem.W.Frag) (C : Addr) : Sp := fun vs H Q _ => ∃ (x : Addr) (n : Int) (ss : List St5), vs = [.ref x] ∧ WebAt K C H x n ss ∧ ∀ p ys, H p = none → DpAll K H ys (ss.map stD) → Q (.ref p) (upd H p (.lst ys))
theorem scSteps : FnScope ["self"] ["self"] (defScope sWebSteps) := ⟨rfl, rfl, rfl, by decide +kernel, rfl, by decide +kernel, by decide +kernel⟩
theorem ok_steps {f C : Addr} {fd : FuncData} (F : L2.Fun K "steps" "Web.steps" sWebSteps f fd) (B : Bn mg) (T : WebTxt K mg C) : FnOk P w K mg base CX0 1 f fd ["self"] (spSteps K C) := by
  refine F.ok scSteps (fun vs H Q E h => ?_) (fun cdv A outer s H vs Q E hr h => ?_)
  · obtain ⟨x, n, ss, rfl, _⟩ := h
    rfl
  · obtain ⟨x, n, ss, rfl, ⟨dx, l, kd, ys, h1, h2, h3⟩, k⟩ := h
    refine ⟨_, pss_one (ps_ret (pe_callTy call_list_of (by rfl) B.list boot_list (pa_cons (pe_fld (pv 0) rfl) pa_nil))), ?_⟩
    exact ⟨_, rfl, x, C, dx, _, _, rfl, h1, T.cl, T.nS, wf_steps _ _ _, l, ys, rfl, .inl (SqL.of h2), fun p hp => k p ys hp h3⟩
/-- webs beside one another -/
theorem sts_eqv : ∀ ss ts : List St5, PyData.eqvAll (ss.map stD) (ts.map stD) = decide (ss = ts)
  | [], [] => rfl
  | [], _ :: _ => rfl
  | _ :: _, [] => rfl
  | s :: r, t :: q => by
    show (PyData.eqv (stD s) (stD t) && PyData.eqvAll (r.map stD) (q.map stD)) = decide (s :: r = t :: q)
    rw [stD_eqv, sts_eqv r q, Bool.eq_iff_iff]
    simp
def spEqV (K : PySem.W.Frag) (C : Addr) : Sp := fun vs H Q _ => ∃ (x : Addr) (v : V) (n : Int) (ss : List St5), vs = [.ref x, v] ∧ WebAt K C H x n ss ∧
  ((∃ t : Value, TyF K H v t ∧ PySem.W.kitOne K t (.ref C) = some false ∧ Q (.bl false) H) ∨ ∃ (y : Addr) (m : Int) (ts : List St5), v = .ref y ∧ WebAt K C H y m ts ∧ ∀ H', Ext H H' → Q (.bl (decide (n = m) && decide (ss = ts))) H')
theorem scWebEq : FnScope ["self", "other"] ["self", "other"] (defScope sWebEq) := ⟨rfl, rfl, rfl, by decide +kernel, rfl, by decide +kernel, by decide +kernel⟩
theorem ok_webEqV {f C : Addr} {fd : FuncData} (F : L2.Fun K "__eq__" "Web.__eq__" sWebEq f fd) (B : Bn mg) (T : WebTxt K mg C) (IC : InsK K C) (hC : PySem.W.kitOne K (.ref C) (.ref C) = some true) : FnOk P w K mg base CX0 1 f fd ["self", "other"] (spEqV K C) := by
  refine F.ok scWebEq (fun vs H Q E h => ?_) (fun cdv A outer s H vs Q E hr h => ?_)
  · obtain ⟨x, v, n, ss, rfl, _⟩ := h
    rfl
  · obtain ⟨x, v, n, ss, rfl, ⟨dx, l, kd, ys, h1, h2, h3⟩, h⟩ := h
    refine ⟨_, pss_one (ps_ret (pe_and (pe_callB call_is1 (by rfl) B.isinstance boot_isinstance (pa_cons (pv 1) (pa_cons (pe_glob (v := .ref C) (by rfl) T.mgC rfl) pa_nil)))
      (pe_and (pe_cmpR op_eq (pe_fld (pv 0) rfl) (pe_fld (pv 1) rfl) (nomark _)) (pe_one (pe_cmpR (op_eqD hr.units) (pe_fld (pv 0) rfl) (pe_fld (pv 1) rfl) (nomark _)))))), ?_⟩
    rcases h with ⟨t, ht, hk, k⟩ | ⟨y, m, ts, rfl, ⟨dy, l2, kd2, ys2, g1, g2, g3⟩, k⟩
    · exact ⟨_, rfl, v, _, t, .ref C, false, rfl, .own C, ht, hk, false, rfl, iteF k⟩
    · refine ⟨_, rfl, .ref y, _, .ref C, .ref C, true, rfl, .own C, .inl (.base (.ins g1 IC.cl IC.ha IC.hn IC.ht IC.hm)), hC, true, rfl, ?_⟩
      refine iteT ?_
      refine ⟨_, rfl, x, C, dx, _, _, rfl, h1, T.cl, T.nP, wf_places _ _ _, _, rfl, y, C, dy, _, _, rfl, g1, T.cl, T.nP, wf_places _ _ _, rfl, _, rfl, ?_⟩
      have k0 := k H Ext.rfl'
      by_cases hnm : n = m
      · rw [decide_eq_true hnm] at k0
        rw [decide_eq_true (by rw [hnm])]
        refine iteT ?_
        refine ⟨_, rfl, x, C, dx, _, _, rfl, h1, T.cl, T.nS, wf_steps _ _ _, _, rfl, y, C, dy, _, _, rfl, g1, T.cl, T.nS, wf_steps _ _ _, ?_⟩
        have hD : Dp K H (.ref l) (.list (ss.map stD)) := .lst (SqL.of h2) h3
        have hD2 : Dp K H (.ref l2) (.list (ts.map stD)) := .lst (SqL.of g2) g3
        refine ⟨_, _, hD, hD2, stDs_shaped ss, stDs_shaped ts, ?_⟩
        rw [show PyData.eqv (.list (ss.map stD)) (.list (ts.map stD)) = decide (ss = ts) from sts_eqv ss ts]
        exact k0
      · rw [decide_eq_false hnm] at k0
        rw [decide_eq_false (fun z => hnm (V.int.inj z))]
        exact iteF k0
end
end AA

set_option Elab.async false
set_option linter.all false
set_option maxRecDepth 100000
set_option maxHeartbeats 4000000
/-! An own class's == and != with a thing of any kind. -/
namespace AA
open PySem PySem.Spec PyProof.Rows L2 Evl
/-- the type of a thing -/
inductive Ty6 (H : Hp) : V → Value → Prop
  | non : Ty6 H .non (.type "NoneType")
  | int (i : Int) : Ty6 H (.int i) (.type "int")
  | str (x : Str) : Ty6 H (.str x) (.type "str")
  | lst {a : Addr} {xs : List V} (e : H a = some (.lst xs)) : Ty6 H (.ref a) (.type "list")
  | tup {a : Addr} {xs : List V} (e : H a = some (.tup xs)) : Ty6 H (.ref a) (.type "tuple")
  | dK {a : Addr} (e : H a = some (.dK [])) : Ty6 H (.ref a) (.type "dict")
  | ins {a C dx : Addr} {fs : List (Str × V)} (e : H a = some (.ins C dx fs)) : Ty6 H (.ref a) (.ref C)
theorem Ty6.ex {H H' : Hp} {v : V} {t : Value} (e : Ex H H') (h : Ty6 H v t) : Ty6 H' v t := by
  cases h with
  | non => exact .non
  | int i => exact .int i
  | str x => exact .str x
  | lst h => exact .lst (e _ _ h)
  | tup h => exact .tup (e _ _ h)
  | dK h => exact .dK (e _ _ h)
  | ins h => exact .ins (e _ _ h)
section
variable {X : Cx} {pins : List (Addr × Obj)} {σ : L2.St} {H : Hp} {s : Shared}
theorem ty6_looks {M : Model} {x : V} {u T : Value} (I : Inv X pins σ H s) (r : RelV x u) (t : Ty6 H x T) : PySem.W.Looks M s.heap (typeOf u) T := by
  cases t with
  | non =>
    cases (show u = Value.none from r)
    exact PySem.W.Looks.of_pure rfl
  | int i =>
    obtain ⟨t, rfl⟩ := (show ∃ t, u = Value.int i t from r)
    exact PySem.W.Looks.of_pure rfl
  | str x =>
    obtain ⟨t, rfl⟩ := (show ∃ t, u = Value.str x t from r)
    exact PySem.W.Looks.of_pure rfl
  | lst e =>
    cases (show u = Value.ref _ from r)
    obtain ⟨_, its, n, _, h1⟩ := (show ObjOk X.prog X.w H s.heap _ (.lst _) from I.hok _ _ e)
    exact fun A Q E s' k q => wpAny_typeOf_ref (k _ _ h1) q
  | tup e =>
    cases (show u = Value.ref _ from r)
    obtain ⟨_, its, _, ob, h1, h2, _⟩ := (show ObjOk X.prog X.w H s.heap _ (.tup _) from I.hok _ _ e)
    exact fun A Q E s' k q => wpAny_typeOf_ref (k _ _ h1) (by rw [h2]; exact q)
  | dK e =>
    cases (show u = Value.ref _ from r)
    obtain ⟨_, _, vs, _, o, es, ep, h1, h2, _⟩ := (show ObjOk X.prog X.w H s.heap _ (.dK []) from I.hok _ _ e)
    exact fun A Q E s' k q => wpAny_typeOf_ref (k _ _ h1) (by rw [h2.1]; exact q)
  | ins e =>
    cases (show u = Value.ref _ from r)
    obtain ⟨mA, J, _⟩ := ins_get I.hok e
    obtain ⟨od, J, _⟩ := J.look
    exact J.type
end
section
variable {prog : Program} {w : World} {A : Around} {E : Value → Shared → Prop} {s : Shared} {K : PySem.W.Frag} {x C f : Addr} {ox : Obj} {od : Option Obj}
theorem ifBoundB {M : Model} {name : Str} {id : String} {args : List Value} {Q : Option Value → Shared → Prop} (X : K.In s.heap) (I : PySem.W.InstAt s.heap x ox C od) (hs : PySem.W.findIn K (.ref C) name = some (some (.builtin id)))
    (hb : ∀ v, bindSpecial (.builtin id) v = pure (.builtin id, [v])) (h : wpAny M A (call (.builtin id) (.ref x :: args)) (fun v => Q (some v)) E s) : wpAny M A (callSpecialIfBound? (.ref x) name args) Q E s := by
  simp only [callSpecialIfBound?, bindSpecialIfBound?]
  refine wpAny_holding (wpAny_bind (wpAny_bind (wpAny_bind (I.type.here ((PySem.W.looks_findIn X hs).here ?_)))))
  refine wpAny_bind (wpAny_askSetting (wpAny_ite ?_))
  have fin : wpAny M A (call (.builtin id) ([.ref x] ++ args) >>= fun v => pure (some v)) Q E s := wpAny_bind (wpAny_mono h (fun v s' h' => wpAny_pure h') fun _ _ h' => h')
  split
  · exact wpAny_bind ((PySem.W.Looks.of_pure (hb _)).here (wpAny_pure (by exact fin)))
  · exact wpAny_tryCatch (wpAny_bind ((PySem.W.Looks.of_pure (hb _)).here (wpAny_pure (by exact fin))))
theorem ne_entry {b : Value} {Q : Fin → Shared → Prop} (X : K.In s.heap) (I : PySem.W.InstAt s.heap x ox C od) (hs : PySem.W.findIn K (.ref C) "__eq__" = some (some (.ref f))) (hf : PySem.W.isFn K (.ref f) = true) (hu : A.units < cLine)
    (hcall : wpAny (model prog w) A (call (.ref f) [.ref x, b]) (fun v s' => ∃ r, v = .bool r ∧ Q (.done (.ret (.bool (!r)))) s') E s) :
    wpAny (model prog w) A (Builtin.«object.__ne__» ⟨[.ref x, b], []⟩) Q E s := by
  unfold Builtin.«object.__ne__»
  repeat (first
    | with_reducible refine wpAny_cRoomFor hu ?_
    | (refine wpAny_bind (m := callSpecialIfBound? (.ref x) (Str.ofString "__eq__") [b])
        (PySem.W.ifBound_K X I hs hf (wpAny_mono hcall (fun v s' hr => by
          obtain ⟨r, rfl, hq⟩ := hr
          repeat (first | exact hq | exact wpAny_pure hq | exact wpAny_truthy_bool hq | (refine wpAny_bind (m := truthy (.bool _)) (wpAny_truthy_bool ?_)) | wp_step)) fun _ _ e => e)))
    | wp_step)
theorem ne_bind (v : Value) : bindSpecial (.builtin "object.__ne__") v = pure (.builtin "object.__ne__", [v]) := F.cmp_object.ne.bind v
/-- x != b where x's class has an own == -/
theorem cmpNe_K {h₀ : Heap} {L : Addr} {m : Str → Option Value} {b tb : Value} {Q : Value → Shared → Prop} (hu : A.units + 1 < cLine) (F : Fr h₀ L s.heap m) (X₀ : K.In h₀) (I : PySem.W.InstAt s.heap x ox C od) (hb : PySem.W.Looks (model prog w) s.heap (typeOf b) tb) (hn : PySem.W.notFirst K C tb = true)
    (hne : PySem.W.findIn K (.ref C) "__ne__" = some (some (.builtin "object.__ne__"))) (hs : PySem.W.findIn K (.ref C) "__eq__" = some (some (.ref f))) (hf : PySem.W.isFn K (.ref f) = true) (hm : PySem.W.mroIn K C (.type "object") = some true)
    (h : wpAny (model prog w) A.in1 (call (.ref f) [.ref x, b]) (fun v s' => ∃ r, v = .bool r ∧ Q (.bool (!r)) s') E s) : wpAny (model prog w) A (richCompare .NotEq (.ref x) b) Q E s := by
  have X := X₀.keeps F.keep
  have sub : PySem.W.Looks (model prog w) s.heap (isInstance (.ref x) (.type "object")) true := I.type.andThen (PySem.W.looks_mroIn X hm)
  have one : wpAny (model prog w) A (tryCompare (.ref x) (cmpInfo .NotEq).2.1 b) (fun r s' => ∃ v, r = some v ∧ Q v s') E s := by
    unfold tryCompare
    refine wpAny_bind (ifBoundB X I hne ne_bind (wpAny_call (codeAny_call_builtin PySem.F.cmp_object.ne.plain PySem.F.cmpEntry_ne
      (PySem.W.check_slot PySem.F.cmpKind_ne PySem.F.cmpSplit_ne sub (PySem.F.cmpArgs_ne _ _) (ne_entry (A := A.in1) X I hs hf hu (wpAny_mono h (fun v s' hv => ?_) fun _ _ e => e))))))
    obtain ⟨r, rfl, hq⟩ := hv
    first | exact ⟨r, rfl, wpAny_pure ⟨_, rfl, hq⟩⟩ | exact ⟨r, rfl, wpAny_pure (wpAny_pure ⟨_, rfl, hq⟩)⟩ | exact ⟨r, rfl, ⟨_, rfl, hq⟩⟩
  unfold richCompare
  simp only [oneThing_ref]
  refine wpAny_holding (wpAny_bind (wpAny_cRoomFor (Nat.lt_of_succ_lt hu) ?_))
  refine wpAny_bind (I.type.here (wpAny_bind (hb.here ?_)))
  split
  · rename_i q
    have e : PySem.W.subIn K tb (.ref C) = some false := by
      rcases Bool.or_eq_true_iff.mp hn with e | e
      · rw [beq_iff_eq.mp e] at q; simp at q
      · exact beq_iff_eq.mp e
    refine wpAny_bind ((PySem.W.looks_subIn X e).here ?_)
    simp only [Bool.false_eq_true, if_false]
    refine wpAny_bind (wpAny_mono one (fun r s' z => ?_) fun _ _ e => e)
    obtain ⟨v, rfl, hq⟩ := z
    exact wpAny_pure hq
  · refine wpAny_bind (wpAny_pure ?_)
    simp only [Bool.false_eq_true, if_false]
    refine wpAny_bind (wpAny_mono one (fun r s' z => ?_) fun _ _ e => e)
    obtain ⟨v, rfl, hq⟩ := z
    exact wpAny_pure hq
end
section
variable {X : Cx} {n : Nat} {C f : Addr} {fd : FuncData} {ps : List Str} {sp : Sp}
/-- x == y, x != y where x is an instance of C, whose own == keeps sp -/
def rCmpV (K : PySem.W.Frag) (C : Addr) (sp : Sp) (ng : Bool) : R2 := fun x y H Q => ∃ (a dx : Addr) (fs : List (Str × V)) (T : Value), x = .ref a ∧ H a = some (.ins C dx fs) ∧ Ty6 H y T ∧ PySem.W.notFirst K C T = true ∧ sp [x, y] H (fun v H' => ∃ r, v = .bl r ∧ Q (.bl (r ^^ ng)) H') E0
theorem run_eqV (F : FnOk X.prog X.w X.K X.mg X.base CX0 n f fd ps sp) (hb : Binds X.K fd ps []) {A : Around} {pins : List (Addr × Obj)} {s : Shared} {σ : L2.St} {H : Hp} {a : Addr} {y : V} {u : Value} {Q : Bool → Hp → Prop} (sb : Sub X n A) (I : Inv X pins σ H s) (ry : RelV y u)
    (hsp : sp [.ref a, y] H (fun v H' => ∃ r, v = .bl r ∧ Q r H') E0) : wpAny (model X.prog X.w) A (call (.ref f) [.ref a, u]) (fun v s' => ∃ r, v = .bool r ∧ ∃ H', Inv X pins σ H' s' ∧ Q r H') X.xe s := by
  have e0 : Env0 X.prog X.w X.K X.mg X.base A X.stack s H := by
    have e := I.env0
    exact ⟨by rw [sb.fr]; exact e.frames, e.mod, e.bs, e.bsz, e.funs, e.frf, e.hok, e.bare⟩
  have hl := F.len _ _ _ _ hsp
  have r2 : Vals [V.ref a, y] [Value.ref a, u] := .cons rfl (.cons ry .nil)
  refine wpAny_call (codeAny_mono (F.run A X.stack s H ⟨[.ref a, u], []⟩ [.ref a, u] [.ref a, y] _ E0 sb.room e0 (by
    have := hb s [.ref a, u] I.kIn (by simpa using hl)
    simpa using this) r2 hsp) fun r s' hq => ?_)
  cases r with
  | error e => exact (show False from hq).elim
  | ok fl =>
    cases fl with
    | ret w =>
      obtain ⟨z, H', I', rz, r, ez, ex⟩ := I.after hq
      subst ez
      cases rz
      exact ⟨r, rfl, H', I', ex⟩
    | next => exact False.elim hq
    | brk => exact False.elim hq
    | cont => exact False.elim hq
theorem op_eqV (F : FnOk X.prog X.w X.K X.mg X.base CX0 n f fd ps sp) (hb : Binds X.K fd ps []) (hs : PySem.W.findIn X.K (.ref C) "__eq__" = some (some (.ref f))) (hf : PySem.W.isFn X.K (.ref f) = true) (hr : Room n X.A) : OpR X (compareOp .Eq) (rCmpV X.K C sp false) := by
  intro pins s σ H x y v u Q I rx ry hq
  obtain ⟨a, dx, fs, T, rfl, ha, hT, hn, hsp⟩ := hq
  cases (show v = Value.ref a from rx)
  obtain ⟨mA, J, _⟩ := ins_get I.hok ha
  obtain ⟨od, J, _⟩ := J.look
  obtain ⟨m, hF⟩ := I.fr
  have sb : Sub X n X.A := ⟨hr, rfl⟩
  show wpAny (model X.prog X.w) X.A (richCompare .Eq (.ref a) u) (EP X pins σ Q) X.xe s
  refine PySem.W.cmp_K (op := .Eq) (tb := T) sb.room.units0 hF I.ok.mod.kin J (ty6_looks I ry hT) hn hs hf ?_
  refine wpAny_mono (run_eqV F hb sb I ry (Q := fun r H' => Q (.bl (r ^^ false)) H') hsp) (fun v s' hv => ?_) fun _ _ e => e
  obtain ⟨r, rfl, H', I', q⟩ := hv
  rw [Bool.xor_false] at q
  exact ⟨.bl r, H', I', rfl, q⟩
theorem op_neV (F : FnOk X.prog X.w X.K X.mg X.base CX0 n f fd ps sp) (hb : Binds X.K fd ps []) (hs : PySem.W.findIn X.K (.ref C) "__eq__" = some (some (.ref f))) (hf : PySem.W.isFn X.K (.ref f) = true)
    (hne : PySem.W.findIn X.K (.ref C) "__ne__" = some (some (.builtin "object.__ne__"))) (hm : PySem.W.mroIn X.K C (.type "object") = some true) (hr : Room (n + 1) X.A) : OpR X (compareOp .NotEq) (rCmpV X.K C sp true) := by
  intro pins s σ H x y v u Q I rx ry hq
  obtain ⟨a, dx, fs, T, rfl, ha, hT, hn, hsp⟩ := hq
  cases (show v = Value.ref a from rx)
  obtain ⟨mA, J, _⟩ := ins_get I.hok ha
  obtain ⟨od, J, _⟩ := J.look
  obtain ⟨m, hF⟩ := I.fr
  have sb : Sub X (n + 1) X.A := ⟨hr, rfl⟩
  have hun := hr.un
  show wpAny (model X.prog X.w) X.A (richCompare .NotEq (.ref a) u) (EP X pins σ Q) X.xe s
  refine cmpNe_K (tb := T) (by omega) hF I.ok.mod.kin J (ty6_looks I ry hT) hn hne hs hf hm ?_
  refine wpAny_mono (run_eqV F hb sb.in1 I ry (Q := fun r H' => Q (.bl (r ^^ true)) H') hsp) (fun v s' hv => ?_) fun _ _ e => e
  obtain ⟨r, rfl, H', I', q⟩ := hv
  rw [Bool.xor_true] at q
  exact ⟨r, rfl, .bl (!r), H', I', rfl, q⟩
end
end AA

set_option Elab.async false
set_option linter.all false
set_option maxRecDepth 100000
set_option maxHeartbeats 4000000
/-! xs[::-1]; name = {k: v for ..}; a walk over zip. -/
namespace AA
open PySem PySem.Spec PyProof.Rows L2 Evl
theorem vals_rev : ∀ {xs : List V} {us : List Value}, Vals xs us → Vals xs.reverse us.reverse
  | _, _, .nil => .nil
  | x :: xs, u :: us, .cons r t => by
    rw [List.reverse_cons, List.reverse_cons]
    exact (vals_rev t).append (.cons r .nil)
/-- xs[::-1] of a list -/
theorem pe_rev {X : Cx} {e st : Expr} {te ts : TE} {p2 pos : Pos} (he : PE X e te) (hst : PE X st ts) : PE X (.Subscript e (.Slice none none (some st) p2) pos)
    (fun σ H Q => te σ H fun x H1 => tPart ts σ H1 fun k H2 => k = some (-1) ∧ ∃ a xs, x = .ref a ∧ SqL X.K H2 a xs ∧ ∀ p, H2 p = none → Q (.ref p) (upd H2 p (.lst xs.reverse))) := by
  refine ⟨fun pins s σ H Q I h => ?_⟩
  refine Subscript_ (thn (he.run pins s σ H _ I h) fun v s1 ⟨x, H1, I1, r1, q1⟩ => ?_)
  refine wpAny_Slice (thn ((po_none (X := X)).run pins s1 σ H1 (fun l G => l = none ∧ tPart ts σ G fun k H2 => k = some (-1) ∧ ∃ a xs, x = .ref a ∧ SqL X.K H2 a xs ∧ ∀ p, H2 p = none → Q (.ref p) (upd H2 p (.lst xs.reverse))) I1 ⟨rfl, q1⟩) fun vl s2 ⟨l, H2, I2, pl, el, q2⟩ => thn ((po_none (X := X)).run pins s2 σ H2 (fun l G => l = none ∧ tPart ts σ G fun k H2 => k = some (-1) ∧ ∃ a xs, x = .ref a ∧ SqL X.K H2 a xs ∧ ∀ p, H2 p = none → Q (.ref p) (upd H2 p (.lst xs.reverse))) I2 ⟨rfl, q2⟩) fun vu s3 ⟨u, H3, I3, pu, eu, q3⟩ => thn ((po_some hst).run pins s3 σ H3 _ I3 q3) fun vk s4 ⟨k, H4, I4, pk, ek, q4⟩ => ?_)
  subst el eu ek
  obtain ⟨a, xs, rfl, hx, q⟩ := q4
  cases r1
  have I5 : Inv X pins σ H4 { s4 with heap := s4.heap.push { cls := .type "slice", data := .fields #[vl, vu, vk] } } := I4.kept (t' := s4.toks) fun b ob q => Heap.get?_push_of_some _ q
  obtain ⟨its, r, ht, hz⟩ := I5.list hx
  have hlen := r.length
  refine tail_any (ops := [.ref a, .ref s4.heap.objs.size]) ht.isList.typeIs slot_list_getitem.lookup ?_ (by with_unfolding_all rfl)
  refine wpAny_getItem_list_slice ht.isList (Heap.IsSliceOf.new ..) pl pu pk (by simp) ?_ (by rw [List.size_toArray] <;> omega)
  rw [PySem.W.krv_pick]
  refine ⟨.ref _, _, I5.laid (o := .lst xs.reverse) (fun b ob q => Heap.get?_push_of_some _ q) (Nat.le_refl _) ?_, rfl, q _ (I5.hok.fresh (Nat.le_refl _))⟩
  exact ⟨by rw [List.length_reverse]; exact hz, _, 0, vals_rev r, Heap.get?_push_size _ rfl⟩
theorem sw_trueD {k v : Expr} {gs : List Comprehension} {scope : Scope} {pos py : Pos} {y : Str} {l : Nat} {env : Env} (hk : env.scope.kind = .function) (hy : env.scope.names.lookup y = some .local) (hl : (py.line == pos.line) = true)
    (ha : (scope.names.any fun (n, k) => n == y && (k == .local || k == .cell)) = false) : swapsWith (.DictComp k v gs scope pos) (some (.Name y py)) l env = pure true := by
  have ky : env.kindOf y = some .local := hy
  have hb : env.blockKind = .function := by
    unfold Env.blockKind
    rw [hk]
    rfl
  unfold swapsWith
  simp only [hb, ky, ha, Expr.pos, hl]
  rfl
theorem ps_setDc {X : Cx} {i : Nat} {y : Str} {py : Pos} {kx vx tg iter : Expr} {ifs : List Expr} {scope : Scope} {own : List (Str × Nat)} {pos spos : Pos} {wi : TI} {g : TG} {tt : TT} {tk tv : TE} (hc : X.calm = true) (hN : X.N.Nodup) (hy : X.N[i]? = some y) (hyl : X.env.scope.names.lookup y = some .local)
    (hsw : swapsWith (.DictComp kx vx [⟨tg, iter, ifs, 0⟩] scope pos) (some (.Name y py)) spos.line X.env = pure true) (hi : PI X tg iter wi) (ok : BlkOk X.N X.env.scope scope own)
    (hg : ∀ (s : Shared) (H : Hp) (C : Addr) (cl : List (Str × Addr)) (fp : List Addr), PG (X.blk s H scope (compEnvC scope cl C X.env) fp) tg g) (ht : ∀ (s : Shared) (H : Hp) (C : Addr) (cl : List (Str × Addr)) (fp : List Addr), PTs (X.blk s H scope (compEnvC scope cl C X.env) fp) ifs tt)
    (hk : ∀ (s : Shared) (H : Hp) (C : Addr) (cl : List (Str × Addr)) (fp : List Addr), PE (X.blk s H scope (compEnvC scope cl C X.env) fp) kx tk)
    (he : ∀ (s : Shared) (H : Hp) (C : Addr) (cl : List (Str × Addr)) (fp : List Addr), PE (X.blk s H scope (compEnvC scope cl C X.env) fp) vx tv) (hs : ∀ x, foldedSetIterable iter X.env x = pure x := by intro _; rfl) :
    PS X (.Assign [.Name y py] (.DictComp kx vx [⟨tg, iter, ifs, 0⟩] scope pos) spos) (tAsg (tDc wi g tt tk tv (own.map (·.2))) (gName i)) := ⟨fun pins t σ G D I h => by
  rw [exec_Assign_Name_used _ _ _ _ hsw]
  refine wpAny_bind (wpAny_standAt (wpAny_bind ?_))
  show wpAny _ X.A (do let _ ← comprehension (.DictComp kx vx [⟨tg, iter, ifs, 0⟩] scope pos) scope X.env (firstIterPos [⟨tg, iter, ifs, 0⟩] pos) newDict false (eval iter X.env) (some (assign (.Name y py) X.env))) _ _ t
  have h : tDc wi g tt tk tv (own.map (·.2)) σ G (fun x G1 => gName i x σ G1 D.nx) := h
  refine wpAny_bind (thn (dc_core (Qf := fun _ s' => SP X pins D .next s') hc hN I hi ok hg ht hk he hs h fun L C s' m G' I' q hn f => ?_) fun _ s' hq => wpAny_pure (wpAny_pure hq))
  show wpAny _ _ (assign (.Name y py) X.env (.ref L)) _ _ _
  refine wpAny_assign_Name (store_ok2 (v := V.ref L) I' hN hy (.inl hyl) rfl (fun s2 I2 ⟨a, sb, ha⟩ => ?_) (.inr hyl))
  obtain ⟨f0, f1, f2, f3, f4, f5⟩ := f
  have haC : C ≠ a := ha.elim (fun z => by rw [z]; exact f1) (fun z e => f4 y a z e.symm)
  exact ⟨m, hn.sameBut sb haC, fun h3 sb3 => ⟨_, G', I2.turned (t' := s2.toks) (fun b o hb e => (sb3.2 b hb).trans e) f0 f1 f3 f4 f5, q⟩⟩⟩
theorem dc_list {K : PySem.W.Frag} {a : Addr} {xs : List V} {g : TG} {tt : TT} {tk tv : TE} {vs : List Nat} {σ : L2.St} {H1 : Hp} {D : Addr} {Qd : Hp → Prop} (Pv : Nat → Hp → Prop) (h0 : Pv 0 (upd H1 D (.dK []))) (hl : ∀ i H, i ≤ xs.length → Pv i H → SqL K H a xs)
    (hs : ∀ i x H, xs[i]? = some x → Pv i H → g x (wipe σ vs) H fun σ2 H2 => wipe σ2 vs = wipe σ vs ∧ tt σ2 H2 fun b H3 =>
      if b = true then tk σ2 H3 fun y H4 => tv σ2 H4 fun z H5 => ∃ kvs k, y = kV k ∧ H5 D = some (.dK kvs) ∧ kvs.length < sizeLine ∧ Pv (i + 1) (upd H5 D (.dK (putK kvs k z))) else Pv (i + 1) H3) (hd : ∀ H, Pv xs.length H → Qd H) :
    ∃ W : Nat → Nat → Hp → Prop, (∃ m, W 0 m (upd H1 D (.dK []))) ∧ ∀ i m H, W i m H →
      ((Itl K a).stop i H ∧ Qd H) ∨ ((Itl K a).go i H ∧ ∃ Nx : Hp → Prop, (∀ H', Nx H' → ∃ m', m' < m ∧ W (i + 1) m' H') ∧ ∀ x H', (Itl K a).yld i H x H' → g x (wipe σ vs) H' fun σ2 H2 => wipe σ2 vs = wipe σ vs ∧ tt σ2 H2 fun b H3 =>
        if b = true then tk σ2 H3 fun y H4 => tv σ2 H4 fun z H5 => ∃ kvs k, y = kV k ∧ H5 D = some (.dK kvs) ∧ kvs.length < sizeLine ∧ Nx (upd H5 D (.dK (putK kvs k z))) else Nx H3) := by
  refine ⟨fun i m H => m = xs.length - i ∧ i ≤ xs.length ∧ Pv i H, ⟨xs.length, by simp, Nat.zero_le _, h0⟩, ?_⟩
  rintro i m H ⟨rfl, hi, p⟩
  have q := hl i H hi p
  by_cases hlt : i < xs.length
  · refine .inr ⟨⟨xs, xs[i], q, by simp [hlt]⟩, Pv (i + 1), fun H' p' => ⟨xs.length - (i + 1), by omega, rfl, hlt, p'⟩, fun x H' y => ?_⟩
    obtain ⟨e, y⟩ := y
    subst e
    exact hs i x _ (y xs q) p
  · have e : i = xs.length := by omega
    subst e
    exact .inl ⟨⟨xs, q, Nat.le_refl _⟩, hd H p⟩
/-- a loop over zip of two lists -/
theorem for_zipL {K : PySem.W.Frag} {a b : Addr} {xs ys : List V} {g : TG} {tb : TS} {D : Ends} {σ : L2.St} {H : Hp} (hl : ys.length ≤ xs.length) (Pv : Nat → L2.St → Hp → Prop) (h0 : Pv 0 σ H) (hq : ∀ i σ H, Pv i σ H → SqL K H a xs ∧ SqL K H b ys)
    (hs : ∀ (i : Nat) (x y : V) (σ : L2.St) (H : Hp) (T : Addr), xs[i]? = some x → ys[i]? = some y → Pv i σ H → H T = none → g (.ref T) σ (upd H T (.tup [x, y])) fun σ2 H2 => tb { D with nx := Pv (i + 1), ct := Pv (i + 1), bk := D.nx } σ2 H2) (hd : ∀ σ H, Pv ys.length σ H → D.nx σ H) :
    ∃ W : Nat → Nat → L2.St → Hp → Prop, (∃ m, W 0 m σ H) ∧ ∀ i m σ H, W i m σ H →
      ((Itz K a b).stop i H ∧ D.nx σ H) ∨ ((Itz K a b).go i H ∧ ∃ N : L2.St → Hp → Prop, (∀ σ' H', N σ' H' → ∃ m', m' < m ∧ W (i + 1) m' σ' H') ∧ ∀ x H', (Itz K a b).yld i H x H' → g x σ H' fun σ2 H2 => tb { D with nx := N, ct := N, bk := D.nx } σ2 H2) := by
  refine ⟨fun i m σ H => m = ys.length - i ∧ i ≤ ys.length ∧ Pv i σ H, ⟨ys.length, by simp, Nat.zero_le _, h0⟩, ?_⟩
  rintro i m σ H ⟨rfl, hi, p⟩
  obtain ⟨q1, q2⟩ := hq i σ H p
  by_cases hlt : i < ys.length
  · have g2 : ys[i]? = some ys[i] := List.getElem?_eq_getElem hlt
    have g1 : xs[i]? = some (xs[i]'(by omega)) := List.getElem?_eq_getElem (by omega)
    refine .inr ⟨⟨xs, ys, _, _, q1, q2, g1, g2⟩, Pv (i + 1), fun σ' H' p' => ⟨ys.length - (i + 1), by omega, rfl, hlt, p'⟩, fun x H' y => ?_⟩
    obtain ⟨T, z1, z2, rfl, hT, rfl, f1, f2⟩ := y
    exact hs i z1 z2 σ H T (f1 _ q1) (f2 _ q2) p hT
  · have e : i = ys.length := by omega
    subst e
    exact .inl ⟨⟨xs, ys, q1, q2, .inr (Nat.le_refl _)⟩, hd σ H p⟩
theorem cut_mid (xs : List V) (i j : Nat) (h : i + j ≤ xs.length) : cutV xs (some (i : Int)) (some ((i : Int) + j)) = (xs.drop i).take j := by
  have e : ((i : Int) + j) = ((i + j : Nat) : Int) := by omega
  unfold cutV
  rw [e, HT.sIx_nat, HT.sIx_nat, Nat.min_eq_left h, Nat.min_eq_left (show i ≤ xs.length by omega)]
  congr 1
  omega
end AA

set_option Elab.async false
set_option linter.all false
set_option maxRecDepth 100000
set_option maxHeartbeats 4000000
/-! What the law's own looks lean on. -/
namespace AA
open PySem PySem.Spec PyProof.Rows L2 Evl
mutual
def dOk : PyData → Bool
  | .list xs => decide (xs.length ≤ 1000000) && dOkA xs
  | .tuple xs => decide (xs.length ≤ 1000000) && dOkA xs
  | .str z => PyData.strOk z
  | .dict _ => false
  | _ => true
def dOkA : List PyData → Bool
  | [] => true
  | x :: xs => dOk x && dOkA xs
end
mutual
theorem sm_two {K : PySem.W.Frag} {C : Addr} {R : Addr → Addr → Hp → Prop} {H : Hp} : ∀ (d : PyData) (v u : V) (n : Nat), Dp K H v d → Dp K H u d → dOk d = true → d.depth < n → Sm K C R H n v u
  | _, _, _, 0, _, _, _, h => absurd h (Nat.not_lt_zero _)
  | .none, v, u, n + 1, hd, he, _, _ => by
    cases hd
    cases he
    exact .inl ⟨rfl, rfl⟩
  | .bool b, v, u, n + 1, hd, he, _, _ => by
    cases hd
    cases he
    exact .inl ⟨rfl, rfl⟩
  | .int i, v, u, n + 1, hd, he, _, _ => by
    cases hd
    cases he
    exact .inl ⟨rfl, rfl⟩
  | .str z, v, u, n + 1, hd, he, ho, _ => by
    cases hd
    cases he
    exact .inl ⟨rfl, ho⟩
  | .list xs, v, u, n + 1, hd, he, ho, h => by
    cases hd with
    | lst h1 h2 =>
      cases he with
      | lst g1 g2 =>
        have ho' : (decide (xs.length ≤ 1000000) && dOkA xs) = true := ho
        rw [Bool.and_eq_true] at ho'
        have hl := dpa_len h2
        have hz := of_decide_eq_true ho'.1
        exact .inr (.inl ⟨_, _, _, _, rfl, rfl, h1, g1, sm_twoA xs _ _ n h2 g2 ho'.2 (Nat.lt_of_succ_lt_succ h), by omega⟩)
  | .tuple xs, v, u, n + 1, hd, he, ho, h => by
    cases hd with
    | tup h1 h2 =>
      cases he with
      | tup g1 g2 =>
        have ho' : (decide (xs.length ≤ 1000000) && dOkA xs) = true := ho
        rw [Bool.and_eq_true] at ho'
        have hl := dpa_len h2
        have hz := of_decide_eq_true ho'.1
        exact .inr (.inr (.inl ⟨_, _, _, _, rfl, rfl, h1, g1, sm_twoA xs _ _ n h2 g2 ho'.2 (Nat.lt_of_succ_lt_succ h), by omega⟩))
  | .dict _, v, u, n + 1, _, _, ho, _ => by cases ho
theorem sm_twoA {K : PySem.W.Frag} {C : Addr} {R : Addr → Addr → Hp → Prop} {H : Hp} : ∀ (ds : List PyData) (vs us : List V) (n : Nat), DpAll K H vs ds → DpAll K H us ds → dOkA ds = true → PyData.depthAll ds < n → Paired (Sm K C R H n) vs us
  | [], _, _, _, h, g, _, _ => by
    cases h
    cases g
    exact .nil
  | d :: ds, _, _, n, h, g, ho, hn => by
    cases h with
    | cons h1 h2 =>
      cases g with
      | cons g1 g2 =>
        have ho' : (dOk d && dOkA ds) = true := ho
        rw [Bool.and_eq_true] at ho'
        have hn' : max (PyData.depth d) (PyData.depthAll ds) < n := hn
        exact .cons (sm_two d _ _ n h1 g1 ho'.1 (by omega)) (sm_twoA ds _ _ n h2 g2 ho'.2 (by omega))
end
theorem tps_in {H : Hp} {a b : Addr} {m : Nat} (S : SAt H a b m) : Ex (tps H) (hid a b H) := fun x o h => by
  obtain ⟨h1, xs, rfl⟩ := tps_some h
  obtain ⟨ns, c1, c2, c3, ha, hb, _⟩ := S
  have xa : x ≠ a := fun z => by
    rw [z, ha] at h1
    cases h1
  have xb : x ≠ b := fun z => by
    rw [z, hb] at h1
    cases h1
  rw [hid_ne xa xb]
  exact h1
theorem rd_st {n : Int} {s : St5} (h : StOk n s) : rdStep n (stD s) = some s := by
  rw [rd_at (d := stD s) (c := .tuple [.int s.p, .int s.q]) rfl rfl, if_pos ⟨h.o0, h.o1, h.t0, h.t1, h.k⟩]
theorem lsa_two {i j : Int} {ys : List PyData} (h : LsA [.int i, .int j] ys) : ys = [.int i, .int j] := by
  cases h with
  | cons h1 h =>
    cases h with
    | cons h2 h =>
      cases h
      cases h1
      cases h2
      rfl
theorem ls_items {xs : List PyData} {d : PyData} (h : Ls (.tuple xs) d ∨ Ls (.list xs) d) : LsA xs (itemsD d) ∧ isListD d = true := by
  rcases h with h | h
  · cases h with
    | tl h => exact ⟨h, rfl⟩
    | tt h => exact ⟨h, rfl⟩
  · cases h with
    | ll h => exact ⟨h, rfl⟩
    | lt h => exact ⟨h, rfl⟩
theorem ls_step {n : Int} {s : St5} {d : PyData} (h : Ls (stD s) d) (o : StOk n s) : rdStep n d = some s := by
  obtain ⟨h1, _⟩ := ls_items (.inl (show Ls (.tuple [.int s.one, .int s.other, .tuple [.int s.p, .int s.q], .int s.ticks, .int s.change]) d from h))
  generalize hit : itemsD d = l at h1
  cases h1 with
  | cons a1 h1 =>
    cases h1 with
    | cons a2 h1 =>
      cases h1 with
      | cons a3 h1 =>
        cases h1 with
        | cons a4 h1 =>
          cases h1 with
          | cons a5 h1 =>
            cases h1
            cases a1
            cases a2
            cases a4
            cases a5
            obtain ⟨h2, _⟩ := ls_items (.inl a3)
            rw [rd_at hit (lsa_two h2), if_pos ⟨o.o0, o.o1, o.t0, o.t1, o.k⟩]
theorem ls_steps {n : Int} : ∀ {ws : List St5} {ds : List PyData}, LsA (ws.map stD) ds → (∀ s ∈ ws, StOk n s) → ds.map (rdStep n) = ws.map some
  | [], _, h, _ => by
    cases h
    rfl
  | s :: ws, _, h, o => by
    cases h with
    | cons h1 h2 =>
      rw [List.map_cons, List.map_cons, ls_step h1 (o s List.mem_cons_self), ls_steps h2 fun t ht => o t (List.mem_cons_of_mem _ ht)]
theorem rd_steps {n : Int} : ∀ {ws : List St5}, (∀ s ∈ ws, StOk n s) → (ws.map stD).map (rdStep n) = ws.map some
  | [], _ => rfl
  | s :: ws, o => by
    rw [List.map_cons, List.map_cons, List.map_cons, rd_st (o s List.mem_cons_self), rd_steps fun t ht => o t (List.mem_cons_of_mem _ ht)]
theorem all_sts : ∀ ws : List St5, allIA (ws.map stD) = true
  | [] => rfl
  | s :: ws => by
    show (allI (stD s) && allIA (ws.map stD)) = true
    rw [all_sts ws]
    rfl
theorem cut_from (xs : List V) (j : Nat) : cutV xs (some (j : Int)) none = xs.drop j := by
  unfold cutV
  rw [HT.sIx_none, HT.sIx_nat]
  by_cases h : j ≤ xs.length
  · rw [Nat.min_eq_left h, List.take_of_length_le (by rw [List.length_drop]; omega)]
  · rw [Nat.min_eq_right (by omega), Nat.sub_self, List.drop_of_length_le (by omega), List.take_nil]
    exact (List.drop_of_length_le (by omega)).symm
theorem dpa_take {K : PySem.W.Frag} {H : Hp} : ∀ {xs : List V} {ds : List PyData} (j : Nat), DpAll K H xs ds → DpAll K H (xs.take j) (ds.take j)
  | [], _, j, h => by
    cases h
    rw [List.take_nil, List.take_nil]
    exact .nil
  | x :: xs, _, 0, h => .nil
  | x :: xs, _, j + 1, h => by
    cases h with
    | cons h1 h2 => exact .cons h1 (dpa_take j h2)
theorem sqt_hid {G : Hp} {K : PySem.W.Frag} {a b t : Addr} {m : Nat} {xs : List V} (S : SAt G a b m) (h : SqT K G t xs) : SqT K (hid a b G) t xs := by
  obtain ⟨ns, c1, c2, c3, ha, hb, _⟩ := S
  rcases h with h | h
  · refine .inl ?_
    rcases h with h | ⟨u, h⟩
    · have xa : t ≠ a := fun z => by rw [z, ha] at h; cases h
      have xb : t ≠ b := fun z => by rw [z, hb] at h; cases h
      exact .inl (by rw [hid_ne xa xb]; exact h)
    · have xa : t ≠ a := fun z => by rw [z, ha] at h; cases h
      have xb : t ≠ b := fun z => by rw [z, hb] at h; cases h
      exact .inr ⟨u, by rw [hid_ne xa xb]; exact h⟩
  · exact .inr h
theorem sts_hid {G : Hp} {K : PySem.W.Frag} {a b : Addr} {m : Nat} (S : SAt G a b m) : ∀ {vs : List V} {ss : List St5}, DpAll K G vs (ss.map stD) → DpAll K (hid a b G) vs (ss.map stD)
  | [], [], _ => .nil
  | v :: vs, s :: ss, h => by
    cases h with
    | cons h1 h2 =>
      obtain ⟨t, u, rfl, h3, h4⟩ := stD_inv h1
      exact .cons (stD_mk (sqt_hid S h3) (sqt_hid S h4)) (sts_hid S h2)
  | [], _ :: _, h => by cases h
  | _ :: _, [], h => by cases h
theorem made_ex {H : Hp} {x dx : Addr} {o : HO} (nx : H x = none) (ndx : H dx = none) : Ex H (hid x x (upd (upd H dx (.own x)) x o)) := fun z u h => by
  have h1 : z ≠ x := ne_of_none h nx
  have h2 : z ≠ dx := ne_of_none h ndx
  rw [hid_ne h1 h1, upd_ne h1, upd_ne h2]
  exact h
theorem cnt_sts : ∀ ws : List St5, cntA (ws.map stD) = 8 * ws.length
  | [] => rfl
  | s :: ws => by
    show cnt (stD s) + cntA (ws.map stD) = 8 * (ws.length + 1)
    have e : cnt (stD s) = 8 := rfl
    rw [e, cnt_sts ws]
    omega
theorem dok_sts : ∀ ws : List St5, dOkA (ws.map stD) = true
  | [] => rfl
  | s :: ws => by
    show (dOk (stD s) && dOkA (ws.map stD)) = true
    rw [dok_sts ws]
    rfl
theorem stLt_tri {s t : St5} (h1 : stLt s t = false) (h2 : stLt t s = false) : s = t := by
  have a := stLt_no.mp h1
  have b := stLt_no.mp h2
  have e1 : s.one = t.one := by omega
  have e2 : s.other = t.other := by omega
  have e3 : s.p = t.p := by omega
  have e4 : s.q = t.q := by omega
  have e5 : s.ticks = t.ticks := by omega
  have e6 : s.change = t.change := by omega
  cases s
  cases t
  simp_all
/-- the same steps, both in order, are the same list -/
theorem srs_uniq : ∀ {ss ts : List St5}, SrS ss → SrS ts → ss.Perm ts → ss = ts
  | [], ts, _, _, p => (List.Perm.nil_eq p)
  | s :: ss, [], _, _, p => absurd p.length_eq (by simp)
  | s :: ss, t :: ts, h, g, p => by
    have h' := List.pairwise_cons.mp h
    have g' := List.pairwise_cons.mp g
    have e : s = t := by
      have m1 : s ∈ t :: ts := p.mem_iff.mp List.mem_cons_self
      have m2 : t ∈ s :: ss := p.mem_iff.mpr List.mem_cons_self
      rcases List.mem_cons.mp m1 with e | m1
      · exact e
      · rcases List.mem_cons.mp m2 with e | m2
        · exact e.symm
        · exact stLt_tri (g'.1 _ m1) (h'.1 _ m2)
    subst e
    rw [srs_uniq h'.2 g'.2 (List.Perm.cons_inv p)]
section
variable {K : PySem.W.Frag}
theorem rdall_of {n : Int} {H : Hp} : ∀ {vs : List V} {ds : List PyData} {ss : List St5}, DpAll K H vs ds → ds.map (rdStep n) = ss.map some → RdAll K n H vs ss
  | [], _, [], h, _ => .nil
  | [], _, _ :: _, h, e => by
    cases h
    cases e
  | v :: vs, _, [], h, e => by
    cases h
    cases e
  | v :: vs, _, s :: ss, h, e => by
    cases h with
    | cons h1 h2 =>
      rw [List.map_cons, List.map_cons] at e
      injection e with e1 e2
      exact .cons h1 e1 (rdall_of h2 e2)
theorem rdall_st {n : Int} {H : Hp} {vs : List V} {ss : List St5} (h : DpAll K H vs (ss.map stD)) (o : ∀ s ∈ ss, StOk n s) : RdAll K n H vs ss := rdall_of h (rd_steps o)
/-- a web, its list of steps at lw -/
def WebL (K : PySem.W.Frag) (C : Addr) (H : Hp) (x lw : Addr) (n : Int) (ss : List St5) : Prop := ∃ (dx kd : Addr) (ys : List V), H x = some (.ins C dx (wf n lw kd)) ∧ H lw = some (.lst ys) ∧ DpAll K H ys (ss.map stD)
theorem WebL.at {C : Addr} {H : Hp} {x lw : Addr} {n : Int} {ss : List St5} (h : WebL K C H x lw n ss) : WebAt K C H x n ss := let ⟨dx, kd, ys, h1, h2, h3⟩ := h; ⟨dx, lw, kd, ys, h1, h2, h3⟩
theorem WebL.ex {C : Addr} {H H' : Hp} {x lw : Addr} {n : Int} {ss : List St5} (h : WebL K C H x lw n ss) (e : Ex H H') : WebL K C H' x lw n ss := let ⟨dx, kd, ys, h1, h2, h3⟩ := h; ⟨dx, kd, ys, e _ _ h1, e _ _ h2, dpa_ex e _ _ h3⟩
theorem WebL.up {C p : Addr} {H : Hp} {x lw : Addr} {n : Int} {ss : List St5} {vs : List V} {o : HO} (h : WebL K C H x lw n ss) (hp : H p = some (.lst vs)) (hl : p ≠ lw) : WebL K C (upd H p o) x lw n ss := by
  obtain ⟨dx, kd, ys, h1, h2, h3⟩ := h
  have px : x ≠ p := fun z => by
    rw [z, hp] at h1
    cases h1
  have nt : ∀ (xs : List V) (u : Obj), H p ≠ some (.tup xs) ∧ H p ≠ some (.frz u (.tup xs)) := fun xs u => by
    rw [hp]
    exact ⟨(fun z => nomatch z), (fun z => nomatch z)⟩
  exact ⟨dx, kd, ys, by rw [upd_ne px]; exact h1, by rw [upd_ne hl.symm]; exact h2, sts_upd nt h3⟩
theorem nt_lst {G : Hp} {l : Addr} {vs : List V} (h : G l = some (.lst vs)) (xs : List V) (u : Obj) : G l ≠ some (.tup xs) ∧ G l ≠ some (.frz u (.tup xs)) := by
  rw [h]
  exact ⟨(fun z => nomatch z), (fun z => nomatch z)⟩
theorem sts_get {H : Hp} {ys : List V} {ss : List St5} {i : Nat} {y : V} (h : DpAll K H ys (ss.map stD)) (hy : ys[i]? = some y) : ∃ (t : St5) (b : Addr), ss[i]? = some t ∧ y = .ref b ∧ Dp K H (.ref b) (stD t) := by
  obtain ⟨d, h1, h2⟩ := dpa_get h hy
  rw [List.getElem?_map] at h1
  cases q : ss[i]? with
  | none =>
    rw [q] at h1
    cases h1
  | some t =>
    rw [q] at h1
    cases h1
    obtain ⟨b, c, e, _⟩ := stD_inv h2
    subst e
    exact ⟨t, b, rfl, rfl, h2⟩
theorem sts_len {H : Hp} {ys : List V} {ss : List St5} (h : DpAll K H ys (ss.map stD)) : ys.length = ss.length := by
  have := dpa_len h
  rw [List.length_map] at this
  exact this
/-- what a web that is made keeps -/
theorem made_web {C x dx lw kd dy : Addr} {H H3 : Hp} {n : Int} {ss : List St5} {ys : List V} (nx : H x = none) (ndx : H dx = none) (hw : Ex (hid x x (upd (upd H dx (.own x)) x (.ins C dx []))) H3) (fx : H3 x = some (.ins C dy (wf n lw kd))) (flw0 : upd (upd H dx (.own x)) x (.ins C dx []) lw = none) (flw : H3 lw = some (.lst ys)) (hys : DpAll K H3 ys (ss.map stD)) :
    Ex H H3 ∧ WebL K C H3 x lw n ss ∧ H lw = none := by
  have me := made_ex (o := .ins C dx []) nx ndx
  refine ⟨me.trans hw, ⟨dy, kd, ys, fx, flw, hys⟩, ?_⟩
  by_cases q1 : lw = x
  · rw [q1]
    exact nx
  · by_cases q2 : lw = dx
    · rw [q2]
      exact ndx
    · rw [upd_ne q1, upd_ne q2] at flw0
      exact flw0
end
/-- list(x) of a list or a tuple -/
abbrev rListOf (K : PySem.W.Frag) : List V → Hp → VK → Prop := fun vs G Q => ∃ p ys, vs = [V.ref p] ∧ (SqL K G p ys ∨ SqT K G p ys) ∧ ∀ l, G l = none → Q (.ref l) (upd G l (.lst ys))
end AA

set_option Elab.async false
set_option linter.all false
set_option maxRecDepth 100000
set_option maxHeartbeats 4000000
/-! What one can come to, and dicts of lists. -/
namespace AA
open PySem PySem.Spec PyProof.Rows L2 Evl
theorem nd_len {α : Type} [DecidableEq α] : ∀ (l r : List α), l.Nodup → (∀ x ∈ l, x ∈ r) → l.length ≤ r.length
  | [], r, _, _ => Nat.zero_le _
  | x :: l, r, hn, hs => by
    have hn' := List.nodup_cons.mp hn
    have ih := nd_len l (r.erase x) hn'.2 fun y hy => (List.mem_erase_of_ne fun (e : y = x) => hn'.1 (e ▸ hy)).mpr (hs y (List.mem_cons_of_mem _ hy))
    have hx := hs x List.mem_cons_self
    rw [List.length_erase_of_mem hx] at ih
    have := List.length_pos_of_mem hx
    rw [List.length_cons]
    omega
/-- what one can come to along es, begun at S -/
inductive Rch (es : List (Int × Int)) (S : List Int) : Int → Prop
  | base {v : Int} : v ∈ S → Rch es S v
  | step {a b : Int} : Rch es S a → (a, b) ∈ es → Rch es S b
/-- all that can be come to lies in U -/
theorem Rch.in {es : List (Int × Int)} {S U : List Int} (h1 : ∀ v ∈ S, v ∈ U) (h2 : ∀ a b, (a, b) ∈ es → b ∈ U) {v : Int} (h : Rch es S v) : v ∈ U := by
  cases h with
  | base h => exact h1 _ h
  | step _ h => exact h2 _ _ h
/-- what is closed holds all that can be come to -/
theorem Rch.closed {es : List (Int × Int)} {S seen : List Int} (h1 : ∀ v ∈ S, v ∈ seen) (h2 : ∀ a ∈ seen, ∀ b, (a, b) ∈ es → b ∈ seen) {v : Int} (h : Rch es S v) : v ∈ seen := by
  induction h with
  | base h => exact h1 _ h
  | step _ e ih => exact h2 _ ih _ e
/-! ### a dict of lists: rows of a key, a list's address, what the list holds -/
abbrev Row (α : Type) := Int × Addr × List α
def rowK {α : Type} (rows : List (Row α)) : List (Key × V) := rows.map fun r => (Sum.inl r.1, V.ref r.2.1)
theorem rowK_none {α : Type} {a : Int} : ∀ {rows : List (Row α)}, valV (rowK rows) (Sum.inl a) = none ↔ ∀ r ∈ rows, r.1 ≠ a
  | [] => ⟨fun _ r h => absurd h (by simp), fun _ => rfl⟩
  | r :: rows => by
    by_cases e : r.1 = a
    · refine ⟨fun h => ?_, fun h => absurd e (h r List.mem_cons_self)⟩
      have : valV (rowK (r :: rows)) (Sum.inl a) = some (V.ref r.2.1) := valV_pos (p := (Sum.inl r.1, V.ref r.2.1)) (by rw [e])
      rw [this] at h
      cases h
    · have h1 : valV (rowK (r :: rows)) (Sum.inl a) = valV (rowK rows) (Sum.inl a) := valV_neg (p := (Sum.inl r.1, V.ref r.2.1)) fun z => e (Sum.inl.inj z)
      rw [h1, rowK_none (rows := rows)]
      exact ⟨fun h s hs => (List.mem_cons.mp hs).elim (fun z => z ▸ e) (h s), fun h s hs => h s (List.mem_cons_of_mem _ hs)⟩
theorem rowK_some {α : Type} {a : Int} {v : V} : ∀ {rows : List (Row α)}, valV (rowK rows) (Sum.inl a) = some v → ∃ (i : Nat) (r : Row α), rows[i]? = some r ∧ r.1 = a ∧ v = .ref r.2.1
  | [], h => by cases h
  | r :: rows, h => by
    by_cases e : r.1 = a
    · have : valV (rowK (r :: rows)) (Sum.inl a) = some (V.ref r.2.1) := valV_pos (p := (Sum.inl r.1, V.ref r.2.1)) (by rw [e])
      rw [this] at h
      cases h
      exact ⟨0, r, rfl, e, rfl⟩
    · have h1 : valV (rowK (r :: rows)) (Sum.inl a) = valV (rowK rows) (Sum.inl a) := valV_neg (p := (Sum.inl r.1, V.ref r.2.1)) fun z => e (Sum.inl.inj z)
      rw [h1] at h
      obtain ⟨i, s, h2, h3, h4⟩ := rowK_some h
      exact ⟨i + 1, s, by rw [List.getElem?_cons_succ]; exact h2, h3, h4⟩
/-- the dict at A, its lists new beside H, what they hold -/
structure Adj {α : Type} (f : α → V) (H G : Hp) (A : Addr) (rows : List (Row α)) : Prop where
  dk : G A = some (.dK (rowK rows))
  kn : (rows.map (·.1)).Nodup
  an : (rows.map (·.2.1)).Nodup
  fr : ∀ r ∈ rows, H r.2.1 = none ∧ r.2.1 ≠ A
  at' : ∀ r ∈ rows, G r.2.1 = some (.lst (r.2.2.map f))
theorem Adj.go {α : Type} {f : α → V} {H G G' : Hp} {A : Addr} {rows : List (Row α)} (h : Adj f H G A rows) (e : Ex G G') : Adj f H G' A rows := ⟨e _ _ h.dk, h.kn, h.an, h.fr, fun r hr => e _ _ (h.at' r hr)⟩
/-- a place that is none of the dict's is written -/
theorem Adj.upd {α : Type} {f : α → V} {H G : Hp} {A p : Addr} {o : HO} {rows : List (Row α)} (h : Adj f H G A rows) (pA : p ≠ A) (pr : ∀ r ∈ rows, p ≠ r.2.1) : Adj f H (L2.upd G p o) A rows :=
  ⟨by rw [upd_ne pA.symm]; exact h.dk, h.kn, h.an, h.fr, fun r hr => by rw [upd_ne (pr r hr).symm]; exact h.at' r hr⟩
/-- what stood in H stands -/
theorem set_map {α β : Type} (g : α → β) : ∀ (l : List α) (i : Nat) (x y : α), l[i]? = some x → g y = g x → (l.set i y).map g = l.map g
  | [], _, _, _, h, _ => by simp at h
  | z :: l, 0, x, y, h, e => by
    have : z = x := by simpa using h
    rw [List.set_cons_zero, List.map_cons, List.map_cons, e, this]
  | z :: l, i + 1, x, y, h, e => by
    rw [List.set_cons_succ, List.map_cons, List.map_cons, set_map g l i x y (by simpa using h) e]
theorem mem_set {α : Type} : ∀ {l : List α} {i : Nat} {x y z : α}, l[i]? = some x → (z ∈ l.set i y ↔ z = y ∨ ∃ j, j ≠ i ∧ l[j]? = some z)
  | [], _, _, _, _, h => by simp at h
  | w :: l, 0, x, y, z, h => by
    rw [List.set_cons_zero, List.mem_cons]
    refine ⟨fun q => q.imp id fun q => ?_, fun q => q.imp id fun ⟨j, h1, h2⟩ => ?_⟩
    · obtain ⟨j, hj⟩ := List.getElem?_of_mem q
      exact ⟨j + 1, by omega, by simpa using hj⟩
    · cases j with
      | zero => exact absurd rfl h1
      | succ j => exact mem_of_get (by simpa using h2)
  | w :: l, i + 1, x, y, z, h => by
    rw [List.set_cons_succ, List.mem_cons, mem_set (l := l) (i := i) (x := x) (by simpa using h)]
    constructor
    · rintro (q | q | ⟨j, h1, h2⟩)
      · exact .inr ⟨0, by omega, by simp [q]⟩
      · exact .inl q
      · exact .inr ⟨j + 1, by omega, by simpa using h2⟩
    · rintro (q | ⟨j, h1, h2⟩)
      · exact .inr (.inl q)
      · cases j with
        | zero => exact .inl (by simpa using h2.symm)
        | succ j => exact .inr (.inr ⟨j, by omega, by simpa using h2⟩)
theorem nodup_at {α : Type} {l : List α} (h : l.Nodup) {i j : Nat} {x : α} (h1 : l[i]? = some x) (h2 : l[j]? = some x) : i = j := by
  obtain ⟨hi, ei⟩ := List.getElem?_eq_some_iff.mp h1
  obtain ⟨hj, ej⟩ := List.getElem?_eq_some_iff.mp h2
  have := List.nodup_iff_pairwise_ne.mp h
  rcases Nat.lt_trichotomy i j with q | q | q
  · exact absurd (ei.trans ej.symm) (List.pairwise_iff_getElem.mp this i j hi hj q)
  · exact q
  · exact absurd (ej.trans ei.symm) (List.pairwise_iff_getElem.mp this j i hj hi q)
/-- one more in a list that is there -/
theorem Adj.more {α : Type} {f : α → V} {H G : Hp} {A : Addr} {rows : List (Row α)} {i : Nat} {r : Row α} (h : Adj f H G A rows) (hr : rows[i]? = some r) (b : α) : Adj f H (L2.upd G r.2.1 (.lst ((r.2.2 ++ [b]).map f))) A (rows.set i (r.1, r.2.1, r.2.2 ++ [b])) := by
  have hm := mem_of_get hr
  refine ⟨?_, ?_, ?_, fun s hs => ?_, fun s hs => ?_⟩
  · rw [upd_ne (h.fr r hm).2.symm]
    have : rowK (rows.set i (r.1, r.2.1, r.2.2 ++ [b])) = rowK rows := set_map _ rows i r _ hr rfl
    rw [this]
    exact h.dk
  · rw [set_map (·.1) rows i r (r.1, r.2.1, r.2.2 ++ [b]) hr rfl]
    exact h.kn
  · rw [set_map (·.2.1) rows i r (r.1, r.2.1, r.2.2 ++ [b]) hr rfl]
    exact h.an
  · rcases (mem_set hr).mp hs with rfl | ⟨j, _, hj⟩
    · exact h.fr r hm
    · exact h.fr s (mem_of_get hj)
  · rcases (mem_set hr).mp hs with rfl | ⟨j, hij, hj⟩
    · exact upd_same
    · have ne : s.2.1 ≠ r.2.1 := fun e => hij (nodup_at h.an (i := j) (j := i) (x := r.2.1) (by rw [List.getElem?_map, hj, ← e]; rfl) (by rw [List.getElem?_map, hr]; rfl))
      rw [upd_ne ne]
      exact h.at' s (mem_of_get hj)
/-- a new list with one thing -/
theorem Adj.new {α : Type} {f : α → V} {H G : Hp} {A p : Addr} {rows : List (Row α)} {a : Int} {b : α} (h : Adj f H G A rows) (hn : ∀ r ∈ rows, r.1 ≠ a) (hp : H p = none) (pA : p ≠ A) (pr : ∀ r ∈ rows, p ≠ r.2.1)
    (hA : G A = some (.dK (rowK rows))) : Adj f H (L2.upd (L2.upd G A (.dK (putK (rowK rows) (Sum.inl a) (V.ref p)))) p (.lst [f b])) A (rows ++ [(a, p, [b])]) := by
  refine ⟨?_, ?_, ?_, fun s hs => ?_, fun s hs => ?_⟩
  · rw [upd_ne pA.symm, upd_same, putK_new _ (rowK_none.mpr hn)]
    unfold rowK
    rw [List.map_append]
    rfl
  · rw [List.map_append]
    refine List.nodup_append.mpr ⟨h.kn, by simp, fun x hx y hy e => ?_⟩
    obtain ⟨r, h1, h2⟩ := List.mem_map.mp hx
    have : y = a := by simpa using hy
    exact hn r h1 (by rw [h2, e, this])
  · rw [List.map_append]
    refine List.nodup_append.mpr ⟨h.an, by simp, fun x hx y hy e => ?_⟩
    obtain ⟨r, h1, h2⟩ := List.mem_map.mp hx
    have : y = p := by simpa using hy
    exact pr r h1 (by rw [h2, e, this])
  · rcases List.mem_append.mp hs with hs | hs
    · exact h.fr s hs
    · obtain rfl := List.mem_singleton.mp hs
      exact ⟨hp, pA⟩
  · rcases List.mem_append.mp hs with hs | hs
    · rw [upd_ne (pr s hs).symm, upd_ne (h.fr s hs).2]
      exact h.at' s hs
    · obtain rfl := List.mem_singleton.mp hs
      exact upd_same
/-- what the rows tell -/
def Tells {α : Type} (rows : List (Row α)) (es : List (Int × α)) : Prop := ∀ a b, (a, b) ∈ es ↔ ∃ r ∈ rows, r.1 = a ∧ b ∈ r.2.2
theorem Tells.nil {α : Type} : Tells ([] : List (Row α)) [] := fun a b => ⟨fun h => absurd h (by simp), fun ⟨r, h, _⟩ => absurd h (by simp)⟩
theorem Tells.more {α : Type} {rows : List (Row α)} {es : List (Int × α)} {i : Nat} {r : Row α} (h : Tells rows es) (hr : rows[i]? = some r) (b : α) : Tells (rows.set i (r.1, r.2.1, r.2.2 ++ [b])) (es ++ [(r.1, b)]) := fun x y => by
  rw [List.mem_append, h x y, List.mem_singleton]
  constructor
  · rintro (⟨s, h1, h2, h3⟩ | e)
    · obtain ⟨j, hj⟩ := List.getElem?_of_mem h1
      by_cases q : j = i
      · subst q
        rw [hr] at hj
        cases hj
        exact ⟨_, (mem_set hr).mpr (.inl rfl), h2, List.mem_append_left _ h3⟩
      · exact ⟨s, (mem_set hr).mpr (.inr ⟨j, q, hj⟩), h2, h3⟩
    · cases e
      exact ⟨_, (mem_set hr).mpr (.inl rfl), rfl, List.mem_append_right _ List.mem_cons_self⟩
  · rintro ⟨s, h1, h2, h3⟩
    rcases (mem_set hr).mp h1 with rfl | ⟨j, _, hj⟩
    · rcases List.mem_append.mp h3 with h3 | h3
      · exact .inl ⟨r, mem_of_get hr, h2, h3⟩
      · have e1 : r.1 = x := h2
        rw [List.mem_singleton.mp h3, ← e1]
        exact .inr rfl
    · exact .inl ⟨s, mem_of_get hj, h2, h3⟩
theorem Tells.new {α : Type} {rows : List (Row α)} {es : List (Int × α)} (h : Tells rows es) (a : Int) (p : Addr) (b : α) : Tells (rows ++ [(a, p, [b])]) (es ++ [(a, b)]) := fun x y => by
  rw [List.mem_append, h x y, List.mem_singleton]
  constructor
  · rintro (⟨s, h1, h2⟩ | e)
    · exact ⟨s, List.mem_append_left _ h1, h2⟩
    · cases e
      exact ⟨_, List.mem_append_right _ List.mem_cons_self, rfl, List.mem_cons_self⟩
  · rintro ⟨s, h1, h2, h3⟩
    rcases List.mem_append.mp h1 with h1 | h1
    · exact .inl ⟨s, h1, h2, h3⟩
    · obtain rfl := List.mem_singleton.mp h1
      have e1 : a = x := h2
      rw [List.mem_singleton.mp h3, ← e1]
      exact .inr rfl
/-- how many things the rows hold -/
theorem Tells.key {α : Type} {rows : List (Row α)} {es : List (Int × α)} (h : Tells rows es) (kn : (rows.map (·.1)).Nodup) {i : Nat} {r : Row α} (hr : rows[i]? = some r) (b : α) : b ∈ r.2.2 ↔ (r.1, b) ∈ es := by
  rw [h r.1 b]
  refine ⟨fun q => ⟨r, mem_of_get hr, rfl, q⟩, ?_⟩
  rintro ⟨s, h1, h2, h3⟩
  obtain ⟨j, hj⟩ := List.getElem?_of_mem h1
  obtain rfl : j = i := nodup_at kn (x := r.1) (by rw [List.getElem?_map, hj, ← h2]; rfl) (by rw [List.getElem?_map, hr]; rfl)
  rw [hr] at hj
  cases hj
  exact h3
end AA

set_option Elab.async false
set_option linter.all false
set_option maxRecDepth 100000
set_option maxHeartbeats 4000000
/-! Least sums along steps, round by round, and rings below nothing: without a heap. -/
namespace AA
open PySem PySem.Spec PyProof.Rows L2 Evl
/-! ### lists of pairs as dicts -/
def gt {α : Type} : List (Int × α) → Int → Option α
  | [], _ => none
  | e :: l, p => if e.1 = p then some e.2 else gt l p
def put {α : Type} : List (Int × α) → Int → α → List (Int × α)
  | [], p, x => [(p, x)]
  | e :: l, p, x => if e.1 = p then (p, x) :: l else e :: put l p x
theorem gt_put {α : Type} {p : Int} {x : α} (q : Int) : ∀ l : List (Int × α), gt (put l p x) q = if p = q then some x else gt l q
  | [] => rfl
  | e :: l => by
    unfold put
    by_cases h : e.1 = p
    · rw [if_pos h]
      show (if p = q then some x else gt l q) = if p = q then some x else (if e.1 = q then some e.2 else gt l q)
      by_cases h2 : p = q
      · rw [if_pos h2, if_pos h2]
      · rw [if_neg h2, if_neg h2, if_neg (by rw [h]; exact h2)]
    · rw [if_neg h]
      show (if e.1 = q then some e.2 else gt (put l p x) q) = if p = q then some x else (if e.1 = q then some e.2 else gt l q)
      by_cases h3 : e.1 = q
      · rw [if_pos h3, if_pos h3, if_neg (fun z => h (by rw [h3, z]))]
      · rw [if_neg h3, if_neg h3]
        exact gt_put q l
theorem gt_mem {α : Type} {p : Int} : ∀ {l : List (Int × α)}, (gt l p).isSome = true ↔ p ∈ l.map (·.1)
  | [] => ⟨(fun h => by cases h), fun h => absurd h (by simp)⟩
  | e :: l => by
    show (if e.1 = p then some e.2 else gt l p).isSome = true ↔ _
    rw [List.map_cons, List.mem_cons]
    by_cases h : e.1 = p
    · rw [if_pos h]
      exact ⟨fun _ => .inl h.symm, fun _ => rfl⟩
    · rw [if_neg h, gt_mem (l := l)]
      exact ⟨.inr, fun z => z.elim (fun y => absurd y.symm h) id⟩
theorem gt_of {α : Type} {p : Int} {x : α} {l : List (Int × α)} (h : gt l p = some x) : p ∈ l.map (·.1) := gt_mem.mp (by rw [h]; rfl)
theorem put_keys {α : Type} {p : Int} {x : α} : ∀ l : List (Int × α), (put l p x).map (·.1) = if p ∈ l.map (·.1) then l.map (·.1) else l.map (·.1) ++ [p]
  | [] => rfl
  | e :: l => by
    unfold put
    by_cases h : e.1 = p
    · rw [if_pos h, if_pos (by rw [List.map_cons, h]; exact List.mem_cons_self)]
      rw [List.map_cons, List.map_cons, h]
    · rw [if_neg h, List.map_cons, put_keys l, List.map_cons]
      by_cases h2 : p ∈ l.map (·.1)
      · rw [if_pos h2, if_pos (List.mem_cons_of_mem _ h2)]
      · rw [if_neg h2, if_neg (fun z => (List.mem_cons.mp z).elim (fun y => h y.symm) h2)]
        rfl
theorem put_len {α : Type} {p : Int} {x : α} (l : List (Int × α)) : (put l p x).length ≤ l.length + 1 := by
  have h := congrArg List.length (put_keys (p := p) (x := x) l)
  rw [List.length_map] at h
  rw [h]
  split
  · rw [List.length_map]; omega
  · rw [List.length_append, List.length_map]; exact Nat.le_refl _
/-! ### a round -/
structure BS where
  sm : List (Int × Int)
  cm : List (Int × St5)
  lt : Option Int
/-- what a step lowers the sum of its end to -/
def lowTo (W : St5 → Int) (sm : List (Int × Int)) (s : St5) : Option Int :=
  match gt sm s.one with
  | none => none
  | some a => match gt sm s.other with
    | none => some (a + W s)
    | some c => if a + W s < c then some (a + W s) else none
def low1 (W : St5 → Int) (b : BS) (s : St5) : BS :=
  match lowTo W b.sm s with
  | none => b
  | some x => ⟨put b.sm s.other x, put b.cm s.other s, some s.other⟩
def lowR (W : St5 → Int) (ss : List St5) (b : BS) : BS := ss.foldl (low1 W) ⟨b.sm, b.cm, none⟩
/-- going back -/
def BackCh (cm : List (Int × St5)) : Int → List St5 → Int → Prop
  | v, [], e => v = e
  | v, s :: L, e => gt cm v = some s ∧ BackCh cm s.one L e
structure BInv (W : St5 → Int) (ss : List St5) (I : List (Int × Int)) (b : BS) (r : Int → Nat) (k i : Nat) : Prop where
  cm : ∀ v s, gt b.cm v = some s → s ∈ ss ∧ s.other = v ∧ r v ≤ r s.one + 1 ∧ ∃ a c, gt b.sm s.one = some a ∧ gt b.sm v = some c ∧ a + W s ≤ c
  ini : ∀ v, gt b.cm v = none → gt b.sm v = gt I v ∧ r v = 0
  le : ∀ v, r v ≤ k
  neg : ∀ v L, L ≠ [] → BackCh b.cm v L v → (L.map W).sum < 0
  ok : ∀ j s a, ss[j]? = some s → gt b.sm s.one = some a → r s.one < (if j < i then k else k - 1) → ∃ c, gt b.sm s.other = some c ∧ c ≤ a + W s
  lt0 : b.lt = none → ∀ v, r v ≤ k - 1
  lt1 : ∀ v, b.lt = some v → r v = k ∧ (gt b.cm v).isSome = true
  from' : ∀ v, (gt b.sm v).isSome = true → ∃ p, (gt I p).isSome = true ∧ Rch (ss.map fun s => (s.one, s.other)) [p] v
theorem back_sum {W : St5 → Int} {cm : List (Int × St5)} (S : Int → Int) (h : ∀ v s, gt cm v = some s → W s ≤ S v - S s.one) : ∀ (v : Int) (L : List St5) (e : Int), BackCh cm v L e → (L.map W).sum ≤ S v - S e
  | v, [], e, hb => by
    have : v = e := hb
    subst this
    simp
  | v, s :: L, e, hb => by
    have h1 := h v s hb.1
    have h2 := back_sum S h s.one L e hb.2
    rw [List.map_cons, List.sum_cons]
    omega
/-- the same, strictly, where a place is come to at which it is strict -/
theorem back_sum_lt {W : St5 → Int} {cm : List (Int × St5)} (S : Int → Int) (z : St5) (h : ∀ v s, gt cm v = some s → W s ≤ S v - S s.one) (hz : W z < S z.other - S z.one) (hzc : gt cm z.other = some z) :
    ∀ (v : Int) (L : List St5) (e : Int), BackCh cm v L e → z ∈ L → (∀ v s, gt cm v = some s → s.other = v) → (L.map W).sum < S v - S e
  | v, [], e, _, hm, _ => absurd hm (by simp)
  | v, s :: L, e, hb, hm, ho => by
    rw [List.map_cons, List.sum_cons]
    rcases List.mem_cons.mp hm with rfl | hm
    · have h2 := back_sum S h z.one L e hb.2
      have : z.other = v := ho v z hb.1
      subst this
      omega
    · have h1 := h v s hb.1
      have h2 := back_sum_lt S z h hz hzc s.one L e hb.2 hm ho
      omega
/-- a way back that does not go by a step goes back as before -/
theorem back_old {cm : List (Int × St5)} {z : St5} : ∀ (v : Int) (L : List St5) (e : Int), BackCh (put cm z.other z) v L e → z ∉ L → BackCh cm v L e
  | v, [], e, hb, _ => hb
  | v, s :: L, e, hb, hm => by
    obtain ⟨h1, h2⟩ := hb
    have hs : z ≠ s := fun y => hm (y ▸ List.mem_cons_self)
    rw [gt_put] at h1
    by_cases q : z.other = v
    · rw [if_pos q] at h1
      exact absurd (Option.some.inj h1) hs
    · rw [if_neg q] at h1
      exact ⟨h1, back_old _ L e h2 fun y => hm (List.mem_cons_of_mem _ y)⟩
theorem BInv.step {W : St5 → Int} {ss : List St5} {I : List (Int × Int)} {b : BS} {r : Int → Nat} {k i : Nat} {s : St5} (h : BInv W ss I b r k i) (hk : 1 ≤ k) (hs : ss[i]? = some s) : ∃ r', BInv W ss I (low1 W b s) r' k (i + 1) := by
  have hm : s ∈ ss := mem_of_get hs
  unfold low1
  cases hl : lowTo W b.sm s with
  | none =>
    refine ⟨r, h.cm, h.ini, h.le, h.neg, fun j t a hj ha hr => ?_, h.lt0, h.lt1, h.from'⟩
    by_cases q : j = i
    · subst q
      rw [hs] at hj
      cases hj
      unfold lowTo at hl
      rw [ha] at hl
      cases hc : gt b.sm s.other with
      | none => simp [hc] at hl
      | some c =>
        simp only [hc] at hl
        by_cases q2 : a + W s < c
        · rw [if_pos q2] at hl
          cases hl
        · exact ⟨c, rfl, by omega⟩
    · refine h.ok j t a hj ha ?_
      by_cases q2 : j < i
      · rw [if_pos q2]
        rw [if_pos (by omega)] at hr
        exact hr
      · rw [if_neg q2]
        rw [if_neg (by omega)] at hr
        exact hr
  | some x =>
    obtain ⟨a, ha, rfl, hdec⟩ : ∃ a, gt b.sm s.one = some a ∧ x = a + W s ∧ ∀ c, gt b.sm s.other = some c → a + W s < c := by
      unfold lowTo at hl
      cases ha : gt b.sm s.one with
      | none => simp [ha] at hl
      | some a =>
        simp only [ha] at hl
        refine ⟨a, rfl, ?_⟩
        cases hc : gt b.sm s.other with
        | none =>
          simp only [hc] at hl
          exact ⟨(Option.some.inj hl).symm, fun c z => by cases z⟩
        | some c =>
          simp only [hc] at hl
          by_cases q2 : a + W s < c
          · rw [if_pos q2] at hl
            exact ⟨(Option.some.inj hl).symm, fun c' z => by cases z; exact q2⟩
          · rw [if_neg q2] at hl
            cases hl
    -- its begin was lowered not long ago
    have hr1 : k - 1 ≤ r s.one := by
      refine Nat.le_of_not_lt fun z => ?_
      obtain ⟨c, hc, hle⟩ := h.ok i s a hs ha (by rw [if_neg (Nat.lt_irrefl i)]; exact z)
      have := hdec c hc
      omega
    let r' : Int → Nat := fun v => if s.other = v then k else r v
    have hrr : ∀ v, r v ≤ r' v := fun v => by
      show r v ≤ if s.other = v then k else r v
      split
      · exact h.le v
      · exact Nat.le_refl _
    have r'e : r' s.other = k := if_pos rfl
    have r'n : ∀ v, s.other ≠ v → r' v = r v := fun v q => if_neg q
    refine ⟨r', ?_, ?_, ?_, ?_, ?_, fun z => (Option.some_ne_none _ z).elim, ?_, ?_⟩
    · intro v t hv
      rw [gt_put] at hv
      by_cases q : s.other = v
      · subst q
        rw [if_pos rfl] at hv
        cases hv
        refine ⟨hm, rfl, ?_, ?_⟩
        · rw [r'e]
          have := hrr s.one
          omega
        · by_cases q2 : s.other = s.one
          · -- round in one step: it was lowered below itself
            refine ⟨a + W s, a + W s, by show gt (put b.sm s.other (a + W s)) s.one = _; rw [gt_put, if_pos q2], by show gt (put b.sm s.other (a + W s)) s.other = _; rw [gt_put, if_pos rfl], ?_⟩
            have := hdec a (by rw [q2]; exact ha)
            omega
          · exact ⟨a, a + W s, by show gt (put b.sm s.other (a + W s)) s.one = _; rw [gt_put, if_neg q2]; exact ha, by show gt (put b.sm s.other (a + W s)) s.other = _; rw [gt_put, if_pos rfl], Int.le_refl _⟩
      · rw [if_neg q] at hv
        obtain ⟨h1, h2, h3, a', c', h4, h5, h6⟩ := h.cm v t hv
        refine ⟨h1, h2, ?_, ?_⟩
        · rw [r'n v q]
          have := hrr t.one
          omega
        · by_cases q2 : s.other = t.one
          · refine ⟨a + W s, c', by show gt (put b.sm s.other (a + W s)) t.one = _; rw [gt_put, if_pos q2], by show gt (put b.sm s.other (a + W s)) v = _; rw [gt_put, if_neg q]; exact h5, ?_⟩
            have := hdec a' (by rw [q2]; exact h4)
            omega
          · exact ⟨a', c', by show gt (put b.sm s.other (a + W s)) t.one = _; rw [gt_put, if_neg q2]; exact h4, by show gt (put b.sm s.other (a + W s)) v = _; rw [gt_put, if_neg q]; exact h5, h6⟩
    · intro v hv
      rw [gt_put] at hv
      by_cases q : s.other = v
      · rw [if_pos q] at hv
        cases hv
      · rw [if_neg q] at hv
        have := h.ini v hv
        exact ⟨by show gt (put b.sm s.other (a + W s)) v = _; rw [gt_put, if_neg q]; exact this.1, by rw [r'n v q]; exact this.2⟩
    · intro v
      by_cases q : s.other = v
      · rw [← q, r'e]
        exact Nat.le_refl _
      · rw [r'n v q]
        exact h.le v
    · intro v L hL hb
      by_cases hz : s ∈ L
      · let S : Int → Int := fun p => (gt b.sm p).getD (a + W s + 1)
        have hSz : W s < S s.other - S s.one := by
          have e1 : S s.one = a := by show (gt b.sm s.one).getD _ = a; rw [ha]; rfl
          rw [e1]
          cases hc : gt b.sm s.other with
          | none =>
            have e2 : S s.other = a + W s + 1 := by show (gt b.sm s.other).getD _ = _; rw [hc]; rfl
            omega
          | some c =>
            have e2 : S s.other = c := by show (gt b.sm s.other).getD _ = _; rw [hc]; rfl
            have := hdec c hc
            omega
        have hall : ∀ v t, gt (put b.cm s.other s) v = some t → W t ≤ S v - S t.one := by
          intro v t hv
          rw [gt_put] at hv
          by_cases q : s.other = v
          · rw [if_pos q] at hv
            cases hv
            subst q
            omega
          · rw [if_neg q] at hv
            obtain ⟨_, _, _, a', c', h4, h5, h6⟩ := h.cm v t hv
            have e1 : S t.one = a' := by show (gt b.sm t.one).getD _ = a'; rw [h4]; rfl
            have e2 : S v = c' := by show (gt b.sm v).getD _ = c'; rw [h5]; rfl
            omega
        have := back_sum_lt S s hall hSz (by rw [gt_put, if_pos rfl]) v L v hb hz (fun v t hv => by
          rw [gt_put] at hv
          by_cases q : s.other = v
          · rw [if_pos q] at hv
            cases hv
            exact q
          · rw [if_neg q] at hv
            exact (h.cm v t hv).2.1)
        omega
      · exact h.neg v L hL (back_old v L v hb hz)
    · intro j t a' hj ha' hr
      by_cases q : s.other = t.one
      · rw [← q, r'e] at hr
        split at hr <;> omega
      · have ha0 : gt b.sm t.one = some a' := by
          have : gt (put b.sm s.other (a + W s)) t.one = some a' := ha'
          rw [gt_put, if_neg q] at this
          exact this
        rw [r'n _ q] at hr
        by_cases q3 : s.other = t.other
        · refine ⟨a + W s, by show gt (put b.sm s.other (a + W s)) t.other = _; rw [gt_put, if_pos q3], ?_⟩
          by_cases q4 : j = i
          · subst q4
            rw [hs] at hj
            cases hj
            rw [ha] at ha0
            cases ha0
            exact Int.le_refl _
          · obtain ⟨c, hc, hle⟩ := h.ok j t a' hj ha0 (by
              by_cases q5 : j < i
              · rw [if_pos q5]
                rw [if_pos (by omega)] at hr
                exact hr
              · rw [if_neg q5]
                rw [if_neg (by omega)] at hr
                exact hr)
            have := hdec c (by rw [q3]; exact hc)
            omega
        · by_cases q4 : j = i
          · subst q4
            rw [hs] at hj
            cases hj
            exact absurd rfl q3
          · obtain ⟨c, hc, hle⟩ := h.ok j t a' hj ha0 (by
              by_cases q5 : j < i
              · rw [if_pos q5]
                rw [if_pos (by omega)] at hr
                exact hr
              · rw [if_neg q5]
                rw [if_neg (by omega)] at hr
                exact hr)
            exact ⟨c, by show gt (put b.sm s.other (a + W s)) t.other = _; rw [gt_put, if_neg q3]; exact hc, hle⟩
    · intro v hv
      have : s.other = v := Option.some.inj hv
      subst this
      exact ⟨r'e, by show (gt (put b.cm s.other s) s.other).isSome = true; rw [gt_put, if_pos rfl]; rfl⟩
    · intro v hv
      have hv' : (gt (put b.sm s.other (a + W s)) v).isSome = true := hv
      rw [gt_put] at hv'
      by_cases q : s.other = v
      · obtain ⟨p, hp, hr⟩ := h.from' s.one (by rw [ha]; rfl)
        exact ⟨p, hp, .step hr (List.mem_map.mpr ⟨s, hm, by rw [q]⟩)⟩
      · rw [if_neg q] at hv'
        exact h.from' v hv'
theorem BInv.go {W : St5 → Int} {ss : List St5} {I : List (Int × Int)} {k : Nat} (hk : 1 ≤ k) : ∀ (zs : List St5) (i : Nat) (b : BS) (r : Int → Nat), ss.drop i = zs → BInv W ss I b r k i → ∃ r', BInv W ss I (zs.foldl (low1 W) b) r' k ss.length
  | [], i, b, r, e, h => by
    have hi : ss.length ≤ i := List.drop_eq_nil_iff.mp e
    refine ⟨r, h.cm, h.ini, h.le, h.neg, fun j s a hj ha hr => h.ok j s a hj ha ?_, h.lt0, h.lt1, h.from'⟩
    have jl := (List.getElem?_eq_some_iff.mp hj).1
    rw [if_pos jl] at hr
    rw [if_pos (by omega)]
    exact hr
  | z :: zs, i, b, r, e, h => by
    have hz : ss[i]? = some z := by
      have : (ss.drop i)[0]? = some z := by rw [e]; rfl
      rw [List.getElem?_drop] at this
      exact this
    obtain ⟨r', h'⟩ := h.step hk hz
    have e' : ss.drop (i + 1) = zs := by
      rw [← List.drop_drop, e]
      rfl
    exact BInv.go hk zs (i + 1) _ r' e' h'
theorem BInv.begin {W : St5 → Int} {ss : List St5} {I : List (Int × Int)} : BInv W ss I ⟨I, [], none⟩ (fun _ => 0) 1 0 := by
  refine ⟨(fun v s h => by cases h), fun v _ => ⟨rfl, rfl⟩, fun _ => Nat.zero_le _, fun v L hL hb => ?_, fun j s a _ _ hr => ?_, fun _ _ => Nat.zero_le _, (fun v h => by cases h), fun v hv => ⟨v, hv, .base (by simp)⟩⟩
  · cases L with
    | nil => exact absurd rfl hL
    | cons s L =>
      have := hb.1
      cases this
  · have h0 : (if j < 0 then 1 else 1 - 1) = 0 := by rw [if_neg (Nat.not_lt_zero j)]
    rw [h0] at hr
    exact absurd hr (Nat.not_lt_zero _)
/-- behind a round the next one begins -/
theorem BInv.next {W : St5 → Int} {ss : List St5} {I : List (Int × Int)} {b : BS} {r : Int → Nat} {k : Nat} (hk : 1 ≤ k) (h : BInv W ss I b r k ss.length) : BInv W ss I ⟨b.sm, b.cm, none⟩ r (k + 1) 0 := by
  refine ⟨h.cm, h.ini, fun v => Nat.le_succ_of_le (h.le v), h.neg, fun j s a hj ha hr => h.ok j s a hj ha ?_, fun _ v => h.le v, (fun v z => by cases z), h.from'⟩
  rw [if_neg (Nat.not_lt_zero j)] at hr
  rw [if_pos (List.getElem?_eq_some_iff.mp hj).1]
  exact hr
theorem BInv.round {W : St5 → Int} {ss : List St5} {I : List (Int × Int)} {b : BS} {r : Int → Nat} {k : Nat} (hk : 1 ≤ k) (h : BInv W ss I ⟨b.sm, b.cm, none⟩ r k 0) : ∃ r', BInv W ss I (lowR W ss b) r' k ss.length :=
  BInv.go hk ss 0 _ r rfl h
/-- where nothing was lowered all is as low as can be -/
theorem BInv.done {W : St5 → Int} {ss : List St5} {I : List (Int × Int)} {b : BS} {r : Int → Nat} {k : Nat} (hk : 1 ≤ k) (h : BInv W ss I b r k ss.length) (h0 : b.lt = none) : ∀ s ∈ ss, ∀ a, gt b.sm s.one = some a → ∃ c, gt b.sm s.other = some c ∧ c ≤ a + W s := by
  intro s hs a ha
  obtain ⟨j, hj⟩ := List.getElem?_of_mem hs
  refine h.ok j s a hj ha ?_
  rw [if_pos (List.getElem?_eq_some_iff.mp hj).1]
  have := h.lt0 h0 s.one
  omega
end AA

set_option Elab.async false
set_option linter.all false
set_option maxRecDepth 100000
set_option maxHeartbeats 4000000
/-! The way back into a ring, and when the rounds end. -/
namespace AA
open PySem PySem.Spec PyProof.Rows L2 Evl
/-- a walk of steps from a place to another one -/
def Wlk5 : Int → List St5 → Int → Prop
  | a, [], e => a = e
  | a, s :: L, e => s.one = a ∧ Wlk5 s.other L e
theorem wlk5_app : ∀ (a : Int) (L M : List St5) (e : Int), Wlk5 a (L ++ M) e ↔ ∃ m, Wlk5 a L m ∧ Wlk5 m M e
  | a, [], M, e => ⟨fun h => ⟨a, rfl, h⟩, fun ⟨m, h1, h2⟩ => by
    have : a = m := h1
    subst this
    exact h2⟩
  | a, s :: L, M, e => by
    show (s.one = a ∧ Wlk5 s.other (L ++ M) e) ↔ ∃ m, (s.one = a ∧ Wlk5 s.other L m) ∧ Wlk5 m M e
    rw [wlk5_app]
    exact ⟨fun ⟨h, m, h1, h2⟩ => ⟨m, ⟨h, h1⟩, h2⟩, fun ⟨m, ⟨h, h1⟩, h2⟩ => ⟨h, m, h1, h2⟩⟩
theorem back_app {cm : List (Int × St5)} : ∀ (v : Int) (L M : List St5) (e : Int), BackCh cm v (L ++ M) e ↔ ∃ m, BackCh cm v L m ∧ BackCh cm m M e
  | v, [], M, e => ⟨fun h => ⟨v, rfl, h⟩, fun ⟨m, h1, h2⟩ => by
    have : v = m := h1
    subst this
    exact h2⟩
  | v, s :: L, M, e => by
    show (gt cm v = some s ∧ BackCh cm s.one (L ++ M) e) ↔ ∃ m, (gt cm v = some s ∧ BackCh cm s.one L m) ∧ BackCh cm m M e
    rw [back_app]
    exact ⟨fun ⟨h, m, h1, h2⟩ => ⟨m, ⟨h, h1⟩, h2⟩, fun ⟨m, ⟨h, h1⟩, h2⟩ => ⟨h, m, h1, h2⟩⟩
theorem back_walk {cm : List (Int × St5)} (ho : ∀ v s, gt cm v = some s → s.other = v) : ∀ (v : Int) (L : List St5) (e : Int), BackCh cm v L e → Wlk5 e L.reverse v
  | v, [], e, h => h.symm
  | v, s :: L, e, h => by
    rw [List.reverse_cons, wlk5_app]
    exact ⟨s.one, back_walk ho s.one L e h.2, rfl, ho v s h.1⟩
/-- a ring among steps -/
structure IsRg (ss ws : List St5) : Prop where
  ne : ws ≠ []
  sub : ∀ s ∈ ws, s ∈ ss
  round : ∃ p, Wlk5 p ws p
  nd : (ws.map (·.other)).Nodup
/-! ### the way back -/
def trl (cm : List (Int × St5)) : Nat → List Int → Int → List Int × Int
  | 0, seen, p => (seen, p)
  | f + 1, seen, p => match gt cm p with
    | none => (seen, p)
    | some s => if p ∈ seen then (seen, p) else trl cm f (seen ++ [p]) s.one
def rg (cm : List (Int × St5)) (p : Int) : Nat → St5 → List St5
  | 0, s => [s]
  | f + 1, s => if s.one = p then [s] else match gt cm s.one with
    | none => [s]
    | some t => s :: rg cm p f t
def rbk (cm : List (Int × St5)) (v : Int) : Option (List St5) :=
  match gt cm (trl cm 64 [] v).2 with
  | none => none
  | some s => some (rg cm (trl cm 64 [] v).2 64 s).reverse
/-- where the way back has come -/
structure Trl (cm : List (Int × St5)) (v : Int) (seen : List Int) (p : Int) : Prop where
  nd : seen.Nodup
  sub : ∀ q ∈ seen, (gt cm q).isSome = true
  way : ∃ L, L.map (·.other) = seen ∧ BackCh cm v L p
theorem Trl.nil {cm : List (Int × St5)} {v : Int} : Trl cm v [] v := ⟨List.nodup_nil, fun q h => absurd h (by simp), [], rfl, rfl⟩
theorem Trl.more {cm : List (Int × St5)} (ho : ∀ v s, gt cm v = some s → s.other = v) {v p : Int} {seen : List Int} {s : St5} (h : Trl cm v seen p) (hp : gt cm p = some s) (hn : p ∉ seen) : Trl cm v (seen ++ [p]) s.one := by
  obtain ⟨L, h1, h2⟩ := h.way
  refine ⟨List.nodup_append.mpr ⟨h.nd, by simp, fun x hx y hy e => hn (by rw [List.mem_singleton.mp hy] at e; exact e ▸ hx)⟩, fun q hq => ?_, L ++ [s], ?_, ?_⟩
  · rcases List.mem_append.mp hq with hq | hq
    · exact h.sub q hq
    · rw [List.mem_singleton.mp hq, hp]
      rfl
  · rw [List.map_append, h1]
    show seen ++ [s.other] = _
    rw [ho p s hp]
  · rw [back_app]
    exact ⟨p, h2, hp, rfl⟩
theorem Trl.len {cm : List (Int × St5)} {v p : Int} {seen : List Int} (h : Trl cm v seen p) : seen.length ≤ cm.length := by
  have := nd_len seen (cm.map (·.1)) h.nd fun q hq => gt_mem.mp (h.sub q hq)
  rw [List.length_map] at this
  exact this
/-- with enough turns it comes to an end -/
theorem trl_end {cm : List (Int × St5)} (ho : ∀ v s, gt cm v = some s → s.other = v) {v : Int} : ∀ (f : Nat) (seen : List Int) (p : Int), Trl cm v seen p → cm.length + 1 ≤ f + seen.length →
    Trl cm v (trl cm f seen p).1 (trl cm f seen p).2 ∧ ((gt cm (trl cm f seen p).2) = none ∨ (trl cm f seen p).2 ∈ (trl cm f seen p).1)
  | 0, seen, p, h, hf => by
    have := h.len
    omega
  | f + 1, seen, p, h, hf => by
    unfold trl
    cases hg : gt cm p with
    | none => exact ⟨h, .inl hg⟩
    | some s =>
      show Trl cm v (if p ∈ seen then (seen, p) else trl cm f (seen ++ [p]) s.one).1 (if p ∈ seen then (seen, p) else trl cm f (seen ++ [p]) s.one).2 ∧ _
      by_cases q : p ∈ seen
      · simp only [if_pos q]
        exact ⟨h, .inr q⟩
      · simp only [if_neg q]
        exact trl_end ho f _ _ (h.more ho hg q) (by rw [List.length_append, List.length_singleton]; omega)
theorem rg_of {cm : List (Int × St5)} (ho : ∀ v s, gt cm v = some s → s.other = v) {p : Int} : ∀ (f : Nat) (q : Int) (s : St5) (L : List St5), BackCh cm q (s :: L) p → (∀ t ∈ L, t.other ≠ p) → L.length ≤ f → rg cm p f s = s :: L
  | 0, q, s, L, h, hn, hf => by
    obtain rfl : L = [] := List.length_eq_zero_iff.mp (by omega)
    rfl
  | f + 1, q, s, [], h, hn, hf => by
    have : s.one = p := h.2
    unfold rg
    rw [if_pos this]
  | f + 1, q, s, t :: L, h, hn, hf => by
    have h2 := h.2
    have h3 : gt cm s.one = some t := h2.1
    have h4 := ho _ _ h3
    unfold rg
    rw [if_neg (by rw [← h4]; exact hn t List.mem_cons_self), h3]
    show s :: rg cm p f t = _
    rw [rg_of ho f s.one t L h2 (fun u hu => hn u (List.mem_cons_of_mem _ hu)) (by rw [List.length_cons] at hf; omega)]
/-- what stands of the way back where it has come into itself -/
theorem Trl.ring {cm : List (Int × St5)} (ho : ∀ v s, gt cm v = some s → s.other = v) {v p : Int} {seen : List Int} (h : Trl cm v seen p) (hp : p ∈ seen) : ∃ s L, gt cm p = some s ∧ BackCh cm p (s :: L) p ∧ (∀ t ∈ L, t.other ≠ p) ∧ ((s :: L).map (·.other)).Nodup ∧ (s :: L).length ≤ seen.length := by
  obtain ⟨M, h1, h2⟩ := h.way
  rw [← h1] at hp
  obtain ⟨s, hs, es⟩ := List.mem_map.mp hp
  obtain ⟨A, B, rfl⟩ := List.append_of_mem hs
  obtain ⟨m, h3, h4⟩ := (back_app v A (s :: B) p).mp h2
  have h5 : gt cm m = some s := h4.1
  have h6 : m = p := by rw [← es, ho m s h5]
  subst h6
  have hnd := h.nd
  rw [← h1, List.map_append] at hnd
  have hnd2 := (List.nodup_append.mp hnd).2.1
  refine ⟨s, B, h5, h4, fun t ht e => ?_, hnd2, ?_⟩
  · rw [List.map_cons] at hnd2
    refine (List.nodup_cons.mp hnd2).1 ?_
    rw [es, ← e]
    exact List.mem_map.mpr ⟨t, ht, rfl⟩
  · rw [← h1, List.length_map, List.length_append]
    omega
/-- the ring that is told is one, and comes to less than nothing -/
theorem rbk_ring {W : St5 → Int} {ss : List St5} {I : List (Int × Int)} {b : BS} {r : Int → Nat} {k i : Nat} (h : BInv W ss I b r k i) (hz : b.cm.length ≤ 63) {v : Int} {ws : List St5} (hr : rbk b.cm v = some ws) : IsRg ss ws ∧ (ws.map W).sum < 0 ∧ ∀ s ∈ ws, (gt b.sm s.one).isSome = true := by
  have ho : ∀ v s, gt b.cm v = some s → s.other = v := fun v s hv => (h.cm v s hv).2.1
  obtain ⟨h1, h2⟩ := trl_end ho 64 [] v .nil (by show _ ≤ 64 + 0; omega)
  unfold rbk at hr
  generalize (trl b.cm 64 [] v).1 = seen at h1 h2
  generalize (trl b.cm 64 [] v).2 = p at h1 h2 hr
  rcases h2 with h2 | h2
  · rw [h2] at hr
    cases hr
  obtain ⟨s, L, g1, g2, g3, g4, g5⟩ := h1.ring ho h2
  have hl := h1.len
  rw [g1] at hr
  have hr' : some (rg b.cm p 64 s).reverse = some ws := hr
  rw [rg_of ho 64 p s L g2 g3 (by rw [List.length_cons] at g5; omega)] at hr'
  obtain rfl := Option.some.inj hr'
  have hsub : ∀ t ∈ (s :: L), t ∈ ss ∧ (gt b.sm t.one).isSome = true := by
    have : ∀ (M : List St5) (q e : Int), BackCh b.cm q M e → ∀ t ∈ M, t ∈ ss ∧ (gt b.sm t.one).isSome = true := by
      intro M
      induction M with
      | nil => exact fun q e _ t ht => absurd ht (by simp)
      | cons x M ih =>
        intro q e hb t ht
        rcases List.mem_cons.mp ht with rfl | ht
        · obtain ⟨q1, _, _, a, c, q2, _⟩ := h.cm q t hb.1
          exact ⟨q1, by rw [q2]; rfl⟩
        · exact ih _ _ hb.2 t ht
    exact this _ p p g2
  refine ⟨⟨by simp, fun t ht => (hsub t (List.mem_reverse.mp ht)).1, ⟨p, back_walk ho p _ p g2⟩, ?_⟩, ?_, fun t ht => (hsub t (List.mem_reverse.mp ht)).2⟩
  · rw [List.map_reverse]
    exact List.pairwise_reverse.mpr (List.Pairwise.imp (fun q => Ne.symm q) g4)
  · rw [List.map_reverse, List.sum_reverse]
    exact h.neg p _ (by simp) g2
/-- how late the places of a way back were lowered -/
theorem back_late {cm : List (Int × St5)} {r : Int → Nat} (h : ∀ v s, gt cm v = some s → r v ≤ r s.one + 1) : ∀ (v : Int) (L : List St5) (e : Int), BackCh cm v L e → r v ≤ r e + L.length
  | v, [], e, hb => by
    have : v = e := hb
    subst this
    exact Nat.le_refl _
  | v, s :: L, e, hb => by
    have h1 := h v s hb.1
    have h2 := back_late h s.one L e hb.2
    rw [List.length_cons]
    omega
/-- where there is no ring yet the round is not yet a late one -/
theorem rbk_none {W : St5 → Int} {ss : List St5} {I : List (Int × Int)} {b : BS} {r : Int → Nat} {k i : Nat} {U : List Int} (h : BInv W ss I b r k i) (hU : ∀ v, (gt b.sm v).isSome = true → v ∈ U) (hz : U.length ≤ 63) {v : Int} (hv : b.lt = some v) (hn : b.cm.length ≤ 63) (hr : rbk b.cm v = none) : k < U.length := by
  have ho : ∀ v s, gt b.cm v = some s → s.other = v := fun v s hv => (h.cm v s hv).2.1
  obtain ⟨h1, h2⟩ := trl_end ho 64 [] v .nil (by show _ ≤ 64 + 0; omega)
  unfold rbk at hr
  generalize (trl b.cm 64 [] v).1 = seen at h1 h2
  generalize (trl b.cm 64 [] v).2 = p at h1 h2 hr
  have hp : gt b.cm p = none := by
    cases hg : gt b.cm p with
    | none => rfl
    | some s =>
      rw [hg] at hr
      cases hr
  obtain ⟨hk, hsv⟩ := h.lt1 v hv
  obtain ⟨L, e1, e2⟩ := h1.way
  have hl := back_late (fun v s hv => (h.cm v s hv).2.2.1) v L p e2
  have hp0 := (h.ini p hp).2
  have hLs : L.length = seen.length := by rw [← e1, List.length_map]
  -- the end is a begin, and has a sum
  have hpU : p ∈ U := by
    have hne : L ≠ [] := by
      intro e
      rw [e] at e2
      have : v = p := e2
      rw [this, hp] at hsv
      cases hsv
    obtain ⟨M, t, rfl⟩ : ∃ M t, L = M ++ [t] := ⟨L.dropLast, L.getLast hne, (List.dropLast_concat_getLast hne).symm⟩
    obtain ⟨m, _, g1, g2⟩ := (back_app v M [t] p).mp e2
    obtain ⟨_, _, _, a, c, q2, _⟩ := h.cm m t g1
    have : t.one = p := g2
    rw [this] at q2
    exact hU p (by rw [q2]; rfl)
  have hsU : ∀ q ∈ seen, q ∈ U := fun q hq => by
    have := h1.sub q hq
    cases hg : gt b.cm q with
    | none =>
      rw [hg] at this
      cases this
    | some s =>
      obtain ⟨_, _, _, a, c, _, q2, _⟩ := h.cm q s hg
      exact hU q (by rw [q2]; rfl)
  have hpn : p ∉ seen := fun z => by
    have := h1.sub p z
    rw [hp] at this
    cases this
  have := nd_len (seen ++ [p]) U (List.nodup_append.mpr ⟨h1.nd, by simp, fun x hx y hy e => hpn (by rw [List.mem_singleton.mp hy] at e; exact e ▸ hx)⟩) fun q hq => (List.mem_append.mp hq).elim (hsU q) fun z => by rw [List.mem_singleton.mp z]; exact hpU
  rw [List.length_append, List.length_singleton] at this
  omega
/-! ### all rounds -/
def sor (W : St5 → Int) (ss : List St5) : Nat → BS → List (Int × Int) × Option (List St5)
  | 0, b => (b.sm, none)
  | f + 1, b => match b.lt with
    | none => (b.sm, none)
    | some v => match rbk b.cm v with
      | some ws => (b.sm, some ws)
      | none => sor W ss f (lowR W ss b)
def sorT (W : St5 → Int) (ss : List St5) (I : List (Int × Int)) : List (Int × Int) × Option (List St5) := sor W ss 64 (lowR W ss ⟨I, [], none⟩)
/-- what comes of it -/
structure SorOk (W : St5 → Int) (ss : List St5) (I : List (Int × Int)) (o : List (Int × Int) × Option (List St5)) : Prop where
  ring : ∀ ws, o.2 = some ws → IsRg ss ws ∧ (ws.map W).sum < 0 ∧ ∀ s ∈ ws, ∃ p, (gt I p).isSome = true ∧ Rch (ss.map fun s => (s.one, s.other)) [p] s.one
  sums : o.2 = none → (∀ v, (gt o.1 v).isSome = true → ∃ p, (gt I p).isSome = true ∧ Rch (ss.map fun s => (s.one, s.other)) [p] v) ∧ (∀ v, (gt I v).isSome = true → (gt o.1 v).isSome = true) ∧ ∀ s ∈ ss, ∀ a, gt o.1 s.one = some a → ∃ c, gt o.1 s.other = some c ∧ c ≤ a + W s
theorem low1_len {W : St5 → Int} {b : BS} {s : St5} : (low1 W b s).sm.length ≤ b.sm.length + 1 ∧ (low1 W b s).cm.length ≤ b.cm.length + 1 := by
  unfold low1
  split
  · exact ⟨Nat.le_succ _, Nat.le_succ _⟩
  · exact ⟨put_len _, put_len _⟩
/-- keys stand once each -/
def KOk (b : BS) : Prop := (b.sm.map (·.1)).Nodup ∧ (b.cm.map (·.1)).Nodup
theorem put_nd {α : Type} {l : List (Int × α)} {p : Int} {x : α} (h : (l.map (·.1)).Nodup) : ((put l p x).map (·.1)).Nodup := by
  rw [put_keys]
  split
  · exact h
  · exact List.nodup_append.mpr ⟨h, by simp, fun x hx y hy e => by
      rw [List.mem_singleton.mp hy] at e
      exact absurd (e ▸ hx) ‹_›⟩
theorem KOk.low1 {W : St5 → Int} {b : BS} {s : St5} (h : KOk b) : KOk (low1 W b s) := by
  unfold AA.low1
  split
  · exact h
  · exact ⟨put_nd h.1, put_nd h.2⟩
theorem KOk.fold {W : St5 → Int} : ∀ (zs : List St5) (b : BS), KOk b → KOk (zs.foldl (AA.low1 W) b)
  | [], _, h => h
  | z :: zs, b, h => KOk.fold zs _ h.low1
/-- no more than there are places -/
theorem BInv.few {W : St5 → Int} {ss : List St5} {I : List (Int × Int)} {b : BS} {r : Int → Nat} {k i : Nat} {U : List Int} (h : BInv W ss I b r k i) (ho : KOk b) (hU : ∀ v, (gt b.sm v).isSome = true → v ∈ U) : b.sm.length ≤ U.length ∧ b.cm.length ≤ U.length := by
  have h1 := nd_len (b.sm.map (·.1)) U ho.1 fun q hq => hU q (gt_mem.mpr hq)
  have h2 := nd_len (b.cm.map (·.1)) U ho.2 fun q hq => by
    cases hg : gt b.cm q with
    | none =>
      have := gt_mem.mpr hq
      rw [hg] at this
      cases this
    | some s =>
      obtain ⟨_, _, _, a, c, _, q2, _⟩ := h.cm q s hg
      exact hU q (by rw [q2]; rfl)
  rw [List.length_map] at h1 h2
  exact ⟨h1, h2⟩
theorem BInv.inU {W : St5 → Int} {ss : List St5} {I : List (Int × Int)} {b : BS} {r : Int → Nat} {k i : Nat} {U : List Int} (h : BInv W ss I b r k i) (h1 : ∀ p, (gt I p).isSome = true → p ∈ U) (h2 : ∀ s ∈ ss, s.other ∈ U) : ∀ v, (gt b.sm v).isSome = true → v ∈ U := fun v hv => by
  obtain ⟨p, hp, hr⟩ := h.from' v hv
  refine hr.in (fun x hx => by rw [List.mem_singleton.mp hx]; exact h1 p hp) fun a c hac => ?_
  obtain ⟨s, hs, e⟩ := List.mem_map.mp hac
  cases e
  exact h2 s hs
/-- what stands of the begins stays -/
theorem low1_keep {W : St5 → Int} {b : BS} {s : St5} {v : Int} (h : (gt b.sm v).isSome = true) : (gt (low1 W b s).sm v).isSome = true := by
  unfold low1
  split
  · exact h
  · show (gt (put _ _ _) v).isSome = true
    rw [gt_put]
    split
    · rfl
    · exact h
theorem fold_keep {W : St5 → Int} {v : Int} : ∀ (zs : List St5) (b : BS), (gt b.sm v).isSome = true → (gt (zs.foldl (low1 W) b).sm v).isSome = true
  | [], _, h => h
  | z :: zs, b, h => fold_keep zs _ (low1_keep h)
theorem sor_ok {W : St5 → Int} {ss : List St5} {I : List (Int × Int)} {U : List Int} (h1 : ∀ p, (gt I p).isSome = true → p ∈ U) (h2 : ∀ s ∈ ss, s.other ∈ U) (hz : U.length ≤ 63) : ∀ (f : Nat) (b : BS) (r : Int → Nat) (k : Nat), 1 ≤ k → BInv W ss I b r k ss.length → KOk b → (∀ v, (gt I v).isSome = true → (gt b.sm v).isSome = true) → U.length < f + k → k ≤ U.length → SorOk W ss I (sor W ss f b)
  | 0, b, r, k, hk, h, ho, hI, hf, hkU => by omega
  | f + 1, b, r, k, hk, h, ho, hI, hf, hkU => by
    have hU := h.inU h1 h2
    have hfew := h.few ho hU
    unfold sor
    cases hl : b.lt with
    | none => exact ⟨fun ws z => (by cases z), fun _ => ⟨h.from', hI, h.done hk hl⟩⟩
    | some v =>
      show SorOk W ss I (match rbk b.cm v with | some ws => (b.sm, some ws) | none => sor W ss f (lowR W ss b))
      cases hr : rbk b.cm v with
      | some ws =>
        obtain ⟨g1, g2, g3⟩ := rbk_ring h (by omega) hr
        refine ⟨fun ws' z => ?_, fun z => by cases z⟩
        obtain rfl : ws = ws' := Option.some.inj z
        exact ⟨g1, g2, fun s hs => h.from' s.one (g3 s hs)⟩
      | none =>
        have hlt := rbk_none h hU hz hl (by omega) hr
        obtain ⟨r', h'⟩ := (h.next hk).round (b := b) (Nat.le_succ_of_le hk)
        exact sor_ok h1 h2 hz f _ r' (k + 1) (Nat.le_succ_of_le hk) h' (KOk.fold ss _ ho) (fun v hv => fold_keep ss _ (hI v hv)) (by omega) (by omega)
theorem sorT_ok {W : St5 → Int} {ss : List St5} {I : List (Int × Int)} {U : List Int} (h0 : (I.map (·.1)).Nodup) (h1 : ∀ p, (gt I p).isSome = true → p ∈ U) (h2 : ∀ s ∈ ss, s.other ∈ U) (hz : U.length ≤ 63) (hU : 1 ≤ U.length) : SorOk W ss I (sorT W ss I) := by
  obtain ⟨r', h'⟩ := BInv.begin.round (W := W) (ss := ss) (I := I) (b := ⟨I, [], none⟩) (Nat.le_refl 1)
  exact sor_ok h1 h2 hz 64 _ r' 1 (Nat.le_refl 1) h' (KOk.fold ss _ ⟨h0, List.nodup_nil⟩) (fun v hv => fold_keep ss _ hv) (by omega) hU
end AA

set_option Elab.async false
set_option linter.all false
set_option maxRecDepth 100000
set_option maxHeartbeats 4000000
/-! The cheapest ring, without a heap. -/
namespace AA
open PySem PySem.Spec PyProof.Rows L2 Evl
/-- what a step costs above a rate, as often as its bottom -/
def wAb (pr rt : Int × Int) (s : St5) : Int := rt.2 * pr.1 * s.p + rt.2 * pr.2 * s.q - rt.1 * s.ticks
/-- what a step costs -/
def cOf (pr : Int × Int) (s : St5) : Int := pr.1 * s.p + pr.2 * s.q
def cSum (pr : Int × Int) (ws : List St5) : Int := pr.1 * (ws.map (·.p)).sum + pr.2 * (ws.map (·.q)).sum
def tSum (ws : List St5) : Int := (ws.map (·.ticks)).sum
theorem cSum_cons (pr : Int × Int) (s : St5) (ws : List St5) : cSum pr (s :: ws) = cOf pr s + cSum pr ws := by
  unfold cSum cOf
  rw [List.map_cons, List.map_cons, List.sum_cons, List.sum_cons, Int.mul_add, Int.mul_add]
  omega
theorem tSum_cons (s : St5) (ws : List St5) : tSum (s :: ws) = s.ticks + tSum ws := rfl
theorem wAb_eq (pr rt : Int × Int) (s : St5) : wAb pr rt s = rt.2 * cOf pr s - rt.1 * s.ticks := by
  unfold wAb cOf
  rw [Int.mul_add, ← Int.mul_assoc, ← Int.mul_assoc]
theorem wAb_sum (pr rt : Int × Int) : ∀ ws : List St5, (ws.map (wAb pr rt)).sum = rt.2 * cSum pr ws - rt.1 * tSum ws
  | [] => by simp [cSum, tSum]
  | s :: ws => by
    rw [List.map_cons, List.sum_cons, wAb_sum pr rt ws, cSum_cons, tSum_cons, wAb_eq, Int.mul_add, Int.mul_add]
    omega
/-! ### sums over some of the steps -/
theorem perm_sum {l m : List Int} (h : l.Perm m) : l.sum = m.sum := by
  induction h with
  | nil => rfl
  | cons x _ ih => rw [List.sum_cons, List.sum_cons, ih]
  | swap x y l =>
    simp only [List.sum_cons]
    omega
  | trans _ _ h1 h2 => rw [h1, h2]
theorem sum_sub {f : St5 → Int} : ∀ (ws ss : List St5), ws.Nodup → (∀ s ∈ ws, s ∈ ss) → (∀ s ∈ ss, 0 ≤ f s) → (ws.map f).sum ≤ (ss.map f).sum
  | [], [], _, _, _ => Int.le_refl _
  | [], s :: ss, _, _, h => by
    have := sum_sub (f := f) [] ss List.nodup_nil (fun s h => absurd h (by simp)) fun t ht => h t (List.mem_cons_of_mem _ ht)
    have h0 := h s List.mem_cons_self
    rw [List.map_cons, List.sum_cons]
    simp only [List.map_nil, List.sum_nil] at this ⊢
    omega
  | w :: ws, ss, hn, hs, h => by
    have hn' := List.nodup_cons.mp hn
    have hw := hs w List.mem_cons_self
    have ih := sum_sub (f := f) ws (ss.erase w) hn'.2 (fun y hy => (List.mem_erase_of_ne fun (e : y = w) => hn'.1 (e ▸ hy)).mpr (hs y (List.mem_cons_of_mem _ hy))) fun s hs => h s (List.mem_of_mem_erase hs)
    have hp := List.perm_cons_erase hw
    have e : (ss.map f).sum = ((w :: ss.erase w).map f).sum := perm_sum (hp.map f)
    rw [e, List.map_cons, List.map_cons, List.sum_cons, List.sum_cons]
    omega
theorem IsRg.nds {ss ws : List St5} (h : IsRg ss ws) : ws.Nodup := List.Pairwise.imp (fun q e => q (by rw [e])) (List.pairwise_map.mp h.nd)
/-! ### heights show that no ring is below -/
theorem feas_walk {W : St5 → Int} {ss : List St5} {sm : List (Int × Int)} (h : ∀ s ∈ ss, ∀ a, gt sm s.one = some a → ∃ c, gt sm s.other = some c ∧ c ≤ a + W s) : ∀ (a : Int) (L : List St5) (e x : Int), Wlk5 a L e → (∀ s ∈ L, s ∈ ss) → gt sm a = some x → ∃ y, gt sm e = some y ∧ y ≤ x + (L.map W).sum
  | a, [], e, x, hw, _, hx => by
    have : a = e := hw
    subst this
    exact ⟨x, hx, by simp⟩
  | a, s :: L, e, x, hw, hs, hx => by
    obtain ⟨h1, h2⟩ := hw
    rw [← h1] at hx
    obtain ⟨c, hc, hle⟩ := h s (hs s List.mem_cons_self) x hx
    obtain ⟨y, hy, hle2⟩ := feas_walk h s.other L e c h2 (fun t ht => hs t (List.mem_cons_of_mem _ ht)) hc
    refine ⟨y, hy, ?_⟩
    rw [List.map_cons, List.sum_cons]
    omega
theorem feas_rch {W : St5 → Int} {ss : List St5} {sm : List (Int × Int)} (h : ∀ s ∈ ss, ∀ a, gt sm s.one = some a → ∃ c, gt sm s.other = some c ∧ c ≤ a + W s) {p v : Int} (hp : (gt sm p).isSome = true) (hr : Rch (ss.map fun s => (s.one, s.other)) [p] v) : (gt sm v).isSome = true := by
  induction hr with
  | base hm => rw [List.mem_singleton.mp hm]; exact hp
  | step _ he ih =>
    obtain ⟨s, hs, e⟩ := List.mem_map.mp he
    cases e
    cases hg : gt sm s.one with
    | none =>
      rw [hg] at ih
      cases ih
    | some a =>
      obtain ⟨c, hc, _⟩ := h s hs a hg
      rw [hc]
      rfl
/-- a ring that one can come to from a place -/
def RgFrom (ss : List St5) (p : Int) (ws : List St5) : Prop := IsRg ss ws ∧ ∀ s ∈ ws, Rch (ss.map fun s => (s.one, s.other)) [p] s.one
theorem feas_ring {W : St5 → Int} {ss : List St5} {sm : List (Int × Int)} (h : ∀ s ∈ ss, ∀ a, gt sm s.one = some a → ∃ c, gt sm s.other = some c ∧ c ≤ a + W s) {p : Int} (hp : (gt sm p).isSome = true) {ws : List St5} (hr : RgFrom ss p ws) : 0 ≤ (ws.map W).sum := by
  obtain ⟨q, hq⟩ := hr.1.round
  obtain ⟨s, L, rfl⟩ : ∃ s L, ws = s :: L := by
    cases hws : ws with
    | nil => exact absurd hws hr.1.ne
    | cons s L => exact ⟨s, L, rfl⟩
  have h1 := feas_rch h hp (hr.2 s List.mem_cons_self)
  have h2 : s.one = q := hq.1
  rw [h2] at h1
  cases hg : gt sm q with
  | none =>
    rw [hg] at h1
    cases h1
  | some x =>
    obtain ⟨y, hy, hle⟩ := feas_walk h q _ q x hq hr.1.sub hg
    rw [hg] at hy
    cases hy
    omega
/-! ### ever cheaper rings -/
def chp (ss : List St5) (p : Int) (pr : Int × Int) : Nat → Int × Int → Option (List St5) → Option (List St5)
  | 0, _, best => best
  | f + 1, rt, best => match (sorT (wAb pr rt) ss [(p, 0)]).2 with
    | none => best
    | some ws => chp ss p pr f (cSum pr ws, tSum ws) (some ws)
/-! ### this comes to an end -/
def fac : Nat → Nat
  | 0 => 1
  | n + 1 => (n + 1) * fac n
theorem fac_pos : ∀ n, 1 ≤ fac n
  | 0 => Nat.le_refl 1
  | n + 1 => Nat.mul_pos (Nat.succ_pos n) (fac_pos n)
theorem fac_dvd {b : Nat} (h0 : 1 ≤ b) : ∀ n, b ≤ n → b ∣ fac n
  | 0, h => by omega
  | n + 1, h => by
    by_cases q : b = n + 1
    · rw [q]
      exact Nat.dvd_mul_right _ _
    · exact Nat.dvd_trans (fac_dvd h0 n (by omega)) (Nat.dvd_mul_left _ _)
def bigA (pr : Int × Int) (ss : List St5) : Int := (ss.map fun s => ((cOf pr s).natAbs : Int)).sum
def bigD (ss : List St5) : Int := (fac (tSum ss).toNat : Nat)
theorem bigD_pos (ss : List St5) : 1 ≤ bigD ss := by
  have := fac_pos (tSum ss).toNat
  unfold bigD
  omega
def mesr (ss : List St5) (pr rt : Int × Int) : Int := rt.1 * (bigD ss / rt.2) + bigA pr ss * bigD ss
/-- a rate whose bottom divides -/
def RtOk (ss : List St5) (pr rt : Int × Int) : Prop := 1 ≤ rt.2 ∧ (∃ e, 1 ≤ e ∧ e ≤ bigD ss ∧ bigD ss = rt.2 * e) ∧ - bigA pr ss ≤ rt.1
theorem bigA_nn (pr : Int × Int) : ∀ ss : List St5, 0 ≤ bigA pr ss
  | [] => Int.le_refl _
  | s :: ss => by
    have := bigA_nn pr ss
    unfold bigA at this ⊢
    rw [List.map_cons, List.sum_cons]
    omega
theorem RtOk.div {ss : List St5} {pr rt : Int × Int} (h : RtOk ss pr rt) : ∃ e, 1 ≤ e ∧ e ≤ bigD ss ∧ bigD ss = rt.2 * e ∧ bigD ss / rt.2 = e := by
  obtain ⟨h1, ⟨e, h2, h3, h4⟩, _⟩ := h
  refine ⟨e, h2, h3, h4, ?_⟩
  rw [h4]
  exact Int.mul_ediv_cancel_left e (by omega)
theorem RtOk.nn {ss : List St5} {pr rt : Int × Int} (h : RtOk ss pr rt) : 0 ≤ mesr ss pr rt := by
  obtain ⟨e, h2, h3, h4, h5⟩ := h.div
  have h6 := h.2.2
  have hA := bigA_nn pr ss
  unfold mesr
  rw [h5]
  have g1 : -bigA pr ss * e ≤ rt.1 * e := Int.mul_le_mul_of_nonneg_right h6 (by omega)
  have g2 : bigA pr ss * e ≤ bigA pr ss * bigD ss := Int.mul_le_mul_of_nonneg_left h3 hA
  have g3 : -bigA pr ss * e = -(bigA pr ss * e) := Int.neg_mul _ _
  omega
theorem RtOk.lt {ss : List St5} {pr rt rt' : Int × Int} (h : RtOk ss pr rt) (h' : RtOk ss pr rt') (hlt : rt'.1 * rt.2 < rt.1 * rt'.2) : mesr ss pr rt' < mesr ss pr rt := by
  obtain ⟨e, h2, h3, h4, h5⟩ := h.div
  obtain ⟨e', h2', h3', h4', h5'⟩ := h'.div
  unfold mesr
  rw [h5, h5']
  have hD := bigD_pos ss
  have g : rt'.1 * e' < rt.1 * e := by
    refine Int.lt_of_mul_lt_mul_left (a := bigD ss) ?_ (by omega)
    have k1 : bigD ss * (rt'.1 * e') = rt'.1 * rt.2 * (e * e') := by
      rw [h4]
      simp only [Int.mul_assoc, Int.mul_comm, Int.mul_left_comm]
    have k2 : bigD ss * (rt.1 * e) = rt.1 * rt'.2 * (e * e') := by
      rw [h4']
      simp only [Int.mul_assoc, Int.mul_comm, Int.mul_left_comm]
    rw [k1, k2]
    exact Int.mul_lt_mul_of_pos_right hlt (Int.mul_pos (by omega) (by omega))
  omega
theorem cSum_ge (pr : Int × Int) : ∀ ws : List St5, -(ws.map fun s => ((cOf pr s).natAbs : Int)).sum ≤ cSum pr ws
  | [] => by simp [cSum]
  | s :: ws => by
    have := cSum_ge pr ws
    rw [cSum_cons, List.map_cons, List.sum_cons]
    omega
theorem tSum_ge : ∀ ws : List St5, (∀ s ∈ ws, 1 ≤ s.ticks) → (ws.length : Int) ≤ tSum ws
  | [], _ => Int.le_refl _
  | s :: ws, h => by
    have := tSum_ge ws fun t ht => h t (List.mem_cons_of_mem _ ht)
    have h1 := h s List.mem_cons_self
    rw [tSum_cons, List.length_cons]
    omega
theorem IsRg.rt {ss ws : List St5} {pr : Int × Int} (h : IsRg ss ws) (ht : ∀ s ∈ ss, 1 ≤ s.ticks) : RtOk ss pr (cSum pr ws, tSum ws) := by
  have h1 := tSum_ge ws fun s hs => ht s (h.sub s hs)
  have hl : 1 ≤ ws.length := List.length_pos_iff.mpr h.ne
  have h2 : tSum ws ≤ tSum ss := sum_sub (f := (·.ticks)) ws ss h.nds h.sub fun s hs => by have := ht s hs; omega
  have h3 : (ws.map fun s => ((cOf pr s).natAbs : Int)).sum ≤ bigA pr ss := sum_sub (f := fun s => ((cOf pr s).natAbs : Int)) ws ss h.nds h.sub fun s _ => by omega
  have h4 := cSum_ge pr ws
  refine ⟨by show 1 ≤ tSum ws; omega, ?_, by show -bigA pr ss ≤ cSum pr ws; omega⟩
  obtain ⟨e, he⟩ := fac_dvd (b := (tSum ws).toNat) (by omega) (tSum ss).toNat (by omega)
  have hp := fac_pos (tSum ss).toNat
  have he0 : 1 ≤ e := by
    refine Nat.pos_of_ne_zero fun z => ?_
    rw [z] at he
    omega
  have hle : e ≤ fac (tSum ss).toNat := by
    rw [he]
    exact Nat.le_mul_of_pos_left _ (by omega)
  refine ⟨e, by omega, by unfold bigD; omega, ?_⟩
  have hb : ((tSum ws).toNat : Int) = tSum ws := Int.toNat_of_nonneg (by omega)
  unfold bigD
  rw [he, Int.natCast_mul, hb]
/-- how many turns are enough -/
def chF (ss : List St5) (pr : Int × Int) (t0 : Int) : Nat := (mesr ss pr (t0, 1)).toNat + 1
structure ChOk (ss : List St5) (p : Int) (pr : Int × Int) (o : Option (List St5)) : Prop where
  none' : o = none → ∀ R, ¬ RgFrom ss p R
  some' : ∀ ws, o = some ws → RgFrom ss p ws ∧ ∀ R, RgFrom ss p R → cSum pr ws * tSum R ≤ cSum pr R * tSum ws
theorem chp_ok {ss : List St5} {p : Int} {pr : Int × Int} {U : List Int} (t0 : Int) (ht : ∀ s ∈ ss, 1 ≤ s.ticks) (hdear : ∀ s ∈ ss, cOf pr s < t0) (h00 : 0 ≤ t0) (hp : p ∈ U) (hU : ∀ s ∈ ss, s.other ∈ U) (hz : U.length ≤ 63) :
    ∀ (f : Nat) (rt : Int × Int) (best : Option (List St5)), ((best = none ∧ rt = (t0, 1)) ∨ ∃ ws, best = some ws ∧ rt = (cSum pr ws, tSum ws) ∧ RgFrom ss p ws) → mesr ss pr rt < f → ChOk ss p pr (chp ss p pr f rt best) := by
  have rt0 : ∀ (rt : Int × Int) (best : Option (List St5)), ((best = none ∧ rt = (t0, 1)) ∨ ∃ ws, best = some ws ∧ rt = (cSum pr ws, tSum ws) ∧ RgFrom ss p ws) → RtOk ss pr rt := by
    rintro rt best (⟨_, rfl⟩ | ⟨ws, _, rfl, h⟩)
    · have hA := bigA_nn pr ss
      exact ⟨Int.le_refl _, ⟨bigD ss, bigD_pos ss, Int.le_refl _, (Int.one_mul _).symm⟩, by show -bigA pr ss ≤ t0; omega⟩
    · exact h.1.rt ht
  intro f
  induction f with
  | zero =>
    intro rt best hb hm
    have := (rt0 rt best hb).nn
    omega
  | succ f ih =>
    intro rt best hb hm
    have hk : ∀ q, (gt [(p, (0 : Int))] q).isSome = true → q = p := fun q hq => by
      have := gt_mem.mp hq
      simpa using this
    have so := sorT_ok (W := wAb pr rt) (ss := ss) (I := [(p, 0)]) (U := U) (by simp) (fun q hq => hk q hq ▸ hp) hU hz (List.length_pos_of_mem hp)
    unfold chp
    cases hs : (sorT (wAb pr rt) ss [(p, 0)]).2 with
    | none =>
      obtain ⟨_, g2, g3⟩ := so.sums hs
      have gp := g2 p (by show (if p = p then some (0 : Int) else none).isSome = true; rw [if_pos rfl]; rfl)
      have hnn : ∀ R, RgFrom ss p R → 0 ≤ rt.2 * cSum pr R - rt.1 * tSum R := fun R hR => by
        have := feas_ring g3 gp hR
        rw [wAb_sum] at this
        exact this
      show ChOk ss p pr best
      rcases hb with ⟨rfl, rfl⟩ | ⟨ws, rfl, rfl, hw⟩
      · refine ⟨fun _ R hR => ?_, fun ws z => by cases z⟩
        have h1 := hnn R hR
        have h2 : ∀ L : List St5, (∀ s ∈ L, s ∈ ss) → cSum pr L + L.length ≤ t0 * tSum L := by
          intro L
          induction L with
          | nil => intro _; simp [cSum, tSum]
          | cons s L ihL =>
            intro hs
            have k1 := ihL fun t ht => hs t (List.mem_cons_of_mem _ ht)
            have k2 := hdear s (hs s List.mem_cons_self)
            have k3 := ht s (hs s List.mem_cons_self)
            have k4 : t0 * 1 ≤ t0 * s.ticks := Int.mul_le_mul_of_nonneg_left k3 h00
            rw [cSum_cons, tSum_cons, Int.mul_add, List.length_cons]
            omega
        have h3 := h2 R hR.1.sub
        have h4 : 1 ≤ R.length := List.length_pos_iff.mpr hR.1.ne
        have h1' : 0 ≤ 1 * cSum pr R - t0 * tSum R := h1
        omega
      · refine ⟨fun z => (by cases z), fun ws' z => ?_⟩
        obtain rfl : ws = ws' := Option.some.inj z
        refine ⟨hw, fun R hR => ?_⟩
        have h1 : 0 ≤ tSum ws * cSum pr R - cSum pr ws * tSum R := hnn R hR
        rw [Int.mul_comm (cSum pr R)]
        omega
    | some ws =>
      obtain ⟨g1, g2, g3⟩ := so.ring ws hs
      have hw : RgFrom ss p ws := ⟨g1, fun s hs => by
        obtain ⟨q, hq, hr⟩ := g3 s hs
        rw [hk q hq] at hr
        exact hr⟩
      rw [wAb_sum] at g2
      have r1 := rt0 rt best hb
      have r2 := g1.rt (pr := pr) ht
      have hlt := r1.lt r2 (by
        show cSum pr ws * rt.2 < rt.1 * tSum ws
        rw [Int.mul_comm (cSum pr ws)]
        omega)
      exact ih (cSum pr ws, tSum ws) (some ws) (.inr ⟨ws, rfl, rfl, hw⟩) (by omega)
/-- the cheapest ring -/
def cheap (ss : List St5) (p : Int) (pr : Int × Int) (t0 : Int) : Option (List St5) := chp ss p pr (chF ss pr t0) (t0, 1) none
theorem cheap_ok {ss : List St5} {p : Int} {pr : Int × Int} {U : List Int} (t0 : Int) (ht : ∀ s ∈ ss, 1 ≤ s.ticks) (hdear : ∀ s ∈ ss, cOf pr s < t0) (h00 : 0 ≤ t0) (hp : p ∈ U) (hU : ∀ s ∈ ss, s.other ∈ U) (hz : U.length ≤ 63) : ChOk ss p pr (cheap ss p pr t0) :=
  chp_ok t0 ht hdear h00 hp hU hz _ _ _ (.inl ⟨rfl, rfl⟩) (by unfold chF; omega)
end AA

set_option Elab.async false
set_option linter.all false
set_option maxRecDepth 100000
set_option maxHeartbeats 4000000
/-! lowered. -/
namespace AA
open PySem PySem.Spec PyProof.Rows L2 Evl
theorem get_len {α : Type} {l : List α} {i : Nat} {x : α} (h : l[i]? = some x) : i < l.length := (List.getElem?_eq_some_iff.mp h).1
/-- a dict from integers to integers -/
def smK (l : List (Int × Int)) : List (Key × V) := l.map fun e => (Sum.inl e.1, V.int e.2)
theorem smK_val (p : Int) : ∀ l : List (Int × Int), valV (smK l) (Sum.inl p) = (gt l p).map V.int
  | [] => rfl
  | e :: l => by
    by_cases h : e.1 = p
    · have h1 : valV (smK (e :: l)) (Sum.inl p) = some (V.int e.2) := valV_pos (p := (Sum.inl e.1, V.int e.2)) (by rw [h])
      have h2 : gt (e :: l) p = some e.2 := if_pos h
      rw [h1, h2]
      rfl
    · have h1 : valV (smK (e :: l)) (Sum.inl p) = valV (smK l) (Sum.inl p) := valV_neg (p := (Sum.inl e.1, V.int e.2)) fun z => h (Sum.inl.inj z)
      have h2 : gt (e :: l) p = gt l p := if_neg h
      rw [h1, h2, smK_val p l]
/-- a dict from integers to steps -/
inductive CmD (K : PySem.W.Frag) (B : Hp) : List (Key × V) → List (Int × St5) → Prop
  | nil : CmD K B [] []
  | cons {p : Int} {s : St5} {t : Addr} {kvs : List (Key × V)} {cm : List (Int × St5)} (h : Dp K B (.ref t) (stD s)) (r : CmD K B kvs cm) : CmD K B ((Sum.inl p, .ref t) :: kvs) ((p, s) :: cm)
section
variable {K : PySem.W.Frag} {B : Hp}
theorem CmD.len : ∀ {kvs : List (Key × V)} {cm : List (Int × St5)}, CmD K B kvs cm → kvs.length = cm.length
  | _, _, .nil => rfl
  | _, _, .cons _ r => by rw [List.length_cons, List.length_cons, r.len]
theorem CmD.val {p : Int} : ∀ {kvs : List (Key × V)} {cm : List (Int × St5)}, CmD K B kvs cm → (gt cm p = none ∧ valV kvs (Sum.inl p) = none) ∨ ∃ s t, gt cm p = some s ∧ valV kvs (Sum.inl p) = some (.ref t) ∧ Dp K B (.ref t) (stD s)
  | _, _, .nil => .inl ⟨rfl, rfl⟩
  | _, _, .cons (p := q) (s := s) (t := t) (kvs := kvs) (cm := cm) h r => by
    by_cases e : q = p
    · exact .inr ⟨s, t, if_pos e, valV_pos (p := (Sum.inl q, V.ref t)) (by rw [e]), h⟩
    · have h1 : valV ((Sum.inl q, V.ref t) :: kvs) (Sum.inl p) = valV kvs (Sum.inl p) := valV_neg (p := (Sum.inl q, V.ref t)) fun z => e (Sum.inl.inj z)
      have h2 : gt ((q, s) :: cm) p = gt cm p := if_neg e
      rw [h1, h2]
      exact r.val
theorem put_new' {α : Type} {p : Int} {x : α} : ∀ {l : List (Int × α)}, gt l p = none → put l p x = l ++ [(p, x)]
  | [], _ => rfl
  | e :: l, h => by
    have h' : (if e.1 = p then some e.2 else gt l p) = none := h
    by_cases q : e.1 = p
    · rw [if_pos q] at h'
      cases h'
    · rw [if_neg q] at h'
      show (if e.1 = p then (p, x) :: l else e :: put l p x) = _
      rw [if_neg q, put_new' h']
      rfl
theorem gt_none {α : Type} {p : Int} {l : List (Int × α)} (h : gt l p = none) : ∀ e ∈ l, e.1 ≠ p := fun e he q => by
  have := gt_mem.mpr (List.mem_map.mpr ⟨e, he, q⟩)
  rw [h] at this
  cases this
/-- one key at most is the one that is put -/
theorem put_map {α : Type} {p : Int} {x : α} : ∀ {l : List (Int × α)}, (l.map (·.1)).Nodup → (gt l p).isSome = true → put l p x = l.map fun e => if e.1 = p then (p, x) else e
  | [], _, h => by cases h
  | e :: l, hn, h => by
    rw [List.map_cons] at hn
    have hn' := List.nodup_cons.mp hn
    show (if e.1 = p then (p, x) :: l else e :: put l p x) = _
    by_cases q : e.1 = p
    · rw [if_pos q, List.map_cons, if_pos q]
      congr 1
      have : ∀ y ∈ l, (if y.1 = p then (p, x) else y) = y := fun y hy => if_neg fun z => hn'.1 (List.mem_map.mpr ⟨y, hy, by rw [z, q]⟩)
      rw [List.map_congr_left this, List.map_id']
    · have h' : (gt l p).isSome = true := by
        have h2 : (if e.1 = p then some e.2 else gt l p).isSome = true := h
        rw [if_neg q] at h2
        exact h2
      rw [if_neg q, List.map_cons, if_neg q, put_map hn'.2 h']
theorem smK_put {p x : Int} {l : List (Int × Int)} (hn : (l.map (·.1)).Nodup) : putK (smK l) (Sum.inl p) (V.int x) = smK (put l p x) := by
  cases h : gt l p with
  | none =>
    rw [putK_new _ (by rw [smK_val, h]; rfl), put_new' h]
    unfold smK
    rw [List.map_append]
    rfl
  | some y =>
    have hs : (gt l p).isSome = true := by rw [h]; rfl
    rw [put_map hn hs]
    unfold putK
    have h1 : ((smK l).any fun kv => decide (kv.1 = Sum.inl p)) = true := by
      rw [valV_any, smK_val, h]
      rfl
    rw [if_pos h1]
    unfold smK
    rw [List.map_map, List.map_map]
    refine List.map_congr_left fun e _ => ?_
    show (if (Sum.inl e.1 : Key) = Sum.inl p then ((Sum.inl e.1 : Key), V.int x) else (Sum.inl e.1, V.int e.2)) = ((Sum.inl (if e.1 = p then (p, x) else e).1 : Key), V.int (if e.1 = p then (p, x) else e).2)
    by_cases q : e.1 = p
    · rw [if_pos (by rw [q]), if_pos q, q]
    · rw [if_neg (fun z => q (Sum.inl.inj z)), if_neg q]
theorem CmD.snoc {p : Int} {s : St5} {t : Addr} (h : Dp K B (.ref t) (stD s)) : ∀ {kvs : List (Key × V)} {cm : List (Int × St5)}, CmD K B kvs cm → CmD K B (kvs ++ [(Sum.inl p, .ref t)]) (cm ++ [(p, s)])
  | _, _, .nil => .cons h .nil
  | _, _, .cons g r => .cons g (r.snoc h)
theorem CmD.turn {p : Int} {s : St5} {t : Addr} (h : Dp K B (.ref t) (stD s)) : ∀ {kvs : List (Key × V)} {cm : List (Int × St5)}, CmD K B kvs cm → CmD K B (kvs.map fun kv => if kv.1 = Sum.inl p then (kv.1, V.ref t) else kv) (cm.map fun e => if e.1 = p then (p, s) else e)
  | _, _, .nil => .nil
  | _, _, .cons (p := q) (s := s') (t := t') (kvs := kvs) (cm := cm) g r => by
    rw [List.map_cons, List.map_cons]
    by_cases e : q = p
    · rw [if_pos (show (Sum.inl q : Key) = Sum.inl p by rw [e]), if_pos (show ((q, s') : Int × St5).1 = p from e), e]
      exact .cons h (r.turn h)
    · rw [if_neg (show ¬ (Sum.inl q : Key) = Sum.inl p from fun z => e (Sum.inl.inj z)), if_neg (show ¬ ((q, s') : Int × St5).1 = p from e)]
      exact .cons g (r.turn h)
theorem CmD.put {p : Int} {s : St5} {t : Addr} {kvs : List (Key × V)} {cm : List (Int × St5)} (c : CmD K B kvs cm) (hn : (cm.map (·.1)).Nodup) (h : Dp K B (.ref t) (stD s)) : CmD K B (putK kvs (Sum.inl p) (.ref t)) (AA.put cm p s) := by
  rcases c.val (p := p) with ⟨h1, h2⟩ | ⟨s', t', h1, h2, _⟩
  · rw [putK_new _ h2, put_new' h1]
    exact c.snoc h
  · rw [put_map hn (by rw [h1]; rfl)]
    unfold putK
    rw [if_pos (by rw [valV_any, h2]; rfl)]
    exact c.turn h
end
/-- all stands but two things -/
def Ex2 (a b : Addr) (H H' : Hp) : Prop := ∀ x u, x ≠ a → x ≠ b → H x = some u → H' x = some u
theorem Ex2.refl {a b : Addr} {H : Hp} : Ex2 a b H H := fun _ _ _ _ h => h
theorem Ex2.trans {a b : Addr} {H H1 H2 : Hp} (h : Ex2 a b H H1) (k : Ex2 a b H1 H2) : Ex2 a b H H2 := fun x u h1 h2 h3 => k x u h1 h2 (h x u h1 h2 h3)
theorem Ex2.of {a b : Addr} {H H1 : Hp} (h : Ex H H1) : Ex2 a b H H1 := fun x u _ _ h3 => h x u h3
theorem Ex2.fst {a b : Addr} {H : Hp} {o : HO} : Ex2 a b H (upd H a o) := fun x u h1 _ h3 => by rw [upd_ne h1]; exact h3
theorem Ex2.snd {a b : Addr} {H : Hp} {o : HO} : Ex2 a b H (upd H b o) := fun x u _ h2 h3 => by rw [upd_ne h2]; exact h3
theorem lowTo_none {W : St5 → Int} {sm : List (Int × Int)} {s : St5} (h : gt sm s.one = none) : lowTo W sm s = none := by
  unfold lowTo
  rw [h]
theorem lowTo_new {W : St5 → Int} {sm : List (Int × Int)} {s : St5} {a : Int} (h : gt sm s.one = some a) (h2 : gt sm s.other = none) : lowTo W sm s = some (a + W s) := by
  unfold lowTo
  rw [h]
  show (match gt sm s.other with | none => some (a + W s) | some c => if a + W s < c then some (a + W s) else none) = _
  rw [h2]
theorem lowTo_old {W : St5 → Int} {sm : List (Int × Int)} {s : St5} {a c : Int} (h : gt sm s.one = some a) (h2 : gt sm s.other = some c) : lowTo W sm s = if a + W s < c then some (a + W s) else none := by
  unfold lowTo
  rw [h]
  show (match gt sm s.other with | none => some (a + W s) | some c => if a + W s < c then some (a + W s) else none) = _
  rw [h2]
theorem low1_no {W : St5 → Int} {b : BS} {s : St5} (h : lowTo W b.sm s = none) : low1 W b s = b := by
  unfold low1
  rw [h]
theorem low1_yes {W : St5 → Int} {b : BS} {s : St5} {x : Int} (h : lowTo W b.sm s = some x) : low1 W b s = ⟨put b.sm s.other x, put b.cm s.other s, some s.other⟩ := by
  unfold low1
  rw [h]
section
variable {P : Program} {w : World} {K : PySem.W.Frag} {mg : Str → Option Value} {base : Heap}
def oI : Option Int → V
  | none => .non
  | some v => .int v
def spLow (K : PySem.W.Frag) : Sp := fun vs H Q _ => ∃ (p q S C : Addr) (xs : List V) (ss : List St5) (W : St5 → Int) (b : BS) (kvs : List (Key × V)) (Z : Hp), vs = [.ref p, .ref q, .ref S, .ref C] ∧ Ex Z H ∧ Z S = none ∧ Z C = none ∧ S ≠ C ∧ SqL K Z p xs ∧ DpAll K Z xs (ss.map stD) ∧ SqL K Z q (ss.map fun s => V.int (W s)) ∧ ss.length ≤ 1000000 ∧
  H S = some (.dK (smK b.sm)) ∧ H C = some (.dK kvs) ∧ CmD K Z kvs b.cm ∧ KOk b ∧ b.sm.length ≤ 1000000 ∧ b.cm.length ≤ 1000000 ∧
  ∀ (H' : Hp) (kvs' : List (Key × V)), Ex Z H' → Ex2 S C H H' → H' S = some (.dK (smK (lowR W ss b).sm)) → H' C = some (.dK kvs') → CmD K Z kvs' (lowR W ss b).cm → Q (oI (lowR W ss b).lt) H'
abbrev nmLw : List Str := ["steps", "weights", "sums", "came", "late", "step", "weight", "through"]
theorem scLw : FnScope nmLw ["steps", "weights", "sums", "came"] (defScope sLowered) := ⟨rfl, rfl, rfl, by decide +kernel, rfl, by decide +kernel, by decide +kernel⟩
theorem ok_low {f : Addr} {fd : FuncData} (F : L2.Fun K "lowered" "lowered" sLowered f fd) (B : Bn mg) (hzip : mg "zip" = none) : FnOk P w K mg base CX0 1 f fd ["steps", "weights", "sums", "came"] (spLow K) := by
  refine F.ok scLw (fun vs H Q E h => ?_) (fun cdv Ar outer s H vs Q E hr h => ?_)
  · obtain ⟨p, q, S, C, xs, ss, W, b, kvs, Z, rfl, _⟩ := h
    rfl
  · obtain ⟨p, q, S, C, xs, ss, W, b, kvs, Z, rfl, eZ, hSZ, hCZ, SC, hp, hD, hq, hz, hS, hC, hcm, ko, hsz, hcz, kQ⟩ := h
    have hu := hr.un
    have hu1 : (Ar.deeper (envOfC "lowered" (defScope sLowered) s.heap.objs.size f cdv)).units + 1 < cLine := by omega
    refine ⟨_, pss_cons (ps_set (i := 4) scLw.nd rfl (Or.inl rfl) pe_non)
      (Evl.pss_cut (ps_for PassesOwn.never rfl (RZ.pi_zipA (by rfl) hzip (pa_cons (pv 0) (pa_cons (pv 1) pa_nil))) (pg_tup (n := 2) rfl (pgs_cons (pg_name (i := 5) scLw.nd rfl (.inl rfl)) (pgs_cons (pg_name (i := 6) scLw.nd rfl (.inl rfl)) pgs_nil)))
          (pss_one (ps_if (pt_cmp (pc_din hu1 (pe_ix (r := rIxT K) ix_tup (pv 5) pe_int (fun _ _ => rfl)) (pv 2)))
            (pss_cons (ps_set (i := 7) scLw.nd rfl (Or.inl rfl) (pe_op op_add (pe_dget hu1 (pv 2) (pe_ix (r := rIxT K) ix_tup (pv 5) pe_int (fun _ _ => rfl)) (fun _ _ => rfl)) (pv 6)))
            (pss_one (ps_if (PW.pt (pw_or (pt_cmp (pc_dnotin hu1 (pe_ix (r := rIxT K) ix_tup (pv 5) pe_int (fun _ _ => rfl)) (pv 2))) (pw_or1 (pt_cmpR op_lt (pv 7) (pe_dget hu1 (pv 2) (pe_ix (r := rIxT K) ix_tup (pv 5) pe_int (fun _ _ => rfl)) (fun _ _ => rfl)) (nomark _)))))
              (pss_cons (ps_dput hu1 (pv 2) (pe_ix (r := rIxT K) ix_tup (pv 5) pe_int (fun _ _ => rfl)) (pv 7) (by rfl))
              (pss_cons (ps_dput hu1 (pv 3) (pe_ix (r := rIxT K) ix_tup (pv 5) pe_int (fun _ _ => rfl)) (pv 5) (by rfl))
              (pss_one (ps_set (i := 4) scLw.nd rfl (Or.inl rfl) (pe_ix (r := rIxT K) ix_tup (pv 5) pe_int (fun _ _ => rfl)))))) pss_nil))) pss_nil)))
      (pss_one (ps_ret (pv 4)))), ?_⟩
    have hul := sts_len hD
    refine ⟨fun σ G => ∃ (x5 x6 x7 : Option V) (kvs' : List (Key × V)), σ = [some (.ref p), some (.ref q), some (.ref S), some (.ref C), some (oI (lowR W ss b).lt), x5, x6, x7] ∧ Ex Z G ∧ Ex2 S C H G ∧ G S = some (.dK (smK (lowR W ss b).sm)) ∧ G C = some (.dK kvs') ∧ CmD K Z kvs' (lowR W ss b).cm, ?_, ?_⟩
    · refine ⟨_, rfl, _, rfl, p, q, xs, ss.map fun s => V.int (W s), rfl, .inl ⟨ex_l eZ hp, ex_l eZ hq, ?_⟩⟩
      refine for_zipL (by rw [List.length_map]; omega) (fun i σ G => ∃ (x5 x6 x7 : Option V) (kvs' : List (Key × V)) (bi : BS), bi = (ss.take i).foldl (low1 W) ⟨b.sm, b.cm, none⟩ ∧ σ = [some (.ref p), some (.ref q), some (.ref S), some (.ref C), some (oI bi.lt), x5, x6, x7] ∧ Ex Z G ∧ Ex2 S C H G ∧ G S = some (.dK (smK bi.sm)) ∧ G C = some (.dK kvs') ∧ CmD K Z kvs' bi.cm ∧ KOk bi ∧ bi.sm.length ≤ 1000000 + i ∧ bi.cm.length ≤ 1000000 + i) ?_ (fun i σ G ⟨_, _, _, _, _, _, _, e, _⟩ => ⟨ex_l e hp, ex_l e hq⟩) ?_ ?_
      · exact ⟨none, none, none, kvs, _, rfl, rfl, eZ, Ex2.refl, hS, hC, hcm, ko, hsz, hcz⟩
      · rintro i x y σ G T hx hy ⟨x5, x6, x7, kvs', bi, ebi, rfl, e, e2, hS', hC', hcm', ko', hsz', hcz'⟩ hT
        obtain ⟨s, t, hs, rfl, ht⟩ := sts_get hD hx
        obtain ⟨_, u, ez, p1, _⟩ := stD_inv ht
        cases ez
        have il := get_len hs
        obtain rfl : V.int (W s) = y := by
          rw [List.getElem?_map, hs] at hy
          exact Option.some.inj hy
        have tk : (ss.take (i + 1)).foldl (low1 W) ⟨b.sm, b.cm, none⟩ = low1 W bi s := by
          rw [List.take_add_one, hs, List.foldl_append, ← ebi]
          rfl
        have eT := Ex.new (o := .tup [V.ref t, V.int (W s)]) hT
        refine ⟨T, _, rfl, SqT.of upd_same, rfl, _, _, rfl, _, _, rfl, rfl, ?_⟩
        have e3 := e.trans eT
        have e4 := e2.trans (Ex2.of eT)
        have hS3 := eT _ _ hS'
        have hC3 := eT _ _ hC'
        generalize upd G T (.tup [V.ref t, V.int (W s)]) = G2 at e3 e4 hS3 hC3 ⊢
        have pe := ex_t e3 p1
        have dS : ∀ v : Int, DGet G2 S (.int v) ((gt bi.sm v).map V.int) := fun v => by
          have z := DGet.k (k := Sum.inl v) hS3
          rw [smK_val] at z
          exact z
        refine ⟨_, rfl, t, _, 0, .int s.one, rfl, rfl, pe, rfl, _, rfl, S, _, rfl, dS s.one, ?_⟩
        cases ha : gt bi.sm s.one with
        | none =>
          refine ⟨_, rfl, iteF ⟨_, _, _, kvs', bi, ?_, rfl, e3, e4, hS3, hC3, hcm', ko', by omega, by omega⟩⟩
          rw [tk, low1_no (lowTo_none ha)]
        | some a =>
          refine ⟨_, rfl, iteT ?_⟩
          refine ⟨_, rfl, _, rfl, t, _, 0, .int s.one, rfl, rfl, pe, rfl, S, _, rfl, by have := dS s.one; rw [ha] at this; exact this, ?_⟩
          refine ⟨_, rfl, _, _, rfl, rfl, ?_⟩
          refine ⟨_, rfl, t, _, 1, .int s.other, rfl, rfl, pe, rfl, _, rfl, S, _, rfl, dS s.other, ?_⟩
          have fin : ∀ {x : Int}, lowTo W bi.sm s = some x → x = a + W s → ∀ (G5 : Hp), G5 = upd (upd G2 S (.dK (putK (smK bi.sm) (Sum.inl s.other) (V.int (a + W s))))) C (.dK (putK kvs' (Sum.inl s.other) (V.ref t))) →
              ∃ (x5 x6 x7 : Option V) (kvs'' : List (Key × V)) (bj : BS), bj = (ss.take (i + 1)).foldl (low1 W) ⟨b.sm, b.cm, none⟩ ∧ [some (V.ref p), some (.ref q), some (.ref S), some (.ref C), some (.int s.other), some (.ref t), some (.int (W s)), some (.int (a + W s))] = [some (V.ref p), some (.ref q), some (.ref S), some (.ref C), some (oI bj.lt), x5, x6, x7] ∧ Ex Z G5 ∧ Ex2 S C H G5 ∧ G5 S = some (.dK (smK bj.sm)) ∧ G5 C = some (.dK kvs'') ∧ CmD K Z kvs'' bj.cm ∧ KOk bj ∧ bj.sm.length ≤ 1000000 + (i + 1) ∧ bj.cm.length ≤ 1000000 + (i + 1) := by
            rintro x hx rfl G5 rfl
            refine ⟨some (.ref t), some (.int (W s)), some (.int (a + W s)), putK kvs' (Sum.inl s.other) (V.ref t), low1 W bi s, tk.symm, ?_⟩
            have kn := ko'.low1 (W := W) (s := s)
            have hl := low1_len (W := W) (b := bi) (s := s)
            rw [low1_yes hx] at kn hl ⊢
            refine ⟨rfl, (e3.mut hSZ).mut hCZ, (e4.trans Ex2.fst).trans Ex2.snd, ?_, upd_same, hcm'.put ko'.2 ht, kn, by omega, by omega⟩
            rw [upd_ne SC, upd_same, smK_put ko'.1]
          have kS : (smK bi.sm).length < sizeLine := by
            unfold smK
            rw [List.length_map]
            have : sizeLine = 16777216 := rfl
            omega
          have kC : kvs'.length < sizeLine := by
            rw [hcm'.len]
            have : sizeLine = 16777216 := rfl
            omega
          cases hc : gt bi.sm s.other with
          | none =>
            refine ⟨_, rfl, iteT (iteT ?_)⟩
            refine ⟨_, rfl, _, rfl, _, rfl, t, _, 1, .int s.other, rfl, rfl, pe, rfl, S, _, rfl, DPut.k (k := Sum.inl s.other) hS3 kS, ?_⟩
            refine ⟨_, rfl, _, rfl, _, rfl, t, _, 1, .int s.other, rfl, rfl, ex_t (e3.mut hSZ) p1, rfl, C, _, rfl, DPut.k (k := Sum.inl s.other) (by rw [upd_ne SC.symm]; exact hC3) kC, ?_⟩
            refine ⟨_, rfl, t, _, 1, .int s.other, rfl, rfl, ex_t ((e3.mut hSZ).mut hCZ) p1, rfl, ?_⟩
            exact fin (lowTo_new ha hc) rfl _ rfl
          | some c =>
            refine ⟨_, rfl, iteF ?_⟩
            refine ⟨_, rfl, _, rfl, _, rfl, t, _, 1, .int s.other, rfl, rfl, pe, rfl, S, _, rfl, by have := dS s.other; rw [hc] at this; exact this, _, _, rfl, rfl, _, rfl, ?_⟩
            refine dec_ite (fun z => ?_) (fun z => ?_)
            · refine ⟨_, rfl, _, rfl, _, rfl, t, _, 1, .int s.other, rfl, rfl, pe, rfl, S, _, rfl, DPut.k (k := Sum.inl s.other) hS3 kS, ?_⟩
              refine ⟨_, rfl, _, rfl, _, rfl, t, _, 1, .int s.other, rfl, rfl, ex_t (e3.mut hSZ) p1, rfl, C, _, rfl, DPut.k (k := Sum.inl s.other) (by rw [upd_ne SC.symm]; exact hC3) kC, ?_⟩
              refine ⟨_, rfl, t, _, 1, .int s.other, rfl, rfl, ex_t ((e3.mut hSZ).mut hCZ) p1, rfl, ?_⟩
              exact fin (by rw [lowTo_old ha hc, if_pos z]) rfl _ rfl
            · refine ⟨_, _, _, kvs', bi, ?_, rfl, e3, e4, hS3, hC3, hcm', ko', by omega, by omega⟩
              rw [tk, low1_no (by rw [lowTo_old ha hc, if_neg z])]
      · rintro σ G ⟨x5, x6, x7, kvs', bi, ebi, rfl, e, e2, hS', hC', hcm', _⟩
        rw [List.length_map, List.take_length] at ebi
        have eb : bi = lowR W ss b := ebi
        rw [eb] at hS' hcm' ⊢
        exact ⟨x5, x6, x7, kvs', rfl, e, e2, hS', hC', hcm'⟩
    rintro σ G ⟨x5, x6, x7, kvs', rfl, e, e2, hS', hC', hcm'⟩
    exact ⟨_, rfl, kQ G kvs' e e2 hS' hC' hcm'⟩
end
end AA

set_option Elab.async false
set_option linter.all false
set_option maxRecDepth 100000
set_option maxHeartbeats 4000000
/-! list(reversed(xs)). -/
namespace AA
open PySem PySem.Spec PyProof.Rows L2 Evl
section
variable {P : Program} {w : World} {A : Around} {E : Value → Shared → Prop} {s : Shared}
theorem hint_rev {it l : Addr} {i : Int} {Q : Bool → Shared → Prop} (hi : s.heap.IsRevIter it l i) (k : ∀ b, Q b s) : wpAny (model P w) A (Builtin.List.listLengthHint (.ref it)) Q E s := by
  have ht := hi.typeIs
  have h1 := RT.nolen_lri
  have h2 := RT.hint_lri
  unfold Builtin.List.listLengthHint
  refine wpAny_bind (wpAny_specialOf ht h1 ?_)
  dsimp only
  rw [if_neg (by decide +kernel), if_neg (by decide +kernel)]
  refine wpAny_bind (wpAny_specialOf ht h2 ?_)
  dsimp only
  have h3 : splitId "list_reverseiterator.__length_hint__" = some ("list_reverseiterator", "__length_hint__") := by decide +kernel
  rw [h3]
  dsimp only
  have h4 : isSubtype (.type "list_reverseiterator") (.type "list_reverseiterator") = pure true := by rfl
  refine wpAny_bind (wpAny_isInstance ht h4 ?_)
  rw [if_neg (by decide +kernel), if_pos (by decide +kernel), if_neg (by decide +kernel)]
  exact wpAny_pure (k false)
theorem mv_trans {wr : List Addr} {s z t : Shared} (h : Moved wr (fun a b => b = a) s z) (k : Moved wr (fun a b => b = a) z t) : Moved wr (fun a b => b = a) s t :=
  ⟨fun b o h1 h2 => k.heap b o h1 (h.heap b o h1 h2), k.gens.trans h.gens, k.drawn.trans h.drawn, k.os.trans h.os, Nat.le_trans h.toks k.toks⟩
theorem listUpd {S : Addr} {xs : Array Value} {c : Nat} {f : Array Value → Array Value} {Q : Unit → Shared → Prop} (hS : s.heap.get? S = some { cls := .type "list", data := .seq xs c }) (hz : xs.size ≤ 4 ∧ (f xs).size ≤ 4)
    (k : ∀ (z : Shared), Moved [S] (fun a b => b = a) s z → (∃ c', z.heap.get? S = some { cls := .type "list", data := .seq (f xs) c' }) → Q () z) : wpAny (model P w) A (Builtin.List.listUpdate (.ref S) f) Q E s := by
  have hsz : sizeLine = 16777216 := rfl
  show wpAny (model P w) A (updateSeq S f) Q E s
  refine wpAny_updateSeq hS rfl ?_ (by omega) (by omega)
  refine k _ ⟨fun b o hb h => ?_, rfl, rfl, rfl, Nat.le_refl _⟩ ⟨_, Heap.get?_update_self (Obj.mapSeq f) hS rfl⟩
  exact (Heap.get?_update_other _ (Obj.mapSeq f) (fun q => hb (by rw [q]; exact List.mem_cons_self))).trans h
theorem ext_rev {it l S : Addr} {items : Array Value} {res : Value} {c0 : Nat} {R : Result → Shared → Prop} (hh : A.handled = none) (hi : s.heap.IsRevIter it l (items.size - 1)) (hl : s.heap.IsList l items) (ne : l ≠ it) (hS : s.heap.get? S = some { cls := .type "list", data := .seq #[] c0 }) (Si : S ≠ it) (Sl : S ≠ l) (hz : items.size ≤ sizeLine)
    (k : ∀ (s' : Shared) (acc : Array Value) (c : Nat), Moved [S, it] (fun a b => b = a) s s' → s'.heap.get? S = some { cls := .type "list", data := .seq acc c } → ItemsOf (fun i v => items[items.size - 1 - i]? = some v) acc items.size → R (.ok (.ret res)) s') :
    wpAny (model P w) A.in1 (Builtin.List.listExtendWith (.ref S) (.ref it) res) (fun fin s' => match fin with
      | .done f => R (.ok f) s'
      | .again c' => c'.quiet = true ∧ codeAny (model P w) A c' R s') (fun e s' => R (.error e) s') s := by
  have ht := hi.typeIs
  unfold Builtin.List.listExtendWith
  refine wpAny_bind (wpAny_typeOf ht ?_)
  rw [if_neg (by
    have h1 : Builtin.List.listSameRef (.ref S) (.ref it) = false := by
      show (S == it) = false
      exact beq_eq_false_iff_ne.mpr Si
    rw [h1]
    decide +kernel)]
  refine wpAny_bind (wpAny_pyIter_revIter hi ?_)
  refine wpAny_bind (wpAny_holding (hint_rev hi fun b => ?_))
  dsimp only
  have hw : Walks P w A.in1 it [it, l] [it] items.size (fun i v => items[items.size - 1 - i]? = some v) fun i h => i ≤ items.size ∧ h.IsRevIter it l (↑items.size - 1 - ↑i) ∧ h.IsList l items := Walks.listRev (by exact hh) it l ne items
  have off : S ∉ [it, l] := by
    simp only [List.mem_cons, List.not_mem_nil, or_false, not_or]
    exact ⟨Si, Sl⟩
  have loop : ∀ (z : Shared) (c : Nat), Moved [S, it] (fun a b => b = a) s z → z.heap.get? S = some { cls := .type "list", data := .seq #[] c } → z.heap.IsRevIter it l (items.size - 1) → z.heap.IsList l items → codeAny (model P w) A (Code.builtin "list.extend.loop" { pos := [.ref S, .ref it, res] }) R z := by
    intro z c hm hzS hzi hzl
    refine codeAny_extend_loopS hw.toS hz S off res (items.size - 0) 0 z #[] c rfl (Nat.zero_le _) ⟨Nat.zero_le _, by simpa using hzi, hzl⟩ hzS (.nil _) fun s' acc c' hm' hs' hits => ?_
    exact k s' acc c' (mv_trans hm hm') hs' hits
  have fin : ∀ (z : Shared) (c : Nat), Moved [S, it] (fun a b => b = a) s z → z.heap.get? S = some { cls := .type "list", data := .seq #[] c } → z.heap.IsRevIter it l (items.size - 1) → z.heap.IsList l items → wpAny (model P w) A.in1 (again (Code.builtin "list.extend.loop" { pos := [.ref S, .ref it, res] })) (fun fin s' => match fin with
      | .done f => R (.ok f) s'
      | .again c' => c'.quiet = true ∧ codeAny (model P w) A c' R s') (fun e s' => R (.error e) s') z := fun z c h1 h2 h3 h4 => wpAny_pure ⟨plainId_quiet F.plain_extend_loop _, loop z c h1 h2 h3 h4⟩
  split
  · refine wpAny_bind (wpAny_rule ?_)
    refine wpAny_bind ?_
    unfold Builtin.List.listTouch
    refine wpAny_bind ?_
    refine listUpd hS (by simp) fun z1 m1 ⟨c1, g1⟩ => ?_
    refine listUpd g1 (by simp) fun z2 m2 ⟨c2, g2⟩ => ?_
    have e2 : (((#[] : Array Value).push Value.none).pop) = #[] := rfl
    rw [e2] at g2
    have m12 := mv_trans m1 m2
    have kp : ∀ b o, b ≠ S → s.heap.get? b = some o → z2.heap.get? b = some o := fun b o hb h => m12.heap b o (by simpa using hb) h
    obtain ⟨oi, hi1, hi2, hi3⟩ := hi
    obtain ⟨ol, hl1, hl2⟩ := hl
    refine fin z2 _ ⟨fun b o hb h => kp b o (fun q => hb (by rw [q]; exact List.mem_cons_self)) h, m12.gens, m12.drawn, m12.os, m12.toks⟩ g2 ⟨oi, kp _ _ Si.symm hi1, hi2, hi3⟩ ⟨ol, kp _ _ Sl.symm hl1, hl2⟩
  · exact fin s c0 ⟨fun b o _ h => h, rfl, rfl, rfl, Nat.le_refl _⟩ hS hi hl
theorem call_list_rev {it l : Addr} {items : Array Value} {Q : Value → Shared → Prop} (hh : A.handled = none) (hi : s.heap.IsRevIter it l (items.size - 1)) (hl : s.heap.IsList l items) (ne : l ≠ it) (hz : items.size ≤ sizeLine)
    (k : ∀ (h' : Heap) (tk : Nat) (acc : Array Value) (c : Nat), (∀ b o, b ≠ it → s.heap.get? b = some o → h'.get? b = some o) → h'.get? s.heap.objs.size = some { cls := .type "list", data := .seq acc c } → ItemsOf (fun i v => items[items.size - 1 - i]? = some v) acc items.size → Q (.ref s.heap.objs.size) { s with heap := h', toks := tk }) :
    wpAny (model P w) A (call (.type "list") [.ref it]) Q E s := by
  refine callType_codes (Q₁ := fun u z => u = .ref s.heap.objs.size ∧ z = { s with heap := s.heap.push { cls := .type "list", data := .seq #[] } }) F.called_list (F.typeCall_list_1 _) F.entry_list_init (code_list_new _ ⟨rfl, rfl⟩) fun obj s1 h1 => ?_
  obtain ⟨rfl, rfl⟩ := h1
  have new : (s.heap.push { cls := .type "list", data := .seq #[] }).get? s.heap.objs.size = some { cls := .type "list", data := .seq #[] } := Heap.get?_push_size _ rfl
  have kp0 : ∀ b o, s.heap.get? b = some o → (s.heap.push { cls := .type "list", data := .seq #[] }).get? b = some o := fun b o h => Heap.get?_push_of_some _ h
  have Si : s.heap.objs.size ≠ it := by
    obtain ⟨o, h1, _⟩ := hi
    exact Ne.symm (Nat.ne_of_lt (Heap.lt_size h1))
  have Sl : s.heap.objs.size ≠ l := by
    obtain ⟨o, h1, _⟩ := hl
    exact Ne.symm (Nat.ne_of_lt (Heap.lt_size h1))
  refine ⟨⟨_, new, rfl⟩, F.args_list_init_2 _ _, ?_⟩
  unfold Builtin.«list.__init__»
  dsimp only
  rw [if_neg (by decide +kernel), if_neg (show ¬ ([Value.ref it] : List Value).length > 1 from Nat.lt_irrefl 1)]
  refine wpAny_bind (wpAny_listItems new rfl ?_)
  refine wpAny_bind (listUpd new (by simp) fun z m ⟨c, g⟩ => ?_)
  refine wpAny_bind (wpAny_letGo ?_)
  have kp1 : ∀ b o, b ≠ s.heap.objs.size → s.heap.get? b = some o → z.heap.get? b = some o := fun b o hb h => m.heap b o (by simpa using hb) (kp0 b o h)
  refine ext_rev (A := A.in1) (by exact hh) (items := items) (l := l) ?_ ?_ ne g Si Sl hz fun z2 acc c2 m2 g2 hits => ?_
  · obtain ⟨o, h1, h2⟩ := hi
    exact ⟨o, kp1 _ _ Si.symm h1, h2⟩
  · obtain ⟨o, h1, h2⟩ := hl
    exact ⟨o, kp1 _ _ Sl.symm h1, h2⟩
  · refine ⟨rfl, ?_⟩
    obtain ⟨h', g4, d', tk', os'⟩ := z2
    obtain ⟨hz', g5, d5, tk5, os5⟩ := z
    obtain rfl : g5 = s.gens := m.gens
    obtain rfl : d5 = s.drawn := m.drawn
    obtain rfl : os5 = s.os := m.os
    obtain rfl : g4 = s.gens := m2.gens
    obtain rfl : d' = s.drawn := m2.drawn
    obtain rfl : os' = s.os := m2.os
    refine k h' tk' acc c2 (fun b o hb h => ?_) g2 hits
    have hbS : b ≠ s.heap.objs.size := Nat.ne_of_lt (Heap.lt_size h)
    exact m2.heap b o (by simp only [List.mem_cons, List.not_mem_nil, or_false, not_or]; exact ⟨hbS, hb⟩) (kp1 b o hbS h)
end
section
def tLstRev (K : PySem.W.Frag) (te : TE) : TE := fun σ H Q => te σ H fun v H1 => ∃ (a : Addr) (xs : List V), v = .ref a ∧ SqL K H1 a xs ∧ ∀ q, H1 q = none → Q (.ref q) (upd H1 q (.lst xs.reverse))
theorem pe_listRev {X : Cx} {e : Expr} {te : TE} {p p2 pos pos2 : Pos} (hc : X.calm = true) (hg : Gl X "list") (hm : X.mg "list" = none) (hg2 : Gl X "reversed") (hm2 : X.mg "reversed" = none) (he : PE X e te)
    (na : starEach [e] X.env = (false, eval e X.env) :: starEach [] X.env := by rfl) : PE X (.Call (.Name "list" p) [.Call (.Name "reversed" p2) [e] [] pos2] [] pos) (tLstRev X.K te) := by
  refine ⟨fun pins s σ H Q I h => ?_⟩
  refine Call_ (ld_blt I hg hm boot_list ?_)
  refine PyProof.Rows.callWith_type1 (PyProof.Rows.args_cons ?_ rfl) rfl rfl
  refine Call_ (ld_blt I hg2 hm2 PyProof.Rows.boot_reversed ?_)
  refine PyProof.Rows.callWith_type1 (PyProof.Rows.args_cons (thn (he.run pins s σ H _ I h) fun v s1 ⟨x, H1, I1, r1, q1⟩ => PyProof.Rows.args_nil ?_) na) na rfl
  obtain ⟨a, xs, rfl, hq, q1⟩ := q1
  cases r1
  obtain ⟨its, rv, pl, hz⟩ := I1.list hq
  have hlen : its.toArray.size = xs.length := by rw [List.size_toArray, ← rv.length]
  refine call_reversed_list pl.isList ?_
  refine PyProof.Rows.args_nil ?_
  have hal : a ≠ s1.heap.objs.size := by
    obtain ⟨o, h1, _⟩ := pl.isList
    exact Nat.ne_of_lt (Heap.lt_size h1)
  refine call_list_rev (items := its.toArray) (l := a) (it := s1.heap.objs.size) (I1.ok.hd hc) ⟨_, Heap.get?_push_size _ rfl, rfl, rfl⟩ (pl.isList.push _) hal (by rw [hlen]; omega) fun h' tk acc c kp hS hits => ?_
  have hS0 : H1 (s1.heap.objs.size + 1) = none := I1.hok.fresh (Nat.le_succ _)
  have eS : (s1.heap.push (revObj a (↑its.toArray.size - 1))).objs.size = s1.heap.objs.size + 1 := Heap.size_push ..
  rw [eS] at hS ⊢
  refine ⟨.ref (s1.heap.objs.size + 1), upd H1 (s1.heap.objs.size + 1) (.lst xs.reverse), ?_, rfl, q1 _ hS0⟩
  refine I1.turnedNew (t' := tk) (ch := [s1.heap.objs.size]) (fun b o hb h => kp b o (fun z => hb (by rw [z]; exact List.mem_cons_self)) (Heap.get?_push_of_some _ h)) (fun b hb => ?_) (Nat.le_succ _) ?_
  · obtain rfl := List.mem_singleton.mp hb
    exact I1.fpOk (Nat.le_refl _) (I1.hok.fresh (Nat.le_refl _))
  · exact ⟨by rw [List.length_reverse]; exact hz, _, c, RT.vals_rev rv hits, hS⟩
end
end AA

set_option Elab.async false
set_option linter.all false
set_option maxRecDepth 100000
set_option maxHeartbeats 4000000
/-! A dict of what was seen; the last one of steps. -/
namespace AA
open PySem PySem.Spec PyProof.Rows L2 Evl
def seenK (l : List Int) : List (Key × V) := l.map fun v => (Sum.inl v, V.bl true)
theorem seenK_val {v : Int} : ∀ l : List Int, valV (seenK l) (Sum.inl v) = if v ∈ l then some (V.bl true) else none
  | [] => rfl
  | x :: l => by
    by_cases e : x = v
    · have : valV (seenK (x :: l)) (Sum.inl v) = some (V.bl true) := valV_pos (p := (Sum.inl x, V.bl true)) (by rw [e])
      rw [this, if_pos (by simp [e])]
    · have : valV (seenK (x :: l)) (Sum.inl v) = valV (seenK l) (Sum.inl v) := valV_neg (p := (Sum.inl x, V.bl true)) fun z => e (Sum.inl.inj z)
      rw [this, seenK_val l]
      by_cases q : v ∈ l
      · rw [if_pos q, if_pos (List.mem_cons_of_mem _ q)]
      · rw [if_neg q, if_neg (fun z => (List.mem_cons.mp z).elim (fun z => e z.symm) q)]
theorem seenK_new {v : Int} {l : List Int} (h : v ∉ l) : putK (seenK l) (Sum.inl v) (V.bl true) = seenK (l ++ [v]) := by
  rw [putK_new _ (by rw [seenK_val, if_neg h])]
  unfold seenK
  rw [List.map_append]
  rfl
theorem seenK_old {v : Int} {l : List Int} (h : v ∈ l) : putK (seenK l) (Sum.inl v) (V.bl true) = seenK l := by
  unfold putK
  have h1 : ((seenK l).any fun kv => decide (kv.1 = Sum.inl v)) = true := by
    rw [valV_any, seenK_val, if_pos h]
    rfl
  rw [if_pos h1]
  unfold seenK
  rw [List.map_map]
  refine List.map_congr_left fun x hx => ?_
  show (if (Sum.inl x : Key) = Sum.inl v then ((Sum.inl x : Key), V.bl true) else (Sum.inl x, V.bl true)) = (Sum.inl x, V.bl true)
  split <;> rfl
section
variable {K : PySem.W.Frag}
theorem last_at {H : Hp} {xs : List V} {u : List St5} {t : St5} (h : DpAll K H xs (u.map stD)) (hl : u.getLast? = some t) : ∃ b, atI xs (-1) = some (V.ref b) ∧ Dp K H (.ref b) (stD t) := by
  have hlen := sts_len h
  rw [List.getLast?_eq_getElem?] at hl
  have lt := (List.getElem?_eq_some_iff.mp hl).1
  obtain ⟨x, hx⟩ : ∃ x, xs[u.length - 1]? = some x := ⟨_, List.getElem?_eq_getElem (by omega)⟩
  obtain ⟨t', b, ht, rfl, hb⟩ := sts_get h hx
  rw [hl] at ht
  cases ht
  refine ⟨b, ?_, hb⟩
  unfold atI
  have e : ixN xs.length (-1) = some (u.length - 1) := by
    rw [hlen]
    unfold ixN
    rw [if_neg (by omega), if_pos (by omega)]
    congr 1
    omega
  rw [e]
  exact hx
end
end AA

set_option Elab.async false
set_option linter.all false
set_option maxRecDepth 100000
set_option maxHeartbeats 4000000
/-! ring_back. -/
namespace AA
open PySem PySem.Spec PyProof.Rows L2 Evl
theorem back_at {cm : List (Int × St5)} {p : Int} : ∀ (L : List St5) (q : Int), BackCh cm q L p → ∀ (i : Nat) (s : St5), L[i]? = some s → (L[i + 1]? = none ∧ s.one = p) ∨ ∃ t, L[i + 1]? = some t ∧ gt cm s.one = some t
  | [], _, _, i, s, h => by simp at h
  | u :: L, q, hb, 0, s, h => by
    obtain rfl : u = s := by simpa using h
    cases L with
    | nil => exact .inl ⟨rfl, hb.2⟩
    | cons t L => exact .inr ⟨t, rfl, hb.2.1⟩
  | u :: L, q, hb, i + 1, s, h => by
    have h' : L[i]? = some s := by simpa using h
    have := back_at L u.one hb.2 i s h'
    rw [List.getElem?_cons_succ]
    exact this
theorem trl_step {cm : List (Int × St5)} {f : Nat} {seen : List Int} {p : Int} {s : St5} (h : gt cm p = some s) (hn : p ∉ seen) : trl cm (f + 1) seen p = trl cm f (seen ++ [p]) s.one := by
  show (match gt cm p with | none => (seen, p) | some s => if p ∈ seen then (seen, p) else trl cm f (seen ++ [p]) s.one) = _
  rw [h]
  show (if p ∈ seen then (seen, p) else trl cm f (seen ++ [p]) s.one) = _
  rw [if_neg hn]
theorem trl_stop {cm : List (Int × St5)} {seen : List Int} {p : Int} (h : gt cm p = none ∨ p ∈ seen) : ∀ f : Nat, trl cm f seen p = (seen, p)
  | 0 => rfl
  | f + 1 => by
    show (match gt cm p with | none => (seen, p) | some s => if p ∈ seen then (seen, p) else trl cm f (seen ++ [p]) s.one) = _
    cases hg : gt cm p with
    | none => rfl
    | some s =>
      show (if p ∈ seen then (seen, p) else trl cm f (seen ++ [p]) s.one) = _
      rw [if_pos (h.resolve_left (by rw [hg]; exact Option.some_ne_none s))]
theorem dpa_rev {K : PySem.W.Frag} {H : Hp} : ∀ {ys : List V} {ss : List St5}, DpAll K H ys (ss.map stD) → DpAll K H ys.reverse (ss.reverse.map stD)
  | ys, [], h => by
    cases h
    exact .nil
  | ys, s :: ss, h => by
    cases h with
    | cons h1 h2 =>
      rw [List.reverse_cons, List.reverse_cons, List.map_append]
      exact dpa_app (dpa_rev h2) (.cons h1 .nil)
section
variable {P : Program} {w : World} {K : PySem.W.Frag} {mg : Str → Option Value} {base : Heap}
def spRbk (K : PySem.W.Frag) : Sp := fun vs H Q _ => ∃ (C : Addr) (v : Int) (kvs : List (Key × V)) (cm : List (Int × St5)), vs = [.ref C, .int v] ∧ H C = some (.dK kvs) ∧ CmD K H kvs cm ∧ (∀ v s, gt cm v = some s → s.other = v) ∧ cm.length ≤ 63 ∧
  (rbk cm v = none → ∀ H', Ex H H' → Q .non H') ∧ ∀ ws, rbk cm v = some ws → ∀ (H' : Hp) (p : Addr) (ys : List V), Ex H H' → H p = none → H' p = some (.lst ys) → DpAll K H ys (ws.map stD) → Q (.ref p) H'
abbrev nmRb : List Str := ["came", "place", "seen", "ring"]
theorem scRb : FnScope nmRb ["came", "place"] (defScope sRingBack) := ⟨rfl, rfl, rfl, by decide +kernel, rfl, by decide +kernel, by decide +kernel⟩
theorem ok_rbk {f : Addr} {fd : FuncData} (F : L2.Fun K "ring_back" "ring_back" sRingBack f fd) (B : Bn mg) (hrev : mg "reversed" = none) : FnOk P w K mg base CX0 1 f fd ["came", "place"] (spRbk K) := by
  refine F.ok scRb (fun vs H Q E h => ?_) (fun cdv Ar outer s H vs Q E hr h => ?_)
  · obtain ⟨C, v, kvs, cm, rfl, _⟩ := h
    rfl
  · obtain ⟨C, v, kvs, cm, rfl, hC, hcm, ho, hz, kN, kS⟩ := h
    have hu := hr.un
    have hu1 : (Ar.deeper (envOfC "ring_back" (defScope sRingBack) s.heap.objs.size f cdv)).units + 1 < cLine := by omega
    refine ⟨_, pss_cons (ps_set (i := 2) scRb.nd rfl (Or.inl rfl) pe_dnewK)
      (Evl.pss_cut (ps_while PassesOwn.never (PW.pt (pw_and (pt_cmp (pc_din hu1 (pv 1) (pv 0))) (pw_and1 (pt_cmp (pc_dnotin hu1 (pv 1) (pv 2))))))
          (pss_cons (ps_dput hu1 (pv 2) (pv 1) pe_bl (by rfl))
          (pss_one (ps_set (i := 1) scRb.nd rfl (Or.inl rfl) (pe_ix (r := rIxT K) ix_tup (pe_dget hu1 (pv 0) (pv 1) (fun _ _ => rfl)) pe_int (fun _ _ => rfl))))))
      (pss_cons (ps_if (pt_cmp (pc_dnotin hu1 (pv 1) (pv 0))) (pss_one (ps_ret pe_non)) pss_nil)
      (pss_cons (ps_set (i := 3) scRb.nd rfl (Or.inl rfl) (pe_lst (pa_cons (pe_dget hu1 (pv 0) (pv 1) (fun _ _ => rfl)) pa_nil)))
      (Evl.pss_cut (ps_while PassesOwn.never (pt_cmpR op_ne (pe_ix (r := rIxT K) ix_tup (pe_ix (r := rIxL K) ix_list (pv 3) (pe_un un_neg pe_int) (fun _ _ => rfl)) pe_int (fun _ _ => rfl)) (pv 1) (nomark _))
          (pss_one (ps_expr (pe_bm PySem.F.plainAttrs_list PySem.F.slot_list_append PySem.F.type_list_append mt_append (pv 3) (pa_cons (pe_dget hu1 (pv 0) (pe_ix (r := rIxT K) ix_tup (pe_ix (r := rIxL K) ix_list (pv 3) (pe_un un_neg pe_int) (fun _ _ => rfl)) pe_int (fun _ _ => rfl)) (fun _ _ => rfl)) pa_nil)))))
      (pss_one (ps_ret (pe_listRev rfl (by rfl) B.list (by rfl) hrev (pv 3)))))))), ?_⟩
    intro D hD0
    have y1 := Ex.new (o := .dK []) hD0
    have j1 : upd H D (.dK []) D = some (.dK []) := upd_same
    have CD : C ≠ D := ne_of_none hC hD0
    generalize upd H D (.dK []) = G1 at y1 j1 ⊢
    have dC : ∀ {G : Hp} (q : Int), Ex H G → DGet G C (.int q) (valV kvs (Sum.inl q)) := fun q e => DGet.k (k := Sum.inl q) (e _ _ hC)
    refine ⟨fun σ G => ∃ (p : Int) (seen : List Int), σ = [some (.ref C), some (.int p), some (.ref D), none] ∧ Ex H G ∧ trl cm 64 [] v = (seen, p) ∧ Trl cm v seen p ∧ (gt cm p = none ∨ p ∈ seen), ?_, ?_⟩
    · refine ⟨fun mm σ G => ∃ (p : Int) (seen : List Int), σ = [some (.ref C), some (.int p), some (.ref D), none] ∧ mm = 64 - seen.length ∧ Ex H G ∧ G D = some (.dK (seenK seen)) ∧ trl cm 64 [] v = trl cm (64 - seen.length) seen p ∧ Trl cm v seen p, ⟨_, v, [], rfl, rfl, y1, j1, rfl, .nil⟩, ?_⟩
      rintro mm σ G ⟨p, seen, rfl, rfl, e, hD, et, tr⟩
      have hsl := tr.len
      refine ⟨_, rfl, _, rfl, C, _, rfl, dC p e, ?_⟩
      rcases hcm.val (p := p) with ⟨g1, g2⟩ | ⟨s, t, g1, g2, g3⟩
      · rw [g2]
        refine ⟨_, rfl, iteF ?_⟩
        exact ⟨p, seen, rfl, e, by rw [et, trl_stop (.inl g1)], tr, .inl g1⟩
      · rw [g2]
        refine ⟨_, rfl, iteT ⟨_, rfl, _, rfl, D, _, rfl, DGet.k (k := Sum.inl p) hD, ?_⟩⟩
        rw [seenK_val]
        by_cases hin : p ∈ seen
        · rw [if_pos hin]
          exact ⟨_, rfl, iteF ⟨p, seen, rfl, e, by rw [et, trl_stop (.inr hin)], tr, .inr hin⟩⟩
        · rw [if_neg hin]
          refine ⟨_, rfl, iteT ?_⟩
          have tr2 := tr.more ho g1 hin
          have hl2 := tr2.len
          rw [List.length_append, List.length_singleton] at hl2
          refine ⟨_, fun _ _ h => h, ?_⟩
          refine ⟨_, rfl, _, rfl, D, _, rfl, DPut.k (k := Sum.inl p) hD (by unfold seenK; rw [List.length_map]; exact sz_m (by omega)), ?_⟩
          have hk : putK (seenK seen) (Sum.inl p) (V.bl true) = seenK (seen ++ [p]) := seenK_new hin
          rw [hk]
          have e2 := e.mut (o := .dK (seenK (seen ++ [p]))) hD0
          obtain ⟨_, u, ez, p1, _⟩ := stD_inv g3
          cases ez
          refine ⟨_, rfl, _, rfl, C, _, rfl, by have := dC p e2; rw [g2] at this; exact this, t, _, 0, .int s.one, rfl, rfl, ex_t e2 p1, rfl, ?_⟩
          refine ⟨_, by rw [List.length_append, List.length_singleton]; omega, s.one, seen ++ [p], rfl, rfl, e2, upd_same, ?_, tr2⟩
          rw [et, List.length_append, List.length_singleton]
          have : 64 - seen.length = (64 - (seen.length + 1)) + 1 := by omega
          rw [this, trl_step g1 hin]
    rintro σ G ⟨p, seen, rfl, e, et, tr, hstop⟩
    have hsl := tr.len
    have er : rbk cm v = match gt cm p with | none => none | some s => some (rg cm p 64 s).reverse := by
      unfold rbk
      rw [et]
      try rfl
    refine ⟨_, rfl, _, rfl, C, _, rfl, dC p e, ?_⟩
    rcases hcm.val (p := p) with ⟨g1, g2⟩ | ⟨s, t, g1, g2, g3⟩
    · rw [g2]
      rw [g1] at er
      exact ⟨_, rfl, iteT (kN er G e)⟩
    rw [g2]
    refine ⟨_, rfl, iteF ?_⟩
    obtain ⟨s', L, h1, h2, h3, h4, h5⟩ := tr.ring ho (hstop.resolve_left (by rw [g1]; exact Option.some_ne_none s))
    rw [g1] at h1
    cases h1
    rw [g1] at er
    have er' : rbk cm v = some (s :: L).reverse := by
      rw [er]
      show some (rg cm p 64 s).reverse = _
      rw [rg_of ho 64 p s L h2 h3 (by rw [List.length_cons] at h5; omega)]
    have hMl : (s :: L).length ≤ 64 := by omega
    have hM0 : (s :: L)[0]? = some s := rfl
    have hal := back_at (s :: L) p h2
    generalize s :: L = M at h2 h4 h5 er' hMl hM0 hal
    refine ⟨_, rfl, _, rfl, C, _, rfl, by have := dC p e; rw [g2] at this; exact this, by show 1 ≤ sizeLine; decide, fun Rg hRg => ?_⟩
    have y2 := Ex.new (o := .lst [V.ref t]) hRg
    have j2 : upd G Rg (.lst [V.ref t]) Rg = some (.lst [V.ref t]) := upd_same
    have hRH := fresh_back e hRg
    generalize upd G Rg (.lst [V.ref t]) = G2 at y2 j2 ⊢
    refine ⟨fun σ G => ∃ (ys : List V), σ = [some (.ref C), some (.int p), some (.ref D), some (.ref Rg)] ∧ Ex H G ∧ G Rg = some (.lst ys) ∧ DpAll K H ys (M.map stD), ?_, ?_⟩
    · have hM1 : M.take 1 = [s] := by
        cases M with
        | nil => cases hM0
        | cons m M =>
          obtain rfl : m = s := by simpa using hM0
          rfl
      refine ⟨fun mm σ G => ∃ (i : Nat) (ys : List V), σ = [some (.ref C), some (.int p), some (.ref D), some (.ref Rg)] ∧ mm = M.length - i ∧ 1 ≤ i ∧ i ≤ M.length ∧ Ex H G ∧ G Rg = some (.lst ys) ∧ DpAll K H ys ((M.take i).map stD), ⟨_, 1, [.ref t], rfl, rfl, Nat.le_refl 1, get_len hM0, e.trans y2, j2, by rw [hM1]; exact .cons g3 .nil⟩, ?_⟩
      rintro mm σ G ⟨i, ys, rfl, rfl, i1, i2, e3, hR, hD⟩
      obtain ⟨x, hx⟩ : ∃ x, M[i - 1]? = some x := ⟨_, List.getElem?_eq_getElem (by omega)⟩
      have hl : (M.take i).getLast? = some x := by
        rw [List.getLast?_eq_getElem?, List.length_take, Nat.min_eq_left i2, List.getElem?_take, if_pos (by omega)]
        exact hx
      obtain ⟨b, hb1, hb2⟩ := last_at hD hl
      obtain ⟨_, u, ez, p1, _⟩ := stD_inv hb2
      cases ez
      have pe := ex_t e3 p1
      have hyl := sts_len hD
      rw [List.length_take, Nat.min_eq_left i2] at hyl
      refine ⟨_, rfl, _, rfl, Rg, ys, (-1 : Int), _, rfl, rfl, SqL.of hR, hb1, b, _, 0, .int x.one, rfl, rfl, pe, rfl, ?_⟩
      refine ⟨_, rfl, rfl, _, rfl, ?_⟩
      have hdec : decide (V.int x.one = V.int p) = decide (x.one = p) := decide_eq_decide.mpr ⟨fun z => by cases z; rfl, fun z => by rw [z]⟩
      rw [hdec]
      rcases hal (i - 1) x hx with ⟨q1, q2⟩ | ⟨y, q1, q2⟩
      · have hi : i = M.length := by
          have := List.getElem?_eq_none_iff.mp q1
          omega
        rw [q2, decide_eq_true rfl]
        refine iteF ?_
        subst hi
        rw [List.take_length] at hD
        exact ⟨ys, rfl, e3, hR, hD⟩
      · have hy : M[i]? = some y := by
          have : i - 1 + 1 = i := by omega
          rw [this] at q1
          exact q1
        have il := get_len hy
        have hne : x.one ≠ p := by
          have ho2 := ho _ _ q2
          intro z
          -- no later step of the ring begins where it began
          have h0 : s.other = p := ho p s g1
          have hnd := h4
          have e1 : (M.map (·.other))[0]? = some p := by rw [List.getElem?_map, hM0, ← h0]; rfl
          have e2 : (M.map (·.other))[i]? = some p := by rw [List.getElem?_map, hy, ← z, ← ho2]; rfl
          have := nodup_at hnd e1 e2
          omega
        rw [decide_eq_false hne]
        refine iteT ?_
        refine ⟨_, fun _ _ h => h, ?_⟩
        rcases hcm.val (p := x.one) with ⟨w1, _⟩ | ⟨y', t', w1, w2, w3⟩
        · rw [q2] at w1
          cases w1
        rw [q2] at w1
        cases w1
        refine ⟨_, rfl, .inl ⟨rfl, _, SqL.of hR⟩, ?_⟩
        refine ⟨_, rfl, _, rfl, _, rfl, Rg, ys, (-1 : Int), _, rfl, rfl, SqL.of hR, hb1, b, _, 0, .int x.one, rfl, rfl, pe, rfl, C, _, rfl, by have := dC x.one e3; rw [w2] at this; exact this, ?_⟩
        refine ⟨Rg, ys, _, rfl, rfl, hR, sz_m (by omega), ?_⟩
        refine ⟨_, by omega, i + 1, ys ++ [.ref t'], rfl, rfl, Nat.le_succ_of_le i1, il, e3.mut hRH, upd_same, ?_⟩
        have tk : (M.take (i + 1)).map stD = (M.take i).map stD ++ [stD y] := by
          rw [List.take_add_one, hy, List.map_append]
          rfl
        rw [tk]
        exact dpa_app hD (.cons w3 .nil)
    rintro σ G3 ⟨ys, rfl, e3, hR, hD⟩
    refine ⟨_, rfl, Rg, ys, rfl, SqL.of hR, fun q hq => ?_⟩
    refine kS _ er' _ q ys.reverse (e3.trans (Ex.new hq)) (fresh_back e3 hq) upd_same ?_
    exact dpa_rev hD
end
end AA

set_option Elab.async false
set_option linter.all false
set_option maxRecDepth 100000
set_option maxHeartbeats 4000000
/-! sums_or_ring, least_sums. -/
namespace AA
open PySem PySem.Spec PyProof.Rows L2 Evl
abbrev rSrtD : List V → Hp → VK → Prop := fun xs H Q => ∃ (a : Addr) (kvs : List (Key × V)) (ks : List Int), xs = [.ref a] ∧ Rd H a (.dK kvs) ∧ kvs.map (·.1) = ks.map Sum.inl ∧ ks.length < 64 ∧
    ∀ (ys : List Int) (p : Addr), ys.Perm ks → ys.Pairwise (· ≤ ·) → H p = none → Q (.ref p) (upd H p (.lst (ys.map V.int)))
theorem CmD.ex {K : PySem.W.Frag} {B B' : Hp} (e : Ex B B') : ∀ {kvs : List (Key × V)} {cm : List (Int × St5)}, CmD K B kvs cm → CmD K B' kvs cm
  | _, _, .nil => .nil
  | _, _, .cons h r => .cons (dp_ex e _ _ h) (r.ex e)
/-- what is told: sums, ascending, or a ring -/
def SorR (K : PySem.W.Frag) (H H' : Hp) (t : Addr) (o : List (Int × Int) × Option (List St5)) : Prop :=
  match o.2 with
  | some ws => ∃ (rp : Addr) (ys : List V), H' t = some (.tup [.non, .ref rp]) ∧ H' rp = some (.lst ys) ∧ DpAll K H' ys (ws.map stD) ∧ H rp = none
  | none => ∃ (dp : Addr) (l : List (Int × Int)), H' t = some (.tup [.ref dp, .non]) ∧ H' dp = some (.dK (smK l)) ∧ (l.map (·.1)).Nodup ∧ (l.map (·.1)).Pairwise (· ≤ ·) ∧ (∀ v, gt l v = gt o.1 v) ∧ H dp = none
theorem SorR.back {K : PySem.W.Frag} {H G H' : Hp} {t : Addr} {o : List (Int × Int) × Option (List St5)} (e : Ex H G) (h : SorR K G H' t o) : SorR K H H' t o := by
  unfold SorR at h ⊢
  split at h
  · obtain ⟨rp, ys, h1, h2, h3, h4⟩ := h
    exact ⟨rp, ys, h1, h2, h3, fresh_back e h4⟩
  · obtain ⟨dp, l, h1, h2, h3, h4, h5, h6⟩ := h
    exact ⟨dp, l, h1, h2, h3, h4, h5, fresh_back e h6⟩
theorem fresh2 {a b t : Addr} {H G : Hp} (h : Ex2 a b H G) (ta : t ≠ a) (tb : H b = none) (ht : G t = none) : H t = none := by
  by_cases q : t = b
  · rw [q]
    exact tb
  · cases e : H t with
    | none => rfl
    | some u =>
      rw [h t u ta q e] at ht
      cases ht
/-- sums by ascending keys -/
def byK (sm : List (Int × Int)) (ks : List Int) : List (Int × Int) := ks.map fun k => (k, (gt sm k).getD 0)
theorem byK_keys (sm : List (Int × Int)) (ks : List Int) : (byK sm ks).map (·.1) = ks := by
  unfold byK
  rw [List.map_map]
  exact List.map_id' ks
theorem byK_gt {sm : List (Int × Int)} {v : Int} : ∀ {ks : List Int}, gt (byK sm ks) v = if v ∈ ks then some ((gt sm v).getD 0) else none
  | [] => rfl
  | k :: ks => by
    show (if k = v then some ((gt sm k).getD 0) else gt (byK sm ks) v) = _
    by_cases q : k = v
    · rw [if_pos q, if_pos (by rw [q]; exact List.mem_cons_self), q]
    · rw [if_neg q, byK_gt (ks := ks)]
      by_cases m : v ∈ ks
      · rw [if_pos m, if_pos (List.mem_cons_of_mem _ m)]
      · rw [if_neg m, if_neg (fun z => (List.mem_cons.mp z).elim (fun y => q y.symm) m)]
theorem byK_all {sm : List (Int × Int)} {ks : List Int} (h : ∀ v, v ∈ ks ↔ v ∈ sm.map (·.1)) (v : Int) : gt (byK sm ks) v = gt sm v := by
  rw [byK_gt]
  cases hg : gt sm v with
  | none => rw [if_neg (fun z => by have := gt_mem.mpr ((h v).mp z); rw [hg] at this; cases this)]
  | some x =>
    rw [if_pos ((h v).mpr (gt_of hg))]
    rfl
theorem sor_none {W : St5 → Int} {ss : List St5} {b : BS} {f : Nat} (h : b.lt = none) : sor W ss (f + 1) b = (b.sm, none) := by
  unfold sor
  rw [h]
theorem sor_ring {W : St5 → Int} {ss : List St5} {b : BS} {f : Nat} {v : Int} {ws : List St5} (h : b.lt = some v) (h2 : rbk b.cm v = some ws) : sor W ss (f + 1) b = (b.sm, some ws) := by
  unfold sor
  rw [h]
  show (match rbk b.cm v with | some ws => (b.sm, some ws) | none => sor W ss f (lowR W ss b)) = _
  rw [h2]
theorem sor_more {W : St5 → Int} {ss : List St5} {b : BS} {f : Nat} {v : Int} (h : b.lt = some v) (h2 : rbk b.cm v = none) : sor W ss (f + 1) b = sor W ss f (lowR W ss b) := by
  show (match b.lt with | none => (b.sm, none) | some v => match rbk b.cm v with | some ws => (b.sm, some ws) | none => sor W ss f (lowR W ss b)) = _
  rw [h]
  show (match rbk b.cm v with | some ws => (b.sm, some ws) | none => sor W ss f (lowR W ss b)) = _
  rw [h2]
section
variable {P : Program} {w : World} {K : PySem.W.Frag} {mg : Str → Option Value} {base : Heap}
def spSor (K : PySem.W.Frag) : Sp := fun vs H Q _ => ∃ (p q S : Addr) (xs : List V) (ss : List St5) (W : St5 → Int) (I : List (Int × Int)) (U : List Int) (Z : Hp), vs = [.ref p, .ref q, .ref S] ∧ Ex Z H ∧ Z S = none ∧ SqL K Z p xs ∧ DpAll K Z xs (ss.map stD) ∧ SqL K Z q (ss.map fun s => V.int (W s)) ∧ ss.length ≤ 1000000 ∧
  H S = some (.dK (smK I)) ∧ (I.map (·.1)).Nodup ∧ (∀ p, (gt I p).isSome = true → p ∈ U) ∧ (∀ s ∈ ss, s.other ∈ U) ∧ 1 ≤ U.length ∧ U.length ≤ 63 ∧
  ∀ (H' : Hp) (t : Addr), Ex Z H' → H t = none → SorR K H H' t (sorT W ss I) → Q (.ref t) H'
abbrev nmSr : List Str := ["steps", "weights", "sums", "came", "late", "ring", "end"]
theorem scSr : FnScope nmSr ["steps", "weights", "sums"] (defScope sSumsOrRing) := ⟨rfl, rfl, rfl, by decide +kernel, rfl, by decide +kernel, by decide +kernel⟩
theorem ok_sor {f : Addr} {fd : FuncData} (F : L2.Fun K "sums_or_ring" "sums_or_ring" sSumsOrRing f fd) (B : Bn mg) (cL : C8.Cal P w K mg base 1 "lowered" (spLow K) []) (cR : C8.Cal P w K mg base 1 "ring_back" (spRbk K) []) : FnOk P w K mg base CX0 2 f fd ["steps", "weights", "sums"] (spSor K) := by
  refine F.ok scSr (fun vs H Q E h => ?_) (fun cdv Ar outer s H vs Q E hr h => ?_)
  · obtain ⟨p, q, S, xs, ss, W, I, U, Z, rfl, _⟩ := h
    rfl
  · obtain ⟨p, q, S, xs, ss, W, I, U, Z, rfl, eZ, hSZ, hp, hD, hq, hz, hS, hIn, hIU, hOU, hU1, hU, kQ⟩ := h
    have hu := hr.un
    have hu1 : (Ar.deeper (envOfC "sums_or_ring" (defScope sSumsOrRing) s.heap.objs.size f cdv)).units + 1 < cLine := by omega
    refine ⟨_, pss_cons (ps_set (i := 3) scSr.nd rfl (Or.inl rfl) pe_dnewK)
      (pss_cons (ps_set (i := 4) scSr.nd rfl (Or.inl rfl) (C8.pe_c cL hr (by decide) (by rfl) (pa_cons (pv 0) (pa_cons (pv 1) (pa_cons (pv 2) (pa_cons (pv 3) pa_nil))))))
      (Evl.pss_cut (ps_while PassesOwn.never (pt_cmp (pc_notN (pv 4)))
          (pss_cons (ps_set (i := 5) scSr.nd rfl (Or.inl rfl) (C8.pe_c cR hr (by decide) (by rfl) (pa_cons (pv 3) (pa_cons (pv 4) pa_nil))))
          (pss_cons (ps_if (pt_cmp (pc_notN (pv 5))) (pss_one (ps_ret (pe_tup (pa_cons pe_non (pa_cons (pv 5) pa_nil))))) pss_nil)
          (pss_one (ps_set (i := 4) scSr.nd rfl (Or.inl rfl) (C8.pe_c cL hr (by decide) (by rfl) (pa_cons (pv 0) (pa_cons (pv 1) (pa_cons (pv 2) (pa_cons (pv 3) pa_nil))))))))))
      (pss_one (ps_ret (pe_tup (pa_cons (pe_dc (own := [("end", 6)]) (g := gName 6) (tt := tYes) (by rfl) scSr.nd (pi_list (pe_callB (r := rSrtD) (call_sortedDI (by rfl)) (by rfl) B.sorted boot_sorted (pa_cons (pv 2) pa_nil))) (blkOk_by (N := nmSr) (sc := defScope sSumsOrRing) (by decide +kernel)) (fun _ _ _ _ _ => pg_name (i := 6) scSr.nd rfl (Or.inl rfl)) (fun _ _ _ _ _ => pts_nil) (fun _ _ _ _ _ => pv 6) (fun _ _ _ _ _ => pe_dget (td := tVar 2) (ty := tVar 6) hu1 (pv 2) (pv 6) (fun _ _ => rfl))) (pa_cons pe_non pa_nil))))))), ?_⟩
    intro C hC0
    have y1 := Ex.new (o := .dK []) hC0
    have j1 : upd H C (.dK []) C = some (.dK []) := upd_same
    have SC : S ≠ C := ne_of_none hS hC0
    have hCZ := fresh_back eZ hC0
    have hS1 := y1 _ _ hS
    have eZ1 := eZ.trans y1
    generalize upd H C (.dK []) = G1 at y1 j1 hS1 eZ1 ⊢
    have few0 : I.length ≤ 63 := by
      have := nd_len (I.map (·.1)) U hIn fun x hx => hIU x (gt_mem.mpr hx)
      rw [List.length_map] at this
      omega
    refine ⟨_, rfl, _, rfl, _, rfl, _, rfl, p, q, S, C, xs, ss, W, ⟨I, [], none⟩, [], Z, rfl, eZ1, hSZ, hCZ, SC, hp, hD, hq, hz, hS1, j1, .nil, ⟨hIn, List.nodup_nil⟩, by show I.length ≤ 1000000; omega, by show 0 ≤ 1000000; decide, fun G2 kvs e2 x2 hS2 hC2 cm2 => ?_⟩
    have x02 : Ex2 S C H G2 := (Ex2.of y1).trans x2
    obtain ⟨r1, iv1⟩ := BInv.begin.round (W := W) (ss := ss) (I := I) (b := ⟨I, [], none⟩) (Nat.le_refl 1)
    have ko1 : KOk (lowR W ss ⟨I, [], none⟩) := KOk.fold ss _ ⟨hIn, List.nodup_nil⟩
    have es1 : sorT W ss I = sor W ss 64 (lowR W ss ⟨I, [], none⟩) := rfl
    generalize lowR W ss ⟨I, [], none⟩ = b1 at hS2 cm2 iv1 ko1 es1 ⊢
    refine ⟨fun σ G => ∃ (x5 : Option V) (b : BS), σ = [some (.ref p), some (.ref q), some (.ref S), some (.ref C), some .non, x5, none] ∧ Ex Z G ∧ Ex2 S C H G ∧ G S = some (.dK (smK b.sm)) ∧ (b.sm.map (·.1)).Nodup ∧ b.sm.length ≤ 63 ∧ sorT W ss I = (b.sm, none), ?_, ?_⟩
    · refine ⟨fun mm σ G => ∃ (x5 : Option V) (kvs : List (Key × V)) (b : BS) (r : Int → Nat) (k : Nat), σ = [some (.ref p), some (.ref q), some (.ref S), some (.ref C), some (oI b.lt), x5, none] ∧ mm = U.length + 1 - k ∧ 1 ≤ k ∧ k ≤ U.length ∧ Ex Z G ∧ Ex2 S C H G ∧ G S = some (.dK (smK b.sm)) ∧ G C = some (.dK kvs) ∧ CmD K Z kvs b.cm ∧ KOk b ∧ BInv W ss I b r k ss.length ∧ sorT W ss I = sor W ss (65 - k) b,
        ⟨_, none, kvs, b1, r1, 1, rfl, rfl, Nat.le_refl 1, hU1, e2, x02, hS2, hC2, cm2, ko1, iv1, es1⟩, ?_⟩
      rintro mm σ G ⟨x5, kvs, b, r, k, rfl, rfl, k1, kU, e, x, hS', hC', cm', ko, iv, es⟩
      have few := iv.few ko (iv.inU hIU hOU)
      have ef : 65 - k = (64 - k) + 1 := by omega
      rw [ef] at es
      cases hl : b.lt with
      | none =>
        refine ⟨_, rfl, _, rfl, iteF ?_⟩
        exact ⟨x5, b, rfl, e, x, hS', ko.1, by omega, by rw [es, sor_none hl]⟩
      | some v =>
        refine ⟨_, rfl, _, rfl, iteT ?_⟩
        refine ⟨_, fun _ _ h => h, ?_⟩
        refine ⟨_, rfl, _, rfl, C, v, kvs, b.cm, rfl, hC', cm'.ex e, (fun v s hv => (iv.cm v s hv).2.1), by omega, fun hn G3 e3 => ?_, fun ws hw G3 rp ys e3 rp0 hrp hDr => ?_⟩
        · refine ⟨_, rfl, _, rfl, iteF ?_⟩
          have lt := rbk_none iv (iv.inU hIU hOU) hU hl (by omega) hn
          obtain ⟨r', iv'⟩ := (iv.next k1).round (b := b) (Nat.le_succ_of_le k1)
          have ko' : KOk (lowR W ss b) := KOk.fold ss _ ko
          refine ⟨_, rfl, _, rfl, _, rfl, _, rfl, p, q, S, C, xs, ss, W, b, kvs, Z, rfl, e.trans e3, hSZ, hCZ, SC, hp, hD, hq, hz, e3 _ _ hS', e3 _ _ hC', cm', ko, by omega, by omega, fun G4 kvs4 e4 x4 hS4 hC4 cm4 => ?_⟩
          refine ⟨_, ?_, _, kvs4, lowR W ss b, r', k + 1, rfl, rfl, by omega, by omega, e4, (x.trans (Ex2.of e3)).trans x4, hS4, hC4, cm4, ko', iv', ?_⟩
          · omega
          · rw [es, sor_more hl hn]
            congr 1
            omega
        · refine ⟨_, rfl, _, rfl, iteT ?_⟩
          refine ⟨_, rfl, by show 2 ≤ sizeLine; decide, fun t ht => ?_⟩
          have e5 := Ex.new (o := .tup [.non, .ref rp]) ht
          have x5' := (x.trans (Ex2.of e3))
          have tS : t ≠ S := (ne_of_none (e3 _ _ hS') ht).symm
          refine kQ _ t ((e.trans e3).trans e5) (fresh2 x5' tS hC0 ht) ?_
          rw [es, sor_ring hl hw]
          exact ⟨rp, ys, upd_same, e5 _ _ hrp, dpa_ex ((e3.trans e5)) _ _ hDr, fresh2 x (ne_of_none hS' rp0).symm hC0 rp0⟩
    rintro σ G ⟨x5, b, rfl, e, x, hS', kn, few, es⟩
    refine ⟨_, rfl, S, smK b.sm, b.sm.map (·.1), rfl, .inl hS', ?_, by rw [List.length_map]; omega, fun ks p' pm so hp' => ?_⟩
    · unfold smK
      rw [List.map_map, List.map_map]
      rfl
    have y6 := Ex.new (o := .lst (ks.map V.int)) hp'
    have j6 : upd G p' (.lst (ks.map V.int)) p' = some (.lst (ks.map V.int)) := upd_same
    generalize upd G p' (.lst (ks.map V.int)) = G6 at y6 j6 ⊢
    have kd : ks.Nodup := pm.symm.nodup kn
    have km : ∀ v, v ∈ ks ↔ v ∈ b.sm.map (·.1) := fun v => pm.mem_iff
    have kl : ks.length ≤ 63 := by rw [pm.length_eq, List.length_map]; exact few
    refine ⟨p', rfl, ⟨_, SqL.of j6⟩, fun D hD0 => ?_⟩
    refine dc_list (xs := ks.map V.int) (fun i G7 => Ex G6 G7 ∧ G7 D = some (.dK (smK (byK b.sm (ks.take i))))) ⟨Ex.new hD0, upd_same⟩ (fun i G7 _ q => SqL.of (q.1 _ _ j6)) ?_ ?_
    · rintro i y G7 hy ⟨q1, q2⟩
      obtain ⟨c, hc, rfl⟩ := get_ints hy
      have il := get_len hc
      have tk : ks.take (i + 1) = ks.take i ++ [c] := by rw [List.take_add_one, hc]; rfl
      have hS7 := q1 _ _ (y6 _ _ hS')
      obtain ⟨xv, hxv⟩ : ∃ xv, gt b.sm c = some xv := by
        cases hg : gt b.sm c with
        | none =>
          have := gt_mem.mpr ((km c).mp (mem_of_get hc))
          rw [hg] at this
          cases this
        | some xv => exact ⟨xv, rfl⟩
      have hcn : c ∉ ks.take i := fun z => by
        obtain ⟨j, hj⟩ := List.getElem?_of_mem z
        have jl : j < i := by
          have := get_len hj
          rw [List.length_take] at this
          omega
        rw [List.getElem?_take, if_pos jl] at hj
        have := nodup_at kd hj hc
        omega
      refine ⟨rfl, _, rfl, _, rfl, _, rfl, S, _, rfl, by have z := DGet.k (k := Sum.inl c) hS7; rw [smK_val, hxv] at z; exact z, ?_⟩
      refine ⟨smK (byK b.sm (ks.take i)), Sum.inl c, rfl, q2, by unfold smK byK; rw [List.length_map, List.length_map, List.length_take]; exact sz_m (by omega), q1.mut hD0, ?_⟩
      rw [upd_same, smK_put (by rw [byK_keys]; exact kd.sublist (List.take_sublist _ _)), put_new' (by rw [byK_gt, if_neg hcn]), tk]
      unfold byK
      rw [List.map_append]
      show some (HO.dK (smK (_ ++ [(c, xv)]))) = some (HO.dK (smK (_ ++ [(c, (gt b.sm c).getD 0)])))
      rw [hxv]
      rfl
    · rintro G7 ⟨q1, q2⟩
      rw [List.length_map, List.take_length] at q2
      refine ⟨by show 2 ≤ sizeLine; decide, fun t ht => ?_⟩
      have e8 := Ex.new (o := .tup [.ref D, .non]) ht
      have eG := (y6.trans q1)
      have ht0 := fresh_back eG ht
      have tS : t ≠ S := (ne_of_none hS' ht0).symm
      refine kQ _ t ((e.trans eG).trans e8) (fresh2 x tS hC0 ht0) ?_
      rw [es]
      exact ⟨D, byK b.sm ks, upd_same, e8 _ _ q2, by rw [byK_keys]; exact kd, by rw [byK_keys]; exact so, byK_all km, fresh2 x (ne_of_none (y6 _ _ hS') hD0).symm hC0 (fresh_back y6 hD0)⟩
end
end AA

set_option Elab.async false
set_option linter.all false
set_option maxRecDepth 100000
set_option maxHeartbeats 4000000
/-! cost_of, weights_above, least_sums. -/
namespace AA
open PySem PySem.Spec PyProof.Rows L2 Evl
section
variable {P : Program} {w : World} {K : PySem.W.Frag} {mg : Str → Option Value} {base : Heap}
/-- a pair at least, as a list or a tuple -/
def Sq2 (K : PySem.W.Frag) (H : Hp) (a : Addr) (x y : Int) : Prop := ∃ r, SqL K H a (V.int x :: V.int y :: r) ∨ SqT K H a (V.int x :: V.int y :: r)
theorem Sq2.at0 {H : Hp} {a : Addr} {x y : Int} {Q : VK} (h : Sq2 K H a x y) (k : Q (.int x) H) : rIx K (.ref a) (.int 0) H Q := by
  obtain ⟨r, h | h⟩ := h
  · exact .inl ⟨a, _, 0, _, rfl, rfl, h, atI_nat (j := 0) rfl, k⟩
  · exact .inr (.inl ⟨a, _, 0, _, rfl, rfl, h, atI_nat (j := 0) rfl, k⟩)
theorem Sq2.at1 {H : Hp} {a : Addr} {x y : Int} {Q : VK} (h : Sq2 K H a x y) (k : Q (.int y) H) : rIx K (.ref a) (.int 1) H Q := by
  obtain ⟨r, h | h⟩ := h
  · exact .inl ⟨a, _, 1, _, rfl, rfl, h, atI_nat (j := 1) rfl, k⟩
  · exact .inr (.inl ⟨a, _, 1, _, rfl, rfl, h, atI_nat (j := 1) rfl, k⟩)
theorem Sq2.ex {H H' : Hp} {a : Addr} {x y : Int} (h : Sq2 K H a x y) (e : Ex H H') : Sq2 K H' a x y := h.imp fun _ => Or.imp (ex_l e) (ex_t e)
def S64 (n : Int) : Prop := -2 ^ 64 < n ∧ n < 2 ^ 64
def spCostOf (K : PySem.W.Frag) : Sp := fun vs H Q _ => ∃ (a b : Addr) (p q x y : Int), vs = [.ref a, .ref b] ∧ Sq2 K H a p q ∧ Sq2 K H b x y ∧ S64 p ∧ S64 q ∧ Q (.int (p * x + q * y)) H
theorem scCo : FnScope ["prices", "amounts"] ["prices", "amounts"] (defScope sCostOf) := ⟨rfl, rfl, rfl, by decide +kernel, rfl, by decide +kernel, by decide +kernel⟩
theorem ok_costOf {f : Addr} {fd : FuncData} (F : L2.Fun K "cost_of" "cost_of" sCostOf f fd) : FnOk P w K mg base CX0 1 f fd ["prices", "amounts"] (spCostOf K) := by
  refine F.ok scCo (fun vs H Q E h => ?_) (fun cdv Ar outer s H vs Q E hr h => ?_)
  · obtain ⟨a, b, p, q, x, y, rfl, _⟩ := h
    rfl
  · obtain ⟨a, b, p, q, x, y, rfl, ha, hb, sp, sq, k⟩ := h
    refine ⟨_, pss_one (ps_ret (pe_op op_add (pe_op op_mul (pe_ix (r := rIx K) ix_seq (pv 0) pe_int (fun _ _ => rfl)) (pe_ix (r := rIx K) ix_seq (pv 1) pe_int (fun _ _ => rfl))) (pe_op op_mul (pe_ix (r := rIx K) ix_seq (pv 0) pe_int (fun _ _ => rfl)) (pe_ix (r := rIx K) ix_seq (pv 1) pe_int (fun _ _ => rfl))))), ?_⟩
    refine ⟨_, rfl, ha.at0 ⟨_, rfl, hb.at0 ⟨_, _, rfl, rfl, .inl sp, _, rfl, ha.at1 ⟨_, rfl, hb.at1 ⟨_, _, rfl, rfl, .inl sq, _, _, rfl, rfl, k⟩⟩⟩⟩⟩
def spWab (K : PySem.W.Frag) : Sp := fun vs H Q _ => ∃ (l a b : Addr) (xs : List V) (ss : List St5) (pr rt : Int × Int), vs = [.ref l, .ref a, .ref b] ∧ SqL K H l xs ∧ DpAll K H xs (ss.map stD) ∧ Sq2 K H a pr.1 pr.2 ∧ SqT K H b [.int rt.1, .int rt.2] ∧ S64 pr.1 ∧ S64 pr.2 ∧ (∀ s ∈ ss, S64 s.p ∧ S64 s.q ∧ S64 s.ticks) ∧ ss.length ≤ 1000000 ∧
  ∀ (H' : Hp) (q : Addr), Ex H H' → H q = none → H' q = some (.lst (ss.map fun s => V.int (wAb pr rt s))) → Q (.ref q) H'
abbrev nmWa : List Str := ["steps", "prices", "rate", "top", "bottom", "first", "second", "step"]
theorem scWa : FnScope nmWa ["steps", "prices", "rate"] (defScope sWeightsAbove) := ⟨rfl, rfl, rfl, by decide +kernel, rfl, by decide +kernel, by decide +kernel⟩
theorem ok_wab {f : Addr} {fd : FuncData} (F : L2.Fun K "weights_above" "weights_above" sWeightsAbove f fd) : FnOk P w K mg base CX0 1 f fd ["steps", "prices", "rate"] (spWab K) := by
  refine F.ok scWa (fun vs H Q E h => ?_) (fun cdv Ar outer s H vs Q E hr h => ?_)
  · obtain ⟨l, a, b, xs, ss, pr, rt, rfl, _⟩ := h
    rfl
  · obtain ⟨l, a, b, xs, ss, pr, rt, rfl, hl, hD, ha, hb, s1, s2, hst, hz, kQ⟩ := h
    refine ⟨_, pss_cons (ps_asg (pv 2) (pg_tup (n := 2) rfl (pgs_cons (pg_name (i := 3) scWa.nd rfl (Or.inr rfl)) (pgs_cons (pg_name (i := 4) scWa.nd rfl (Or.inl rfl)) pgs_nil))))
      (pss_cons (ps_set (i := 5) scWa.nd rfl (Or.inr rfl) (pe_op op_mul (pv 4) (pe_ix (r := rIx K) ix_seq (pv 1) pe_int (fun _ _ => rfl))))
      (pss_cons (ps_set (i := 6) scWa.nd rfl (Or.inr rfl) (pe_op op_mul (pv 4) (pe_ix (r := rIx K) ix_seq (pv 1) pe_int (fun _ _ => rfl))))
      (pss_one (ps_ret (pe_lc (own := [("step", 7)]) (g := gName 7) (tt := tYes) (by rfl) scWa.nd (pi_list (pv 0)) (blkOk_by (N := nmWa) (sc := defScope sWeightsAbove) (by decide +kernel)) (fun _ _ _ _ _ => pg_name (i := 7) scWa.nd rfl (Or.inl rfl)) (fun _ _ _ _ _ => pts_nil)
          (fun _ _ _ _ _ => pe_op op_sub (pe_op op_add (pe_op op_mul (pv 5) (pe_ix (r := rIxT K) ix_tup (pe_ix (r := rIxT K) ix_tup (pv 7) pe_int (fun _ _ => rfl)) pe_int (fun _ _ => rfl))) (pe_op op_mul (pv 6) (pe_ix (r := rIxT K) ix_tup (pe_ix (r := rIxT K) ix_tup (pv 7) pe_int (fun _ _ => rfl)) pe_int (fun _ _ => rfl)))) (pe_op op_mul (pv 3) (pe_ix (r := rIxT K) ix_tup (pv 7) pe_int (fun _ _ => rfl))))))))), ?_⟩
    refine ⟨_, rfl, b, _, rfl, hb, rfl, _, _, rfl, _, _, rfl, rfl, ?_⟩
    refine ⟨_, rfl, _, rfl, ha.at0 ⟨_, _, rfl, rfl, .inr s1, ?_⟩⟩
    refine ⟨_, rfl, _, rfl, ha.at1 ⟨_, _, rfl, rfl, .inr s2, ?_⟩⟩
    refine ⟨_, rfl, l, rfl, ⟨_, hl⟩, fun D hD0 => ?_⟩
    have hyl := sts_len hD
    refine lc_list (xs := xs) (fun i G => Ex H G ∧ G D = some (.lst ((ss.take i).map fun s => V.int (wAb pr rt s)))) ⟨Ex.new hD0, upd_same⟩ (fun i G _ q => ex_l q.1 hl) ?_ ?_
    · rintro i x G hx ⟨q1, q2⟩
      have il := get_len hx
      obtain ⟨s, t, hs, rfl, ht⟩ := sts_get hD hx
      obtain ⟨_, u, e, p1, p2⟩ := stD_inv (dp_ex q1 _ _ ht)
      cases e
      obtain ⟨m1, m2, m3⟩ := hst s (mem_of_get hs)
      refine ⟨rfl, _, rfl, _, rfl, t, _, 2, .ref u, rfl, rfl, p1, rfl, u, _, 0, .int s.p, rfl, rfl, p2, rfl, _, _, rfl, rfl, .inr m1, ?_⟩
      refine ⟨_, rfl, _, rfl, t, _, 2, .ref u, rfl, rfl, p1, rfl, u, _, 1, .int s.q, rfl, rfl, p2, rfl, _, _, rfl, rfl, .inr m2, ?_⟩
      refine ⟨_, _, rfl, rfl, _, rfl, _, rfl, t, _, 3, .int s.ticks, rfl, rfl, p1, rfl, _, _, rfl, rfl, .inr m3, ?_⟩
      refine ⟨_, _, rfl, rfl, _, q2, by rw [List.length_map, List.length_take]; exact sz_m (by omega), q1.mut hD0, ?_⟩
      rw [upd_same, List.take_add_one, hs, List.map_append]
      rfl
    · rintro G ⟨q1, q2⟩
      rw [hyl, List.take_length] at q2
      exact kQ G D q1 hD0 q2
theorem scLs : FnScope ["steps", "weights", "place"] ["steps", "weights", "place"] (defScope sLeastSums) := ⟨rfl, rfl, rfl, by decide +kernel, rfl, by decide +kernel, by decide +kernel⟩
def spLs (K : PySem.W.Frag) : Sp := fun vs H Q _ => ∃ (p q : Addr) (xs : List V) (ss : List St5) (W : St5 → Int) (i : Int) (U : List Int), vs = [.ref p, .ref q, .int i] ∧ SqL K H p xs ∧ DpAll K H xs (ss.map stD) ∧ SqL K H q (ss.map fun s => V.int (W s)) ∧ ss.length ≤ 1000000 ∧
  i ∈ U ∧ (∀ s ∈ ss, s.other ∈ U) ∧ U.length ≤ 63 ∧
  ∀ (H' : Hp) (t : Addr), Ex H H' → H t = none → SorR K H H' t (sorT W ss [(i, 0)]) → Q (.ref t) H'
theorem ok_ls {f : Addr} {fd : FuncData} (F : L2.Fun K "least_sums" "least_sums" sLeastSums f fd) (cS : C8.Cal P w K mg base 2 "sums_or_ring" (spSor K) []) : FnOk P w K mg base CX0 3 f fd ["steps", "weights", "place"] (spLs K) := by
  refine F.ok scLs (fun vs H Q E h => ?_) (fun cdv Ar outer s H vs Q E hr h => ?_)
  · obtain ⟨p, q, xs, ss, W, i, U, rfl, _⟩ := h
    rfl
  · obtain ⟨p, q, xs, ss, W, i, U, rfl, hp, hD, hq, hz, hi, hU, hUl, kQ⟩ := h
    refine ⟨_, pss_one (ps_ret (C8.pe_c cS hr (by decide) (by rfl) (pa_cons (pv 0) (pa_cons (pv 1) (pa_cons (pe_disp (pps_cons (pv 2) pe_int pps_nil) rfl rfl (by simp) (by show 1 ≤ 15; decide)) pa_nil))))), ?_⟩
    refine ⟨_, rfl, _, rfl, fun S hS => ?_⟩
    refine ⟨_, rfl, upd_same, [(Sum.inl i, V.int 0)], rfl, by show 1 ≤ 15; decide, ?_⟩
    have e1 : Ex H (upd (upd H S (.dK [])) S (.dK (mergeK [] [((Sum.inl i : Key), V.int 0)]))) := (Ex.new hS).mut hS
    have j1 : upd (upd H S (.dK [])) S (.dK (mergeK [] [((Sum.inl i : Key), V.int 0)])) S = some (.dK (smK [(i, 0)])) := upd_same
    generalize upd (upd H S (.dK [])) S (.dK (mergeK [] [((Sum.inl i : Key), V.int 0)])) = G1 at e1 j1 ⊢
    refine ⟨p, q, S, xs, ss, W, [(i, 0)], U, H, rfl, e1, hS, hp, hD, hq, hz, j1, by simp, (fun v hv => ?_), hU, List.length_pos_of_mem hi, hUl, fun H' t e ht hR => kQ H' t (e) (fresh_back e1 ht) (hR.back e1)⟩
    have := gt_mem.mp hv
    have e : v = i := by simpa using this
    rw [e]
    exact hi
end
end AA

set_option Elab.async false
set_option linter.all false
set_option maxRecDepth 100000
set_option maxHeartbeats 4000000
/-! row_along. -/
namespace AA
open PySem PySem.Spec PyProof.Rows L2 Evl
section
variable {P : Program} {w : World} {K : PySem.W.Frag} {mg : Str → Option Value} {base : Heap}
def sumI (f : St5 → Int) (ws : List St5) : Int := (ws.map f).sum
def spRowA (K : PySem.W.Frag) : Sp := fun vs H Q _ => ∃ (p : Addr) (ys : List V) (ws : List St5), vs = [.ref p] ∧ SqL K H p ys ∧ DpAll K H ys (ws.map stD) ∧ ws.length ≤ 1000000 ∧
  ∀ (H' : Hp) (q : Addr), Ex H H' → H q = none → H' q = some (.tup [.int (sumI (·.p) ws), .int (sumI (·.q) ws), .int (sumI (·.ticks) ws)]) → Q (.ref q) H'
abbrev nmRA : List Str := ["walk", "first", "second", "step"]
theorem scRA : FnScope nmRA ["walk"] (defScope sRowAlong) := ⟨rfl, rfl, rfl, by decide +kernel, rfl, by decide +kernel, by decide +kernel⟩
theorem ok_rowA {f : Addr} {fd : FuncData} (F : L2.Fun K "row_along" "row_along" sRowAlong f fd) (B : Bn mg) : FnOk P w K mg base CX0 1 f fd ["walk"] (spRowA K) := by
  refine F.ok scRA (fun vs H Q E h => ?_) (fun cdv Ar outer s H vs Q E hr h => ?_)
  · obtain ⟨p, ys, ws, rfl, _⟩ := h
    rfl
  · obtain ⟨p, ys, ws, rfl, hp, hD, hz, kQ⟩ := h
    refine ⟨_, Evl.pss_cut (ps_set (i := 1) scRA.nd rfl (Or.inl rfl) (pe_callB (r := rSum K) (cr_sum (by rfl)) (by rfl) B.sum boot_sum (pa_cons (pe_lc (own := [("step", 3)]) (g := gName 3) (tt := tYes) (by rfl) scRA.nd (pi_list (pv 0)) (blkOk_by (N := nmRA) (sc := defScope sRowAlong) (by decide +kernel)) (fun _ _ _ _ _ => pg_name (i := 3) scRA.nd rfl (Or.inl rfl)) (fun _ _ _ _ _ => pts_nil)
          (fun _ _ _ _ _ => pe_ix (r := rIxT K) ix_tup (pe_ix (r := rIxT K) ix_tup (pv 3) pe_int (fun _ _ => rfl)) pe_int (fun _ _ => rfl))) pa_nil)))
      (Evl.pss_cut (ps_set (i := 2) scRA.nd rfl (Or.inl rfl) (pe_callB (r := rSum K) (cr_sum (by rfl)) (by rfl) B.sum boot_sum (pa_cons (pe_lc (own := [("step", 3)]) (g := gName 3) (tt := tYes) (by rfl) scRA.nd (pi_list (pv 0)) (blkOk_by (N := nmRA) (sc := defScope sRowAlong) (by decide +kernel)) (fun _ _ _ _ _ => pg_name (i := 3) scRA.nd rfl (Or.inl rfl)) (fun _ _ _ _ _ => pts_nil)
          (fun _ _ _ _ _ => pe_ix (r := rIxT K) ix_tup (pe_ix (r := rIxT K) ix_tup (pv 3) pe_int (fun _ _ => rfl)) pe_int (fun _ _ => rfl))) pa_nil)))
      (pss_one (ps_ret (pe_tup (pa_cons (pv 1) (pa_cons (pv 2) (pa_cons (pe_callB (r := rSum K) (cr_sum (by rfl)) (by rfl) B.sum boot_sum (pa_cons (pe_lc (own := [("step", 3)]) (g := gName 3) (tt := tYes) (by rfl) scRA.nd (pi_list (pv 0)) (blkOk_by (N := nmRA) (sc := defScope sRowAlong) (by decide +kernel)) (fun _ _ _ _ _ => pg_name (i := 3) scRA.nd rfl (Or.inl rfl)) (fun _ _ _ _ _ => pts_nil)
          (fun _ _ _ _ _ => pe_ix (r := rIxT K) ix_tup (pv 3) pe_int (fun _ _ => rfl))) pa_nil)) pa_nil))))))), ?_⟩
    have hyl := sts_len hD
    have tkm : ∀ (f : St5 → Int) (i : Nat) (s : St5), ws[i]? = some s → ((ws.take i).map f).map V.int ++ [V.int (f s)] = ((ws.take (i + 1)).map f).map V.int := fun f i s hs => by
      rw [List.take_add_one, hs, List.map_append, List.map_append]
      rfl
    have szm : ∀ (f : St5 → Int) (i : Nat), i < ys.length → (((ws.take i).map f).map V.int).length < sizeLine := fun f i hi => by
      rw [List.length_map, List.length_map, List.length_take]
      exact sz_m (by omega)
    refine ⟨fun σ G => σ = [some (.ref p), some (.int (sumI (·.p) ws)), none, none] ∧ Ex H G, ?_, ?_⟩
    · refine ⟨_, rfl, p, rfl, ⟨_, hp⟩, fun D hD0 => ?_⟩
      refine lc_list (xs := ys) (fun i G => Ex H G ∧ G D = some (.lst (((ws.take i).map (·.p)).map V.int))) ⟨Ex.new hD0, upd_same⟩ (fun i G _ q => ex_l q.1 hp) ?_ ?_
      · rintro i x G hx ⟨q1, q2⟩
        obtain ⟨s, t, hs, rfl, ht⟩ := sts_get hD hx
        obtain ⟨_, u, e, p1, p2⟩ := stD_inv (dp_ex q1 _ _ ht)
        cases e
        refine ⟨rfl, _, rfl, t, _, 2, .ref u, rfl, rfl, p1, rfl, u, _, 0, .int s.p, rfl, rfl, p2, rfl, _, q2, szm _ i (get_len hx), q1.mut hD0, ?_⟩
        rw [upd_same, tkm (·.p) i s hs]
      · rintro G ⟨q1, q2⟩
        rw [hyl, List.take_length] at q2
        exact ⟨D, _, rfl, SqL.of q2, rfl, q1⟩
    rintro σ G1 ⟨rfl, e1⟩
    refine ⟨fun σ G => σ = [some (.ref p), some (.int (sumI (·.p) ws)), some (.int (sumI (·.q) ws)), none] ∧ Ex H G, ?_, ?_⟩
    · refine ⟨_, rfl, p, rfl, ⟨_, ex_l e1 hp⟩, fun D hD0 => ?_⟩
      refine lc_list (xs := ys) (fun i G => Ex G1 G ∧ G D = some (.lst (((ws.take i).map (·.q)).map V.int))) ⟨Ex.new hD0, upd_same⟩ (fun i G _ q => ex_l (e1.trans q.1) hp) ?_ ?_
      · rintro i x G hx ⟨q1, q2⟩
        obtain ⟨s, t, hs, rfl, ht⟩ := sts_get hD hx
        obtain ⟨_, u, e, p1, p2⟩ := stD_inv (dp_ex (e1.trans q1) _ _ ht)
        cases e
        refine ⟨rfl, _, rfl, t, _, 2, .ref u, rfl, rfl, p1, rfl, u, _, 1, .int s.q, rfl, rfl, p2, rfl, _, q2, szm _ i (get_len hx), q1.mut hD0, ?_⟩
        rw [upd_same, tkm (·.q) i s hs]
      · rintro G ⟨q1, q2⟩
        rw [hyl, List.take_length] at q2
        exact ⟨D, _, rfl, SqL.of q2, rfl, e1.trans q1⟩
    rintro σ G2 ⟨rfl, e2⟩
    refine ⟨_, rfl, _, rfl, _, rfl, p, rfl, ⟨_, ex_l e2 hp⟩, fun D hD0 => ?_⟩
    refine lc_list (xs := ys) (fun i G => Ex G2 G ∧ G D = some (.lst (((ws.take i).map (·.ticks)).map V.int))) ⟨Ex.new hD0, upd_same⟩ (fun i G _ q => ex_l (e2.trans q.1) hp) ?_ ?_
    · rintro i x G hx ⟨q1, q2⟩
      obtain ⟨s, t, hs, rfl, ht⟩ := sts_get hD hx
      obtain ⟨_, u, e, p1, p2⟩ := stD_inv (dp_ex (e2.trans q1) _ _ ht)
      cases e
      refine ⟨rfl, _, rfl, t, _, 3, .int s.ticks, rfl, rfl, p1, rfl, _, q2, szm _ i (get_len hx), q1.mut hD0, ?_⟩
      rw [upd_same, tkm (·.ticks) i s hs]
    · rintro G ⟨q1, q2⟩
      rw [hyl, List.take_length] at q2
      refine ⟨D, _, rfl, SqL.of q2, by show 3 ≤ sizeLine; decide, fun q hq => ?_⟩
      exact kQ _ q ((e2.trans q1).trans (Ex.new hq)) (fresh_back (e2.trans q1) hq) upd_same
end
end AA

set_option Elab.async false
set_option linter.all false
set_option maxRecDepth 100000
set_option maxHeartbeats 4000000
/-! cheapest_ring. -/
namespace AA
open PySem PySem.Spec PyProof.Rows L2 Evl
/-- nothing, or more -/
def mx0 (l : List Int) : Int := l.foldr max 0
theorem mx0_mem : ∀ l : List Int, mx0 l ∈ (0 : Int) :: l
  | [] => List.mem_singleton.mpr rfl
  | x :: l => by
    show max x (mx0 l) ∈ _
    by_cases h : x ≤ mx0 l
    · rw [Int.max_eq_right h]
      rcases List.mem_cons.mp (mx0_mem l) with z | z
      · rw [z]; exact List.mem_cons_self
      · exact List.mem_cons_of_mem _ (List.mem_cons_of_mem _ z)
    · rw [Int.max_eq_left (by omega)]
      exact List.mem_cons_of_mem _ List.mem_cons_self
theorem mx0_ge : ∀ l : List Int, ∀ x ∈ (0 : Int) :: l, x ≤ mx0 l
  | [], x, h => by rw [List.mem_singleton.mp h]; exact Int.le_refl _
  | y :: l, x, h => by
    show x ≤ max y (mx0 l)
    rcases List.mem_cons.mp h with z | z
    · have := mx0_ge l 0 List.mem_cons_self
      omega
    · rcases List.mem_cons.mp z with z | z
      · omega
      · have := mx0_ge l x (List.mem_cons_of_mem _ z)
        omega
theorem mx0_eq {l : List Int} {m : Int} (h1 : m ∈ (0 : Int) :: l) (h2 : ∀ y ∈ (0 : Int) :: l, y ≤ m) : m = mx0 l := by
  have a := mx0_ge l m h1
  have b := h2 _ (mx0_mem l)
  omega
/-- a rate above all rings' -/
def t0F (ss : List St5) (pr : Int × Int) : Int := 1 + mx0 (ss.map (cOf pr))
theorem t0F_dear {ss : List St5} {pr : Int × Int} : ∀ s ∈ ss, cOf pr s < t0F ss pr := fun s hs => by
  have := mx0_ge (ss.map (cOf pr)) (cOf pr s) (List.mem_cons_of_mem _ (List.mem_map.mpr ⟨s, hs, rfl⟩))
  unfold t0F
  omega
theorem t0F_nn {ss : List St5} {pr : Int × Int} : 0 ≤ t0F ss pr := by
  have := mx0_ge (ss.map (cOf pr)) 0 List.mem_cons_self
  unfold t0F
  omega
def ChI (ss : List St5) (p : Int) (pr : Int × Int) (rt : Int × Int) (best : Option (List St5)) : Prop := (best = none ∧ rt = (t0F ss pr, 1)) ∨ ∃ ws, best = some ws ∧ rt = (cSum pr ws, tSum ws) ∧ RgFrom ss p ws
theorem ChI.rt {ss : List St5} {p : Int} {pr rt : Int × Int} {best : Option (List St5)} (h : ChI ss p pr rt best) (ht : ∀ s ∈ ss, 1 ≤ s.ticks) : RtOk ss pr rt := by
  rcases h with ⟨_, rfl⟩ | ⟨ws, _, rfl, h⟩
  · have hA := bigA_nn pr ss
    have h00 := t0F_nn (ss := ss) (pr := pr)
    exact ⟨Int.le_refl _, ⟨bigD ss, bigD_pos ss, Int.le_refl _, (Int.one_mul _).symm⟩, by show -bigA pr ss ≤ t0F ss pr; omega⟩
  · exact h.1.rt ht
theorem ChI.less {ss : List St5} {p : Int} {pr rt : Int × Int} {best : Option (List St5)} {U : List Int} (h : ChI ss p pr rt best) (ht : ∀ s ∈ ss, 1 ≤ s.ticks) (hp : p ∈ U) (hU : ∀ s ∈ ss, s.other ∈ U) (hz : U.length ≤ 63) {ws : List St5} (hs : (sorT (wAb pr rt) ss [(p, 0)]).2 = some ws) :
    ChI ss p pr (cSum pr ws, tSum ws) (some ws) ∧ mesr ss pr (cSum pr ws, tSum ws) < mesr ss pr rt := by
  have hk : ∀ q, (gt [(p, (0 : Int))] q).isSome = true → q = p := fun q hq => by
    have := gt_mem.mp hq
    simpa using this
  have so := sorT_ok (W := wAb pr rt) (ss := ss) (I := [(p, 0)]) (U := U) (by simp) (fun q hq => hk q hq ▸ hp) hU hz (List.length_pos_of_mem hp)
  obtain ⟨g1, g2, g3⟩ := so.ring ws hs
  have hw : RgFrom ss p ws := ⟨g1, fun s hs => by
    obtain ⟨q, hq, hr⟩ := g3 s hs
    rw [hk q hq] at hr
    exact hr⟩
  rw [wAb_sum] at g2
  have r1 := h.rt ht
  have r2 := g1.rt (pr := pr) ht
  refine ⟨.inr ⟨ws, rfl, rfl, hw⟩, r1.lt r2 ?_⟩
  show cSum pr ws * rt.2 < rt.1 * tSum ws
  rw [Int.mul_comm (cSum pr ws)]
  omega
/-- a ring has no more steps than there are -/
theorem RgFrom.len {ss ws : List St5} {p : Int} (h : RgFrom ss p ws) : ws.length ≤ ss.length := nd_len ws ss h.1.nds h.1.sub
section
variable {P : Program} {w : World} {K : PySem.W.Frag} {mg : Str → Option Value} {base : Heap}
/-- what is told of a ring -/
def RgR (K : PySem.W.Frag) (H G : Hp) (v : V) : Option (List St5) → Prop
  | none => v = .non
  | some ws => ∃ (rp : Addr) (ys : List V), v = .ref rp ∧ H rp = none ∧ G rp = some (.lst ys) ∧ DpAll K G ys (ws.map stD)
theorem RgR.ex {H G G' : Hp} {v : V} {o : Option (List St5)} (h : RgR K H G v o) (e : Ex G G') : RgR K H G' v o := by
  cases o with
  | none => exact h
  | some ws =>
    obtain ⟨rp, ys, h1, h2, h3, h4⟩ := h
    exact ⟨rp, ys, h1, h2, e _ _ h3, dpa_ex e _ _ h4⟩
def spCh (K : PySem.W.Frag) : Sp := fun vs H Q _ => ∃ (p a : Addr) (i : Int) (xs : List V) (ss : List St5) (pr : Int × Int) (U : List Int), vs = [.ref p, .int i, .ref a] ∧ SqL K H p xs ∧ DpAll K H xs (ss.map stD) ∧ Sq2 K H a pr.1 pr.2 ∧ S64 pr.1 ∧ S64 pr.2 ∧ (∀ s ∈ ss, S64 s.p ∧ S64 s.q ∧ S64 s.ticks) ∧ (∀ s ∈ ss, 1 ≤ s.ticks) ∧ ss.length ≤ 1000000 ∧
  i ∈ U ∧ (∀ s ∈ ss, s.other ∈ U) ∧ U.length ≤ 63 ∧
  ∀ (H' : Hp) (v : V), Ex H H' → RgR K H H' v (cheap ss i pr (t0F ss pr)) → Q v H'
abbrev nmCh : List Str := ["steps", "place", "prices", "rate", "best", "_", "ring", "row", "step"]
theorem scCh : FnScope nmCh ["steps", "place", "prices"] (defScope sCheapestRing) := ⟨rfl, rfl, rfl, by decide +kernel, rfl, by decide +kernel, by decide +kernel⟩
theorem ok_ch {f : Addr} {fd : FuncData} (F : L2.Fun K "cheapest_ring" "cheapest_ring" sCheapestRing f fd) (B : Bn mg) (hmax : mg "max" = none) (cL : C8.Cal P w K mg base 3 "least_sums" (spLs K) []) (cW : C8.Cal P w K mg base 1 "weights_above" (spWab K) []) (cC : C8.Cal P w K mg base 1 "cost_of" (spCostOf K) []) (cR : C8.Cal P w K mg base 1 "row_along" (spRowA K) []) : FnOk P w K mg base CX0 4 f fd ["steps", "place", "prices"] (spCh K) := by
  refine F.ok scCh (fun vs H Q E h => ?_) (fun cdv Ar outer s H vs Q E hr h => ?_)
  · obtain ⟨p, a, i, xs, ss, pr, U, rfl, _⟩ := h
    rfl
  · obtain ⟨p, a, i, xs, ss, pr, U, rfl, hp, hD, ha, s1, s2, hst, ht1, hz, hi, hU, hUl, kQ⟩ := h
    have hu := hr.un
    refine ⟨_, Evl.pss_cut (ps_set (i := 3) scCh.nd rfl (Or.inl rfl) (pe_tup (pa_cons (pe_op op_add pe_int (pe_callB (r := rMax K) (cr_max (by rfl)) (by rfl) hmax boot_max (pa_cons (pe_op op_cat (pe_lst (pa_cons pe_int pa_nil)) (pe_lc (own := [("step", 8)]) (g := gName 8) (tt := tYes) (by rfl) scCh.nd (pi_list (pv 0)) (blkOk_by (N := nmCh) (sc := defScope sCheapestRing) (by decide +kernel)) (fun _ _ _ _ _ => pg_name (i := 8) scCh.nd rfl (Or.inl rfl)) (fun _ _ _ _ _ => pts_nil)
          (fun _ _ _ _ _ => C8.pe_c cC hr (by decide) (by rfl) (pa_cons (pv 2) (pa_cons (pe_ix (r := rIxT K) ix_tup (pv 8) pe_int (fun _ _ => rfl)) pa_nil))))) pa_nil))) (pa_cons pe_int pa_nil))))
      (pss_cons (ps_set (i := 4) scCh.nd rfl (Or.inl rfl) pe_non)
      (pss_one (ps_while PassesOwn.never (pt_val pe_bl)
          (pss_cons (ps_asg (C8.pe_c cL hr (by decide) (by rfl) (pa_cons (pv 0) (pa_cons (C8.pe_c cW hr (by decide) (by rfl) (pa_cons (pv 0) (pa_cons (pv 2) (pa_cons (pv 3) pa_nil)))) (pa_cons (pv 1) pa_nil)))) (pg_tup (n := 2) rfl (pgs_cons (pg_name (i := 5) scCh.nd rfl (Or.inl rfl)) (pgs_cons (pg_name (i := 6) scCh.nd rfl (Or.inl rfl)) pgs_nil))))
          (pss_cons (ps_if (pt_cmp (pc_isN (pv 6))) (pss_one (ps_ret (pv 4))) pss_nil)
          (pss_cons (ps_set (i := 4) scCh.nd rfl (Or.inl rfl) (pv 6))
          (pss_cons (ps_set (i := 7) scCh.nd rfl (Or.inl rfl) (C8.pe_c cR hr (by decide) (by rfl) (pa_cons (pv 6) pa_nil)))
          (pss_one (ps_set (i := 3) scCh.nd rfl (Or.inl rfl) (pe_tup (pa_cons (C8.pe_c cC hr (by decide) (by rfl) (pa_cons (pv 2) (pa_cons (pv 7) pa_nil))) (pa_cons (pe_ix (r := rIxT K) ix_tup (pv 7) pe_int (fun _ _ => rfl)) pa_nil)))))))))))), ?_⟩
    have hyl := sts_len hD
    refine ⟨fun σ G => ∃ (A : Addr), σ = [some (.ref p), some (.int i), some (.ref a), some (.ref A), none, none, none, none, none] ∧ Ex H G ∧ G A = some (.tup [.int (t0F ss pr), .int 1]), ?_, ?_⟩
    · refine ⟨by show 1 ≤ sizeLine; decide, fun L0 hL0 => ?_⟩
      have y0 := Ex.new (o := .lst [V.int 0]) hL0
      have j0 : upd H L0 (.lst [V.int 0]) L0 = some (.lst [V.int 0]) := upd_same
      generalize upd H L0 (.lst [V.int 0]) = G0 at y0 j0 ⊢
      refine ⟨_, rfl, p, rfl, ⟨_, ex_l y0 hp⟩, fun D hD0 => ?_⟩
      refine lc_list (xs := xs) (fun j G => Ex G0 G ∧ G D = some (.lst (((ss.take j).map (cOf pr)).map V.int))) ⟨Ex.new hD0, upd_same⟩ (fun j G _ q => ex_l (y0.trans q.1) hp) ?_ ?_
      · rintro j x G hx ⟨q1, q2⟩
        have il := get_len hx
        obtain ⟨s, t, hs, rfl, ht⟩ := sts_get hD hx
        obtain ⟨_, u, e, p1, p2⟩ := stD_inv (dp_ex (y0.trans q1) _ _ ht)
        cases e
        refine ⟨rfl, _, rfl, _, rfl, t, _, 2, .ref u, rfl, rfl, p1, rfl, a, u, pr.1, pr.2, s.p, s.q, rfl, ha.ex (y0.trans q1), ⟨[], .inr p2⟩, s1, s2, ?_⟩
        refine ⟨_, q2, by rw [List.length_map, List.length_map, List.length_take]; exact sz_m (by omega), q1.mut hD0, ?_⟩
        rw [upd_same, List.take_add_one, hs, List.map_append, List.map_append]
        rfl
      · rintro G ⟨q1, q2⟩
        rw [hyl, List.take_length] at q2
        refine ⟨L0, D, _, _, rfl, rfl, q1 _ _ j0, q2, by rw [List.length_map, List.length_map]; have : sizeLine = 16777216 := rfl; show 1 + ss.length ≤ _; omega, fun M hM => ?_⟩
        have e3 := (y0.trans q1).trans (Ex.new (o := .lst ([V.int 0] ++ (ss.map (cOf pr)).map V.int)) hM)
        have j3 : upd G M (.lst ([V.int 0] ++ (ss.map (cOf pr)).map V.int)) M = some (.lst (((0 : Int) :: ss.map (cOf pr)).map V.int)) := upd_same
        generalize upd G M (.lst ([V.int 0] ++ (ss.map (cOf pr)).map V.int)) = G3 at e3 j3 ⊢
        refine ⟨M, 0 :: ss.map (cOf pr), rfl, SqL.of j3, by simp, fun m hm hge => ?_⟩
        obtain rfl := mx0_eq hm hge
        refine ⟨_, _, rfl, rfl, by show 2 ≤ sizeLine; decide, fun A hA => ?_⟩
        exact ⟨A, rfl, e3.trans (Ex.new hA), upd_same⟩
    rintro σ G ⟨A, rfl, e, hA⟩
    refine ⟨fun mm σ G => ∃ (A : Addr) (rt : Int × Int) (best : Option (List St5)) (bv : V) (x5 x6 x7 : Option V) (fu : Nat), σ = [some (.ref p), some (.int i), some (.ref a), some (.ref A), some bv, x5, x6, x7, none] ∧ mm = (mesr ss pr rt).toNat ∧ Ex H G ∧ G A = some (.tup [.int rt.1, .int rt.2]) ∧ ChI ss i pr rt best ∧ RgR K H G bv best ∧ cheap ss i pr (t0F ss pr) = chp ss i pr fu rt best ∧ mesr ss pr rt < fu,
      ⟨_, A, (t0F ss pr, 1), none, .non, none, none, none, chF ss pr (t0F ss pr), rfl, rfl, e, hA, .inl ⟨rfl, rfl⟩, rfl, rfl, by unfold chF; omega⟩, ?_⟩
    rintro mm σ G2 ⟨A2, rt, best, bv, x5, x6, x7, fu, rfl, rfl, e2, hA2, ci, hb, ec, hfu⟩
    have nn := (ci.rt ht1).nn
    obtain ⟨fu, rfl⟩ : ∃ f, fu = f + 1 := ⟨fu - 1, by omega⟩
    refine ⟨_, rfl, iteT ⟨_, fun _ _ h => h, ?_⟩⟩
    refine ⟨_, rfl, _, rfl, _, rfl, _, rfl, p, a, A2, xs, ss, pr, rt, rfl, ex_l e2 hp, dpa_ex e2 _ _ hD, ha.ex e2, SqT.of hA2, s1, s2, hst, hz, fun G3 q e3 q0 hq => ?_⟩
    have e23 := e2.trans e3
    refine ⟨_, rfl, p, q, xs, ss, wAb pr rt, i, U, rfl, ex_l e23 hp, dpa_ex e23 _ _ hD, SqL.of hq, hz, hi, hU, hUl, fun G4 t e4 t0 hR => ?_⟩
    have e24 := e23.trans e4
    unfold SorR at hR
    cases hs : (sorT (wAb pr rt) ss [(i, 0)]).2 with
    | none =>
      rw [hs] at hR
      obtain ⟨dp, l, h1, h2, _⟩ := hR
      refine ⟨t, _, rfl, SqT.of h1, rfl, _, _, rfl, _, _, rfl, rfl, ?_⟩
      refine ⟨_, rfl, _, rfl, iteT ⟨_, rfl, ?_⟩⟩
      refine kQ G4 bv e24 ?_
      have : chp ss i pr (fu + 1) rt best = best := by
        show (match (sorT (wAb pr rt) ss [(i, 0)]).2 with | none => best | some ws => chp ss i pr fu (cSum pr ws, tSum ws) (some ws)) = best
        rw [hs]
      rw [ec, this]
      exact hb.ex (e3.trans e4)
    | some ws =>
      rw [hs] at hR
      obtain ⟨rp, ys, h1, h2, h3, h4⟩ := hR
      obtain ⟨ci', hlt⟩ := ci.less ht1 hi hU hUl hs
      have hwl : ws.length ≤ ss.length := by
        rcases ci' with ⟨z, _⟩ | ⟨ws', z, _, hw⟩
        · cases z
        · obtain rfl := Option.some.inj z
          exact hw.len
      have nn' := (ci'.rt ht1).nn
      refine ⟨t, _, rfl, SqT.of h1, rfl, _, _, rfl, _, _, rfl, rfl, ?_⟩
      refine ⟨_, rfl, _, rfl, iteF ?_⟩
      refine ⟨_, rfl, _, rfl, rp, ys, ws, rfl, SqL.of h2, h3, by omega, fun G5 q5 e5 q50 hq5 => ?_⟩
      have e25 := e24.trans e5
      refine ⟨_, rfl, _, rfl, a, q5, pr.1, pr.2, _, _, rfl, ha.ex e25, ⟨[_], .inr (SqT.of hq5)⟩, s1, s2, ?_⟩
      refine ⟨_, rfl, q5, _, 2, .int (sumI (·.ticks) ws), rfl, rfl, SqT.of hq5, rfl, by show 2 ≤ sizeLine; decide, fun A3 hA3 => ?_⟩
      have e6 := Ex.new (o := .tup [.int (pr.1 * sumI (·.p) ws + pr.2 * sumI (·.q) ws), .int (sumI (·.ticks) ws)]) hA3
      refine ⟨_, ?_, A3, (cSum pr ws, tSum ws), some ws, .ref rp, _, _, _, fu, rfl, rfl, e25.trans e6, upd_same, ci', ⟨rp, ys, rfl, fresh_back e23 h4, (e5.trans e6) _ _ h2, dpa_ex (e5.trans e6) _ _ h3⟩, ?_, by omega⟩
      · omega
      · rw [ec]
        show (match (sorT (wAb pr rt) ss [(i, 0)]).2 with | none => best | some ws => chp ss i pr fu (cSum pr ws, tSum ws) (some ws)) = _
        rw [hs]
end
end AA

set_option Elab.async false
set_option linter.all false
set_option maxRecDepth 100000
set_option maxHeartbeats 4000000
/-! undivided. -/
namespace AA
open PySem PySem.Spec PyProof.Rows L2 Evl
/-- the greatest common divisor of integers -/
def gcs (ns : List Int) : Nat := ns.foldl (fun c n => Nat.gcd c n.natAbs) 0
def low (ns : List Int) : List Int := ns.map fun n => n / (gcs ns : Int)
section
variable {P : Program} {w : World} {K : PySem.W.Frag} {mg : Str → Option Value} {base : Heap}
def spUnd (K : PySem.W.Frag) : Sp := fun vs H Q _ => ∃ (a : Addr) (ns : List Int), vs = [.ref a] ∧ SqT K H a (ns.map V.int) ∧ ns.length ≤ 1000 ∧ 0 < gcs ns ∧ gcs ns < 1073741824 ∧
  ∀ (H' : Hp) (q : Addr), Ex H H' → H q = none → H' q = some (.tup ((low ns).map V.int)) → Q (.ref q) H'
abbrev nmUd : List Str := ["integers", "common", "integer"]
theorem scUd : FnScope nmUd ["integers"] (defScope sUndivided) := ⟨rfl, rfl, rfl, by decide +kernel, rfl, by decide +kernel, by decide +kernel⟩
theorem ok_und {f : Addr} {fd : FuncData} (F : L2.Fun K "undivided" "undivided" sUndivided f fd) (B : Bn mg) (hgcd : mg "gcd" = some (.builtin "math.gcd")) : FnOk P w K mg base CX0 1 f fd ["integers"] (spUnd K) := by
  refine F.ok scUd (fun vs H Q E h => ?_) (fun cdv Ar outer s H vs Q E hr h => ?_)
  · obtain ⟨a, ns, rfl, _⟩ := h
    rfl
  · obtain ⟨a, ns, rfl, ha, hz, g0, g1, kQ⟩ := h
    refine ⟨_, pss_cons (ps_set (i := 1) scUd.nd rfl (Or.inr rfl) pe_int)
      (Evl.pss_cut (ps_for PassesOwn.never rfl (pi_tup (pv 0)) (pg_name (i := 2) scUd.nd rfl (Or.inl rfl))
          (pss_one (ps_set (i := 1) scUd.nd rfl (Or.inr rfl) (pe_callBfun cr_gcd (by rfl) hgcd (pa_cons (pv 1) (pa_cons (pv 2) pa_nil))))))
      (pss_one (ps_ret (pe_callTy call_tuple_of (by rfl) B.tuple boot_tuple (pa_cons (pe_lc (own := [("integer", 2)]) (g := gName 2) (tt := tYes) (by rfl) scUd.nd (pi_tup (pv 0)) (blkOk_by (N := nmUd) (sc := defScope sUndivided) (by decide +kernel)) (fun _ _ _ _ _ => pg_name (i := 2) scUd.nd rfl (Or.inl rfl)) (fun _ _ _ _ _ => pts_nil)
          (fun _ _ _ _ _ => pe_op op_fdiv (pv 2) (pv 1))) pa_nil))))), ?_⟩
    refine ⟨fun σ G => ∃ (x2 : Option V), σ = [some (.ref a), some (.int (gcs ns : Nat)), x2] ∧ G = H, ?_, ?_⟩
    · refine ⟨_, rfl, a, rfl, ⟨_, ha⟩, ?_⟩
      refine for_tup (K := K) (a := a) (xs := ns.map V.int) (fun i σ G => ∃ (x2 : Option V), σ = [some (.ref a), some (.int (gcs (ns.take i) : Nat)), x2] ∧ G = H) ⟨none, rfl, rfl⟩ (fun i σ G _ ⟨_, _, e⟩ => by rw [e]; exact ha) ?_ ?_
      · rintro i x σ G hx ⟨x2, rfl, rfl⟩
        obtain ⟨c, hc, rfl⟩ := get_ints hx
        refine ⟨_, rfl, _, rfl, _, _, rfl, ?_⟩
        refine ⟨some (.int c), ?_, rfl⟩
        have tk : gcs (ns.take (i + 1)) = Nat.gcd (gcs (ns.take i)) c.natAbs := by
          rw [List.take_add_one, hc]
          unfold gcs
          rw [List.foldl_append]
          rfl
        rw [tk]
        rfl
      · rintro σ G ⟨x2, rfl, rfl⟩
        rw [List.length_map, List.take_length]
        exact ⟨x2, rfl, rfl⟩
    rintro σ G ⟨x2, rfl, rfl⟩
    refine ⟨_, rfl, a, rfl, ⟨_, ha⟩, fun D hD0 => ?_⟩
    refine lc_tup (xs := ns.map V.int) (fun i G2 => Ex G G2 ∧ G2 D = some (.lst (((ns.take i).map fun n => n / (gcs ns : Int)).map V.int))) ⟨Ex.new hD0, upd_same⟩ (fun i G2 _ q => ex_t q.1 ha) ?_ ?_
    · rintro i x G2 hx ⟨q1, q2⟩
      obtain ⟨c, hc, rfl⟩ := get_ints hx
      have il := get_len hc
      refine ⟨rfl, _, rfl, _, rfl, _, _, rfl, rfl, ⟨by omega, by omega⟩, _, q2, by rw [List.length_map, List.length_map, List.length_take]; exact sz_m (by omega), q1.mut hD0, ?_⟩
      rw [upd_same, List.take_add_one, hc, List.map_append, List.map_append]
      rfl
    · rintro G2 ⟨q1, q2⟩
      rw [List.length_map, List.take_length] at q2
      refine ⟨D, _, rfl, .inl ⟨SqL.of q2, fun q hq => ?_⟩⟩
      exact kQ _ q (q1.trans (Ex.new hq)) (fresh_back q1 hq) upd_same
end
end AA

set_option Elab.async false
set_option linter.all false
set_option maxRecDepth 100000
set_option maxHeartbeats 4000000
/-! is_integers. -/
namespace AA
open PySem PySem.Spec PyProof.Rows L2 Evl
section
theorem for_seqA {K : PySem.W.Frag} {a : Addr} {xs : List V} {g : TG} {tb : TS} {D : Ends} {σ : L2.St} {H0 H : Hp} (hq : SqL K H0 a xs ∨ SqT K H0 a xs) (Pv : Nat → L2.St → Hp → Prop) (h0 : Pv 0 σ H) (he : ∀ i σ G, Pv i σ G → Ex H0 G)
    (hs : ∀ i x σ H, xs[i]? = some x → Pv i σ H → g x σ H fun σ2 H2 => tb { D with nx := Pv (i + 1), ct := Pv (i + 1), bk := D.nx } σ2 H2) (hd : ∀ σ H, Pv xs.length σ H → D.nx σ H) :
    ((∃ xs, SqL K H a xs) ∧ ∃ W : Nat → Nat → L2.St → Hp → Prop, (∃ m, W 0 m σ H) ∧ ∀ i m σ H, W i m σ H →
      ((Itl K a).stop i H ∧ D.nx σ H) ∨ ((Itl K a).go i H ∧ ∃ N : L2.St → Hp → Prop, (∀ σ' H', N σ' H' → ∃ m', m' < m ∧ W (i + 1) m' σ' H') ∧ ∀ x H', (Itl K a).yld i H x H' → g x σ H' fun σ2 H2 => tb { D with nx := N, ct := N, bk := D.nx } σ2 H2)) ∨
    ((∃ xs, SqT K H a xs) ∧ ∃ W : Nat → Nat → L2.St → Hp → Prop, (∃ m, W 0 m σ H) ∧ ∀ i m σ H, W i m σ H →
      ((Itt K a).stop i H ∧ D.nx σ H) ∨ ((Itt K a).go i H ∧ ∃ N : L2.St → Hp → Prop, (∀ σ' H', N σ' H' → ∃ m', m' < m ∧ W (i + 1) m' σ' H') ∧ ∀ x H', (Itt K a).yld i H x H' → g x σ H' fun σ2 H2 => tb { D with nx := N, ct := N, bk := D.nx } σ2 H2)) :=
  hq.imp (fun q => ⟨⟨xs, ex_l (he _ _ _ h0) q⟩, for_list Pv h0 (fun i σ G hi p => ex_l (he i σ G p) q) hs hd⟩) (fun q => ⟨⟨xs, ex_t (he _ _ _ h0) q⟩, for_tup Pv h0 (fun i σ G hi p => ex_t (he i σ G p) q) hs hd⟩)
end
section
variable {P : Program} {w : World} {K : PySem.W.Frag} {mg : Str → Option Value} {base : Heap}
/-- a thing that is no list of so many integers -/
def NoInts (K : PySem.W.Frag) (H : Hp) (m : Int) (v : V) : Prop := Lk K H v false ∨ ∃ (a : Addr) (xs : List V), v = .ref a ∧ SqA K H a xs ∧ ((xs.length : Int) ≠ m ∨ ∃ (is : List Int) (z : V) (r : List V), xs = is.map V.int ++ z :: r ∧ NotI K H z)
def spInts (K : PySem.W.Frag) : Sp := fun vs H Q _ => ∃ (v : V) (m : Int), vs = [v, .int m] ∧ ((NoInts K H m v ∧ ∀ H', Ex H H' → Q (.bl false) H') ∨ ∃ (a : Addr) (ns : List Int), v = .ref a ∧ SqA K H a (ns.map V.int) ∧ (ns.length : Int) = m ∧ ∀ H', Ex H H' → Q (.bl true) H')
abbrev nmIn : List Str := ["thing", "many", "part"]
theorem scIn : FnScope nmIn ["thing", "many"] (defScope sIsIntegers) := ⟨rfl, rfl, rfl, by decide +kernel, rfl, by decide +kernel, by decide +kernel⟩
theorem ok_ints {f : Addr} {fd : FuncData} (F : L2.Fun K "is_integers" "is_integers" sIsIntegers f fd) (T : Bn mg) (cL : C8.Cal P w K mg base 1 "is_list" (spIsList K) []) : FnOk P w K mg base CX0 2 f fd ["thing", "many"] (spInts K) := by
  refine F.ok scIn (fun vs H Q E h => ?_) (fun cdv Ar outer s H vs Q E hr h => ?_)
  · obtain ⟨v, m, rfl, _⟩ := h
    rfl
  · obtain ⟨v, m, rfl, h⟩ := h
    refine ⟨_, pss_cons (ps_if (PW.pt (pw_or (pt_not (pt_val (C8.pe_c cL hr (by decide) (by rfl) (pa_cons (pv 0) pa_nil)))) (pw_or1 (pt_cmpR op_ne (pe_callB call_len_seq (by rfl) T.len PySem.boot_len (pa_cons (pv 0) pa_nil)) (pv 1) (nomark _)))))
        (pss_one (ps_ret pe_bl)) pss_nil)
      (Evl.pss_cut (ps_for PassesOwn.never rfl (pi_or (pi_list (pv 0)) (pi_tup (pv 0))) (pg_name (i := 2) scIn.nd rfl (Or.inl rfl))
        (pss_one (ps_if (PW.pt (pw_or (pt_not (pt_val (pe_callB call_is1 (by rfl) T.isinstance boot_isinstance (pa_cons (pv 2) (pa_cons (pe_bltn (v := .ty "int") (by rfl) T.int boot_int rfl) pa_nil)))))
            (pw_or1 (pt_val (pe_callB call_is1 (by rfl) T.isinstance boot_isinstance (pa_cons (pv 2) (pa_cons (pe_bltn (v := .ty "bool") (by rfl) T.bool boot_bool rfl) pa_nil)))))))
          (pss_one (ps_ret pe_bl)) pss_nil)))
      (pss_one (ps_ret pe_bl))), ?_⟩
    rcases h with ⟨hno, k⟩ | ⟨a, ns, rfl, hs, hm, k⟩
    · rcases hno with hl | ⟨a, xs, rfl, hs, hno⟩
      · exact ⟨_, rfl, v, _, rfl, hl, fun H1 e1 => ⟨_, rfl, iteT (iteT (k _ e1))⟩⟩
      refine ⟨_, rfl, .ref a, _, rfl, lk_sq hs, fun H1 e1 => ⟨_, rfl, iteF ?_⟩⟩
      have hs1 := hs.ex e1
      refine ⟨_, rfl, a, xs, rfl, hs1, _, rfl, rfl, _, rfl, ?_⟩
      by_cases hm : (xs.length : Int) = m
      · rw [decide_eq_true (show V.int (xs.length : Int) = V.int m by rw [hm])]
        obtain ⟨is, z, r, hz, hni⟩ := hno.resolve_left (fun q => q hm)
        refine iteF ?_
        refine ⟨fun σ G => False, ?_, fun σ G h => h.elim⟩
        refine Or.imp (fun z => ⟨_, rfl, a, rfl, z.1, z.2⟩) (fun z => ⟨_, rfl, a, rfl, z.1, z.2⟩) (for_seqA (K := K) (a := a) (xs := xs) (H0 := H1) hs1
          (fun i σ G => ∃ x2 : Option V, σ = [some (.ref a), some (.int m), x2] ∧ G = H1 ∧ i ≤ is.length) ?_ ?_ ?_ ?_)
        · exact ⟨none, rfl, rfl, Nat.zero_le _⟩
        · rintro i σ G ⟨_, _, rfl, _⟩
          exact fun _ _ h => h
        · rintro i y σ G hy ⟨x2, rfl, rfl, hi⟩
          by_cases hlt : i < is.length
          · rw [hz, List.getElem?_append_left (by rw [List.length_map]; exact hlt)] at hy
            obtain ⟨c, _, rfl⟩ := get_ints hy
            refine ⟨_, rfl, _, _, _, .type "int", _, rfl, .ty _, ty_dp (d := .int c) (.int c), kd_int (.int c), _, rfl, ?_⟩
            refine iteF ?_
            exact ⟨_, rfl, _, _, _, .type "bool", _, rfl, .ty _, ty_dp (d := .int c) (.int c), kd_bool (.int c), _, rfl, iteF ⟨_, rfl, rfl, hlt⟩⟩
          · have hie : i = is.length := by omega
            subst hie
            rw [hz, List.getElem?_append_right (by rw [List.length_map]; exact Nat.le_refl _), List.length_map, Nat.sub_self] at hy
            cases (Option.some.inj hy)
            obtain ⟨t, bi, bb, h1, h2, h3, h4⟩ := hni
            refine ⟨_, rfl, _, _, _, .type "int", _, rfl, .ty _, h1 _ (nt_le.trans e1), h2, _, rfl, ?_⟩
            cases bi with
            | false => exact iteT (iteT (k _ e1))
            | true =>
              refine iteF ?_
              refine ⟨_, rfl, _, _, _, .type "bool", _, rfl, .ty _, h1 _ (nt_le.trans e1), h3, _, rfl, ?_⟩
              cases bb with
              | true => exact iteT (k _ e1)
              | false => cases h4
        · rintro σ G ⟨x2, rfl, rfl, hi⟩
          rw [hz, List.length_append, List.length_cons, List.length_map] at hi
          omega
      · rw [decide_eq_false (show ¬ V.int (xs.length : Int) = V.int m from fun q => hm (V.int.inj q))]
        exact iteT (k _ e1)
    · refine ⟨_, rfl, .ref a, _, rfl, lk_sq hs, fun H1 e1 => ⟨_, rfl, iteF ?_⟩⟩
      have hs1 := hs.ex e1
      refine ⟨_, rfl, a, _, rfl, hs1, _, rfl, rfl, _, rfl, ?_⟩
      rw [decide_eq_true (show V.int ((ns.map V.int).length : Int) = V.int m by rw [List.length_map, hm])]
      refine iteF ?_
      refine ⟨fun σ G => ∃ x2 : Option V, σ = [some (.ref a), some (.int m), x2] ∧ G = H1, ?_, ?_⟩
      · refine Or.imp (fun z => ⟨_, rfl, a, rfl, z.1, z.2⟩) (fun z => ⟨_, rfl, a, rfl, z.1, z.2⟩) (for_seqA (K := K) (a := a) (xs := ns.map V.int) (H0 := H1) hs1
          (fun i σ G => ∃ x2 : Option V, σ = [some (.ref a), some (.int m), x2] ∧ G = H1) ⟨none, rfl, rfl⟩ (fun i σ G ⟨_, _, e⟩ => by rw [e]; exact fun _ _ h => h) ?_ (fun σ G h => h))
        rintro i y σ G hy ⟨x2, rfl, rfl⟩
        obtain ⟨c, _, rfl⟩ := get_ints hy
        refine ⟨_, rfl, _, _, _, .type "int", _, rfl, .ty _, ty_dp (d := .int c) (.int c), kd_int (.int c), _, rfl, ?_⟩
        refine iteF ?_
        exact ⟨_, rfl, _, _, _, .type "bool", _, rfl, .ty _, ty_dp (d := .int c) (.int c), kd_bool (.int c), _, rfl, iteF ⟨_, rfl, rfl⟩⟩
      · rintro σ G ⟨x2, rfl, rfl⟩
        exact k _ e1
end
end AA

set_option Elab.async false
set_option linter.all false
set_option maxRecDepth 100000
set_option maxHeartbeats 4000000
/-! check_place; the error of places. -/
namespace AA
open PySem PySem.Spec PyProof.Rows L2 Evl
section
variable {P : Program} {w : World} {K : PySem.W.Frag} {mg : Str → Option Value} {base : Heap}
theorem scBadPc : FnScope ["self", "place"] ["self", "place"] (defScope sBadPcInit) := ⟨rfl, rfl, rfl, by decide +kernel, rfl, by decide +kernel, by decide +kernel⟩
theorem ok_badPc {CB f fI : Addr} {fd : FuncData} (F : L2.Fun K "__init__" "BadPlace.__init__" sBadPcInit f fd) (T : ExT K mg "BadPlace" "place" CB fI) : FnOk P w K mg base CX0 1 f fd ["self", "place"] (spExI CB "place") := by
  refine F.ok scBadPc (fun vs H Q E h => ?_) (fun cdv A outer s H vs Q E hr h => ?_)
  · obtain ⟨a, v, rfl, _⟩ := h
    rfl
  · obtain ⟨a, v, rfl, ha, k⟩ := h
    exact ⟨_, pss_one (ps_ost (pv 0) (pv 1) rfl), _, rfl, _, rfl, a, CB, rfl, T.ox, T.no, .inl ⟨ha, k⟩⟩
/-- a thing that is no place of so many -/
def NoPlc (K : PySem.W.Frag) (H : Hp) (n : Int) (v : V) : Prop := NotI K H v ∨ ∃ j : Int, v = .int j ∧ (j < 0 ∨ n ≤ j)
theorem NoPlc.ex {H H' : Hp} {n : Int} {v : V} (h : NoPlc K H n v) (e : Ex H H') : NoPlc K H' n v := h.imp (fun y => y.ex e) id
def spPlc (K : PySem.W.Frag) (CW CB : Addr) : Sp := fun vs H Q E => ∃ (x : Addr) (n : Int) (ss : List St5) (v : V), vs = [.ref x, v] ∧ WebAt K CW H x n ss ∧ ((NoPlc K H n v ∧ BadE CB "place" H v E) ∨ ∃ i : Int, v = .int i ∧ 0 ≤ i ∧ i < n ∧ Q .non H)
theorem scPlc : FnScope ["web", "place"] ["web", "place"] (defScope sCheckPlace) := ⟨rfl, rfl, rfl, by decide +kernel, rfl, by decide +kernel, by decide +kernel⟩
theorem ok_plc {f CW CB fB gP : Addr} {fd fdB ddP : FuncData} (F : L2.Fun K "check_place" "check_place" sCheckPlace f fd) (B : Bn mg) (T : WebTxt K mg CW) (TB : ExT K mg "BadPlace" "place" CB fB) (GB : FnOk P w K mg base CX0 1 fB fdB ["self", "place"] (spExI CB "place")) (bB : Binds K fdB ["self", "place"] [])
    (GP : FnOk P w K mg base CX0 1 gP ddP ["self"] (spPlaces K CW)) (bP : Binds K ddP ["self"] []) (mP : Meth K CW "places" gP) (cI : C8.Cal P w K mg base 1 "is_integer" (spIsIntegerV K) []) : FnOk P w K mg base (L2.CX P w) 3 f fd ["web", "place"] (spPlc K CW CB) := by
  refine F.okX scPlc (fun vs H Q E h => ?_) (fun cdv A outer s H vs Q E hr h => ?_)
  · obtain ⟨x, n, ss, v, rfl, _⟩ := h
    rfl
  · obtain ⟨x, n, ss, v, rfl, hw, h⟩ := h
    have hr1 : Room 1 _ := hr.mono (by decide)
    refine ⟨_, pss_one (ps_if (PW.pt (pw_or (pt_not (pt_val (C8.pe_c cI hr (by decide) (by rfl) (pa_cons (pv 1) pa_nil)))) (pw_or (pt_cmpR op_lt (pv 1) pe_int (nomark _)) (pw_or1 (pt_cmpR op_ge (pv 1) (pe_meth0 (pv 0) T.cl mP GP hr1 bP .nil pass0) (nomark _))))))
        (pss_one (ps_raise rfl (takes_of rfl rfl rfl rfl) (pmk_oex TB.ox TB.iC TB.tC GB (hr.mono (by decide)) bB .nil pass0 (by rfl) TB.gC (pa_cons (pv 1) pa_nil)))) pss_nil), ?_⟩
    obtain ⟨dx, l, kd, ys, hx, h2, h3⟩ := id hw
    have no : (wf n l kd).lookup ("places" : Str) = none := wf_no _ _ _ (by decide +kernel) (by decide +kernel) (by decide +kernel)
    rcases h with ⟨hb, kb⟩ | ⟨i, rfl, i0, i1, k⟩
    · rcases hb with hni | ⟨j, rfl, hj⟩
      · refine ⟨_, rfl, v, rfl, .inl ⟨hni, ⟨_, rfl, iteT (iteT ?_)⟩⟩⟩
        exact ⟨_, rfl, by show 1 ≤ 1000; decide, raise_go kb⟩
      · refine ⟨_, rfl, .int j, rfl, .inr ⟨j, rfl, ⟨_, rfl, iteF ?_⟩⟩⟩
        refine ⟨_, rfl, _, _, rfl, rfl, _, rfl, ?_⟩
        refine dec_ite (fun z => iteT ⟨_, rfl, by show 1 ≤ 1000; decide, raise_go kb⟩) (fun z => ?_)
        refine ⟨_, rfl, _, rfl, x, dx, _, rfl, hx, no, x, n, ss, rfl, hw, _, _, rfl, rfl, _, rfl, ?_⟩
        refine dec_ite (fun z => ⟨_, rfl, by show 1 ≤ 1000; decide, raise_go kb⟩) (fun z => ?_)
        omega
    · refine ⟨_, rfl, .int i, rfl, .inr ⟨_, rfl, ⟨_, rfl, iteF ?_⟩⟩⟩
      refine ⟨_, rfl, _, _, rfl, rfl, _, rfl, ?_⟩
      refine dec_ite (fun z => by omega) (fun z => ?_)
      refine ⟨_, rfl, _, rfl, x, dx, _, rfl, hx, no, x, n, ss, rfl, hw, _, _, rfl, rfl, _, rfl, ?_⟩
      refine dec_ite (fun z => by omega) (fun z => ?_)
      exact k
/-- the places of a web of n -/
def plcs (n : Int) : List Int := (List.range n.toNat).map Int.ofNat
theorem plcs_mem {n i : Int} : i ∈ plcs n ↔ 0 ≤ i ∧ i < n := by
  unfold plcs
  rw [List.mem_map]
  refine ⟨fun ⟨j, h1, h2⟩ => ?_, fun h => ⟨i.toNat, List.mem_range.mpr (by omega), ?_⟩⟩
  · have := List.mem_range.mp h1
    have h2' : (j : Int) = i := h2
    omega
  · show ((i.toNat : Nat) : Int) = i
    omega
theorem plcs_len (n : Int) : (plcs n).length = n.toNat := by
  unfold plcs
  rw [List.length_map, List.length_range]
end
end AA

set_option Elab.async false
set_option linter.all false
set_option maxRecDepth 100000
set_option maxHeartbeats 4000000
/-! checked_prices, best_ring, rate_at; the error of prices. -/
namespace AA
open PySem PySem.Spec PyProof.Rows L2 Evl
section
variable {P : Program} {w : World} {K : PySem.W.Frag} {mg : Str → Option Value} {base : Heap}
theorem scBadPr : FnScope ["self", "thing"] ["self", "thing"] (defScope sBadPrInit) := ⟨rfl, rfl, rfl, by decide +kernel, rfl, by decide +kernel, by decide +kernel⟩
theorem ok_badPr {CB f fI : Addr} {fd : FuncData} (F : L2.Fun K "__init__" "BadPrices.__init__" sBadPrInit f fd) (T : ExT K mg "BadPrices" "thing" CB fI) : FnOk P w K mg base CX0 1 f fd ["self", "thing"] (spExI CB "thing") := by
  refine F.ok scBadPr (fun vs H Q E h => ?_) (fun cdv A outer s H vs Q E hr h => ?_)
  · obtain ⟨a, v, rfl, _⟩ := h
    rfl
  · obtain ⟨a, v, rfl, ha, k⟩ := h
    exact ⟨_, pss_one (ps_ost (pv 0) (pv 1) rfl), _, rfl, _, rfl, a, CB, rfl, T.ox, T.no, .inl ⟨ha, k⟩⟩
/-- a thing that is no prices -/
def NoPr (K : PySem.W.Frag) (H : Hp) (v : V) : Prop := NoInts K H 2 v ∨ ∃ (a : Addr) (p q : Int), v = .ref a ∧ SqA K H a [.int p, .int q] ∧ (p < 1 ∨ q < 1)
theorem NoInts.ex {H H' : Hp} {m : Int} {v : V} (h : NoInts K H m v) (e : Ex H H') : NoInts K H' m v := by
  rcases h with h | ⟨a, xs, h1, h2, h3⟩
  · exact .inl (h.ex e)
  · exact .inr ⟨a, xs, h1, h2.ex e, h3.imp id fun ⟨is, z, r, h4, h5⟩ => ⟨is, z, r, h4, h5.ex e⟩⟩
theorem NoPr.ex {H H' : Hp} {v : V} (h : NoPr K H v) (e : Ex H H') : NoPr K H' v := by
  rcases h with h | ⟨a, p, q, h1, h2, h3⟩
  · exact .inl (h.ex e)
  · exact .inr ⟨a, p, q, h1, h2.ex e, h3⟩
def spCPr (K : PySem.W.Frag) (CP : Addr) : Sp := fun vs H Q E => ∃ (v : V), vs = [v] ∧ ((NoPr K H v ∧ BadE CP "thing" H v E) ∨ ∃ (a : Addr) (p q : Int), v = .ref a ∧ SqA K H a [.int p, .int q] ∧ 1 ≤ p ∧ 1 ≤ q ∧ ∀ (H' : Hp) (t : Addr), Ex H H' → H t = none → H' t = some (.tup [.int p, .int q]) → Q (.ref t) H')
theorem scCPr : FnScope ["thing"] ["thing"] (defScope sCheckedPrices) := ⟨rfl, rfl, rfl, by decide +kernel, rfl, by decide +kernel, by decide +kernel⟩
theorem ok_cpr {f CP fP : Addr} {fd fdP : FuncData} (F : L2.Fun K "checked_prices" "checked_prices" sCheckedPrices f fd) (TB : ExT K mg "BadPrices" "thing" CP fP) (GB : FnOk P w K mg base CX0 1 fP fdP ["self", "thing"] (spExI CP "thing")) (bB : Binds K fdP ["self", "thing"] []) (cI : C8.Cal P w K mg base 2 "is_integers" (spInts K) []) : FnOk P w K mg base (L2.CX P w) 3 f fd ["thing"] (spCPr K CP) := by
  refine F.okX scCPr (fun vs H Q E h => ?_) (fun cdv A outer s H vs Q E hr h => ?_)
  · obtain ⟨v, rfl, _⟩ := h
    rfl
  · obtain ⟨v, rfl, h⟩ := h
    refine ⟨_, pss_cons (ps_if (PW.pt (pw_or (pt_not (pt_val (C8.pe_c cI hr (by decide) (by rfl) (pa_cons (pv 0) (pa_cons pe_int pa_nil))))) (pw_or (pt_cmpR op_lt (pe_ix (r := rIx K) ix_seq (pv 0) pe_int (fun _ _ => rfl)) pe_int (nomark _)) (pw_or1 (pt_cmpR op_lt (pe_ix (r := rIx K) ix_seq (pv 0) pe_int (fun _ _ => rfl)) pe_int (nomark _))))))
        (pss_one (ps_raise rfl (takes_of rfl rfl rfl rfl) (pmk_oex TB.ox TB.iC TB.tC GB (hr.mono (by decide)) bB .nil pass0 (by rfl) TB.gC (pa_cons (pv 0) pa_nil)))) pss_nil)
      (pss_one (ps_ret (pe_tup (pa_cons (pe_ix (r := rIx K) ix_seq (pv 0) pe_int (fun _ _ => rfl)) (pa_cons (pe_ix (r := rIx K) ix_seq (pv 0) pe_int (fun _ _ => rfl)) pa_nil))))), ?_⟩
    rcases h with ⟨hb, kb⟩ | ⟨a, p, q, rfl, hs, h1, h2, k⟩
    · rcases hb with hn | ⟨a, p, q, rfl, hs, hpq⟩
      · exact ⟨_, rfl, v, 2, rfl, .inl ⟨hn, fun H' e => ⟨_, rfl, iteT (iteT ⟨_, rfl, by show 1 ≤ 1000; decide, raise_go (kb.ex e)⟩)⟩⟩⟩
      · refine ⟨_, rfl, .ref a, 2, rfl, .inr ⟨a, [p, q], rfl, hs, rfl, fun H' e => ⟨_, rfl, iteF ?_⟩⟩⟩
        have hs2 : Sq2 K H' a p q := ⟨[], hs.ex e⟩
        refine ⟨_, rfl, hs2.at0 ⟨_, _, rfl, rfl, _, rfl, ?_⟩⟩
        refine dec_ite (fun z => iteT ⟨_, rfl, by show 1 ≤ 1000; decide, raise_go (kb.ex e)⟩) (fun z => ?_)
        refine ⟨_, rfl, hs2.at1 ⟨_, _, rfl, rfl, _, rfl, ?_⟩⟩
        refine dec_ite (fun z => ⟨_, rfl, by show 1 ≤ 1000; decide, raise_go (kb.ex e)⟩) (fun z2 => ?_)
        omega
    · refine ⟨_, rfl, .ref a, 2, rfl, .inr ⟨a, [p, q], rfl, hs, rfl, fun H' e => ⟨_, rfl, iteF ?_⟩⟩⟩
      have hs2 : Sq2 K H' a p q := ⟨[], hs.ex e⟩
      refine ⟨_, rfl, hs2.at0 ⟨_, _, rfl, rfl, _, rfl, ?_⟩⟩
      refine dec_ite (fun z => by omega) (fun z => ?_)
      refine ⟨_, rfl, hs2.at1 ⟨_, _, rfl, rfl, _, rfl, ?_⟩⟩
      refine dec_ite (fun z => by omega) (fun z2 => ?_)
      refine ⟨_, rfl, hs2.at0 ⟨_, rfl, hs2.at1 ⟨by show 2 ≤ sizeLine; decide, fun t ht => ?_⟩⟩⟩
      exact k _ t (e.trans (Ex.new ht)) (fresh_back e ht) upd_same
end
end AA

set_option Elab.async false
set_option linter.all false
set_option maxRecDepth 100000
set_option maxHeartbeats 4000000
/-! best_ring, rate_at. -/
namespace AA
open PySem PySem.Spec PyProof.Rows L2 Evl
theorem sm_64 {s : St5} {n : Int} (h : StSm s) (o : StOk n s) : S64 s.p ∧ S64 s.q ∧ S64 s.ticks := by
  have := h.p0; have := h.p1; have := h.q0; have := h.q1; have := h.k1; have := o.k
  unfold S64
  refine ⟨⟨by omega, by omega⟩, ⟨by omega, by omega⟩, ⟨by omega, by omega⟩⟩
theorem gcs_two (c t : Int) : gcs [c, t] = Nat.gcd c.natAbs t.natAbs := by
  show Nat.gcd (Nat.gcd 0 c.natAbs) t.natAbs = _
  rw [Nat.gcd_zero_left]
theorem tSum_le : ∀ ws : List St5, (∀ s ∈ ws, s.ticks ≤ 6) → tSum ws ≤ 6 * ws.length
  | [], _ => Int.le_refl _
  | s :: ws, h => by
    have := tSum_le ws fun t ht => h t (List.mem_cons_of_mem _ ht)
    have h1 := h s List.mem_cons_self
    rw [tSum_cons, List.length_cons]
    omega
section
variable {P : Program} {w : World} {K : PySem.W.Frag} {mg : Str → Option Value} {base : Heap}
/-- a web, a place of it, prices; or what is told of them -/
def Ask (K : PySem.W.Frag) (CW CB CP : Addr) (H : Hp) (v u : V) (n : Int) (E : XK) (good : Int → Addr → Int × Int → Prop) : Prop :=
  (NoPlc K H n v ∧ BadE CB "place" H v E) ∨ ∃ i : Int, v = .int i ∧ 0 ≤ i ∧ i < n ∧ ((NoPr K H u ∧ BadE CP "thing" H u E) ∨ ∃ (a : Addr) (pr : Int × Int), u = .ref a ∧ SqA K H a [.int pr.1, .int pr.2] ∧ 1 ≤ pr.1 ∧ 1 ≤ pr.2 ∧ S64 pr.1 ∧ S64 pr.2 ∧ good i a pr)
structure WebSm (n : Int) (ss : List St5) : Prop where
  n60 : n < 60
  ok : ∀ s ∈ ss, StOk n s
  sm : ∀ s ∈ ss, StSm s
  len : ss.length ≤ 100000
def spBest (K : PySem.W.Frag) (CW CB CP : Addr) : Sp := fun vs H Q E => ∃ (x : Addr) (n : Int) (ss : List St5) (v u : V), vs = [.ref x, v, u] ∧ WebAt K CW H x n ss ∧ WebSm n ss ∧
  Ask K CW CB CP H v u n E fun i _ pr => ∀ (H' : Hp) (r : V), Ex H H' → RgR K H H' r (cheap ss i pr (t0F ss pr)) → Q r H'
theorem scBest : FnScope ["web", "place", "prices"] ["web", "place", "prices"] (defScope sBestRing) := ⟨rfl, rfl, rfl, by decide +kernel, rfl, by decide +kernel, by decide +kernel⟩
theorem ok_best {f CW CB CP fP fC gS : Addr} {fd fdP fdC ddS : FuncData} (F : L2.Fun K "best_ring" "best_ring" sBestRing f fd) (T : WebTxt K mg CW) (GPl : FnOk P w K mg base (L2.CX P w) 3 fP fdP ["web", "place"] (spPlc K CW CB)) (mPl : mg "check_place" = some (.ref fP)) (kPl : PySem.W.keepIn K (.ref fP) = true) (bPl : Binds K fdP ["web", "place"] [])
    (GC : FnOk P w K mg base (L2.CX P w) 3 fC fdC ["thing"] (spCPr K CP)) (mC : mg "checked_prices" = some (.ref fC)) (kC : PySem.W.keepIn K (.ref fC) = true) (bC : Binds K fdC ["thing"] [])
    (GS : FnOk P w K mg base CX0 1 gS ddS ["self"] (spSteps K CW)) (bS : Binds K ddS ["self"] []) (mS : Meth K CW "steps" gS) (cCh : C8.Cal P w K mg base 4 "cheapest_ring" (spCh K) []) : FnOk P w K mg base (L2.CX P w) 5 f fd ["web", "place", "prices"] (spBest K CW CB CP) := by
  refine F.okX scBest (fun vs H Q E h => ?_) (fun cdv A outer s H vs Q E hr h => ?_)
  · obtain ⟨x, n, ss, v, u, rfl, _⟩ := h
    rfl
  · obtain ⟨x, n, ss, v, u, rfl, hw, wsm, h⟩ := h
    have hr1 : Room 1 _ := hr.mono (by decide)
    have hr3 : Room 3 _ := hr.mono (by decide)
    refine ⟨_, pss_cons (ps_expr (pe_callS (E := WE fun cls d _ H => E cls d H) GPl hr3 (by rfl) mPl kPl bPl (fun σ => passAt (takes_of rfl rfl rfl rfl) σ) (pa_cons (pv 0) (pa_cons (pv 1) pa_nil))))
      (pss_one (ps_ret (C8.pe_c cCh hr (by decide) (by rfl) (pa_cons (pe_meth0 (pv 0) T.cl mS GS hr1 bS .nil pass0) (pa_cons (pv 1) (pa_cons (pe_callS (E := WE fun cls d _ H => E cls d H) GC hr3 (by rfl) mC kC bC (fun σ => passAt (takes_of rfl rfl rfl rfl) σ) (pa_cons (pv 2) pa_nil)) pa_nil)))))), ?_⟩
    obtain ⟨dx, l, kd, ys, hx, h2, h3⟩ := id hw
    have no : (wf n l kd).lookup ("steps" : Str) = none := wf_no _ _ _ (by decide +kernel) (by decide +kernel) (by decide +kernel)
    rcases h with ⟨hb, kb⟩ | ⟨i, rfl, i0, i1, h⟩
    · exact ⟨_, rfl, _, rfl, x, n, ss, v, rfl, hw, .inl ⟨hb, kb⟩⟩
    · refine ⟨_, rfl, _, rfl, x, n, ss, _, rfl, hw, .inr ⟨i, rfl, i0, i1, ?_⟩⟩
      refine ⟨_, rfl, x, dx, _, rfl, hx, no, x, n, ss, rfl, hw, fun p zs hp hzs => ?_⟩
      have y1 := Ex.new (o := .lst zs) hp
      have j1 : upd H p (.lst zs) p = some (.lst zs) := upd_same
      generalize upd H p (.lst zs) = G1 at y1 j1 ⊢
      refine ⟨_, rfl, _, rfl, u, rfl, ?_⟩
      rcases h with ⟨hb, kb⟩ | ⟨a, pr, rfl, hs, p1, q1, s1, s2, k⟩
      · exact .inl ⟨hb.ex y1, kb.ex y1⟩
      · refine .inr ⟨a, pr.1, pr.2, rfl, hs.ex y1, p1, q1, fun G2 t e2 t0 ht => ?_⟩
        have e12 := y1.trans e2
        refine ⟨p, t, i, zs, ss, pr, plcs n, rfl, SqL.of (e2 _ _ j1), dpa_ex e12 _ _ hzs, ⟨[], .inr (SqT.of ht)⟩, s1, s2, fun s hs => sm_64 (wsm.sm s hs) (wsm.ok s hs), fun s hs => (wsm.ok s hs).k, by have := wsm.len; omega, plcs_mem.mpr ⟨i0, i1⟩, fun s hs => plcs_mem.mpr ⟨(wsm.ok s hs).t0, (wsm.ok s hs).t1⟩, by rw [plcs_len]; have := wsm.n60; omega, fun H' r e hR => ?_⟩
        refine k H' r (e12.trans e) ?_
        unfold RgR at hR ⊢
        split
        · rename_i hc
          rw [hc] at hR
          exact hR
        · rename_i ws hc
          rw [hc] at hR
          obtain ⟨rp, ys', g1, g2, g3, g4⟩ := hR
          exact ⟨rp, ys', g1, fresh_back e12 g2, g3, g4⟩
/-- the rate of a ring that is told -/
def rtR (pr : Int × Int) : Option (List St5) → Option (List Int)
  | none => none
  | some ws => some (low [cSum pr ws, tSum ws])
def RtR (H H' : Hp) (v : V) : Option (List Int) → Prop
  | none => v = .non
  | some ns => ∃ q, v = .ref q ∧ H q = none ∧ H' q = some (.tup (ns.map V.int))
def spRate (K : PySem.W.Frag) (CW CB CP : Addr) : Sp := fun vs H Q E => ∃ (x : Addr) (n : Int) (ss : List St5) (v u : V), vs = [.ref x, v, u] ∧ WebAt K CW H x n ss ∧ WebSm n ss ∧
  Ask K CW CB CP H v u n E fun i _ pr => ∀ (H' : Hp) (r : V), Ex H H' → RtR H H' r (rtR pr (cheap ss i pr (t0F ss pr))) → Q r H'
abbrev nmRt : List Str := ["web", "place", "prices", "ring", "row"]
theorem scRt : FnScope nmRt ["web", "place", "prices"] (defScope sRateAt) := ⟨rfl, rfl, rfl, by decide +kernel, rfl, by decide +kernel, by decide +kernel⟩
theorem ok_rate {f CW CB CP fB : Addr} {fd fdB : FuncData} (F : L2.Fun K "rate_at" "rate_at" sRateAt f fd) (GB : FnOk P w K mg base (L2.CX P w) 5 fB fdB ["web", "place", "prices"] (spBest K CW CB CP)) (mB : mg "best_ring" = some (.ref fB)) (kB : PySem.W.keepIn K (.ref fB) = true) (bB : Binds K fdB ["web", "place", "prices"] [])
    (cR : C8.Cal P w K mg base 1 "row_along" (spRowA K) []) (cC : C8.Cal P w K mg base 1 "cost_of" (spCostOf K) []) (cU : C8.Cal P w K mg base 1 "undivided" (spUnd K) []) : FnOk P w K mg base (L2.CX P w) 6 f fd ["web", "place", "prices"] (spRate K CW CB CP) := by
  refine F.okX scRt (fun vs H Q E h => ?_) (fun cdv A outer s H vs Q E hr h => ?_)
  · obtain ⟨x, n, ss, v, u, rfl, _⟩ := h
    rfl
  · obtain ⟨x, n, ss, v, u, rfl, hw, wsm, h⟩ := h
    refine ⟨_, pss_cons (ps_set (i := 3) scRt.nd rfl (Or.inl rfl) (pe_callS (E := WE fun cls d _ H => E cls d H) GB hr (by rfl) mB kB bB (fun σ => passAt (takes_of rfl rfl rfl rfl) σ) (pa_cons (pv 0) (pa_cons (pv 1) (pa_cons (pv 2) pa_nil)))))
      (pss_cons (ps_if (pt_cmp (pc_isN (pv 3))) (pss_one (ps_ret pe_non)) pss_nil)
      (pss_cons (ps_set (i := 4) scRt.nd rfl (Or.inl rfl) (C8.pe_c cR hr (by decide) (by rfl) (pa_cons (pv 3) pa_nil)))
      (pss_one (ps_ret (C8.pe_c cU hr (by decide) (by rfl) (pa_cons (pe_tup (pa_cons (C8.pe_c cC hr (by decide) (by rfl) (pa_cons (pv 2) (pa_cons (pv 4) pa_nil))) (pa_cons (pe_ix (r := rIxT K) ix_tup (pv 4) pe_int (fun _ _ => rfl)) pa_nil))) pa_nil)))))), ?_⟩
    refine ⟨_, rfl, _, rfl, _, rfl, x, n, ss, v, u, rfl, hw, wsm, ?_⟩
    rcases h with h | ⟨i, rfl, i0, i1, h⟩
    · exact .inl h
    refine .inr ⟨i, rfl, i0, i1, ?_⟩
    rcases h with h | ⟨a, pr, rfl, hs, p1, q1, s1, s2, k⟩
    · exact .inl h
    refine .inr ⟨a, pr, rfl, hs, p1, q1, s1, s2, fun H1 r e1 hR => ?_⟩
    have hch := cheap_ok (ss := ss) (p := i) (pr := pr) (U := plcs n) (t0F ss pr) (fun s hs => (wsm.ok s hs).k) t0F_dear t0F_nn (plcs_mem.mpr ⟨i0, i1⟩) (fun s hs => plcs_mem.mpr ⟨(wsm.ok s hs).t0, (wsm.ok s hs).t1⟩) (by rw [plcs_len]; have := wsm.n60; omega)
    cases hc : cheap ss i pr (t0F ss pr) with
    | none =>
      rw [hc] at hR k
      obtain rfl : r = .non := hR
      exact ⟨_, rfl, _, rfl, iteT (k H1 .non e1 rfl)⟩
    | some ws =>
      rw [hc] at hR k
      obtain ⟨rp, ys, rfl, g2, g3, g4⟩ := hR
      have hwr := (hch.some' ws hc).1
      have hwl := hwr.len
      have htl := tSum_le ws fun s hs => (wsm.sm s (hwr.1.sub s hs)).k1
      have htg := tSum_ge ws fun s hs => (wsm.ok s (hwr.1.sub s hs)).k
      have hl1 : 1 ≤ ws.length := List.length_pos_iff.mpr hwr.1.ne
      have hss := wsm.len
      refine ⟨_, rfl, _, rfl, iteF ?_⟩
      refine ⟨_, rfl, rp, ys, ws, rfl, SqL.of g3, g4, by omega, fun H2 q2 e2 q20 hq2 => ?_⟩
      have e12 := e1.trans e2
      refine ⟨_, rfl, _, rfl, a, q2, pr.1, pr.2, _, _, rfl, ⟨[], hs.ex e12⟩, ⟨[_], .inr (SqT.of hq2)⟩, s1, s2, ?_⟩
      refine ⟨_, rfl, q2, _, 2, .int (sumI (·.ticks) ws), rfl, rfl, SqT.of hq2, rfl, by show 2 ≤ sizeLine; decide, fun t ht => ?_⟩
      have e3 := Ex.new (o := .tup [.int (pr.1 * sumI (·.p) ws + pr.2 * sumI (·.q) ws), .int (sumI (·.ticks) ws)]) ht
      have hg : gcs [cSum pr ws, tSum ws] ≤ (tSum ws).natAbs ∧ 0 < gcs [cSum pr ws, tSum ws] := by
        rw [gcs_two]
        exact ⟨Nat.gcd_le_right _ (by omega), Nat.gcd_pos_of_pos_right _ (by omega)⟩
      refine ⟨t, [cSum pr ws, tSum ws], rfl, SqT.of upd_same, by show 2 ≤ 1000; decide, hg.2, by omega, fun H4 q e4 q0 hq => ?_⟩
      exact k H4 (.ref q) ((e12.trans e3).trans e4) ⟨q, rfl, fresh_back (e12.trans e3) q0, hq⟩
end
end AA

set_option Elab.async false
set_option linter.all false
set_option maxRecDepth 100000
set_option maxHeartbeats 4000000
/-! Steps as pairs of places. -/
namespace AA
open PySem PySem.Spec PyProof.Rows L2 Evl
def edg (ss : List St5) : List (Int × Int) := ss.map fun s => (s.one, s.other)
theorem edg_mem {ss : List St5} {a b : Int} : (a, b) ∈ edg ss ↔ ∃ s ∈ ss, s.one = a ∧ s.other = b := by
  unfold edg
  rw [List.mem_map]
  exact ⟨fun ⟨s, h1, h2⟩ => ⟨s, h1, (Prod.mk.inj h2).1, (Prod.mk.inj h2).2⟩, fun ⟨s, h1, h2, h3⟩ => ⟨s, h1, by rw [h2, h3]⟩⟩
end AA

set_option Elab.async false
set_option linter.all false
set_option maxRecDepth 100000
set_option maxHeartbeats 4000000
/-! The law's _law_cost, _law_common, _law_low. -/
namespace AA
open PySem PySem.Spec PyProof.Rows L2 Evl
section
variable {P : Program} {w : World} {K : PySem.W.Frag} {mg : Str → Option Value} {base : Heap}
theorem scLCo : FnScope ["_law_prices", "_law_amounts_here"] ["_law_prices", "_law_amounts_here"] (defScope sLCost) := ⟨rfl, rfl, rfl, by decide +kernel, rfl, by decide +kernel, by decide +kernel⟩
theorem ok_lcost {f : Addr} {fd : FuncData} (F : L2.Fun K "_law_cost" "_law_cost" sLCost f fd) : FnOk P w K mg base CX0 1 f fd ["_law_prices", "_law_amounts_here"] (spCostOf K) := by
  refine F.ok scLCo (fun vs H Q E h => ?_) (fun cdv Ar outer s H vs Q E hr h => ?_)
  · obtain ⟨a, b, p, q, x, y, rfl, _⟩ := h
    rfl
  · obtain ⟨a, b, p, q, x, y, rfl, ha, hb, sp, sq, k⟩ := h
    refine ⟨_, pss_one (ps_ret (pe_op op_add (pe_op op_mul (pe_ix (r := rIx K) ix_seq (pv 0) pe_int (fun _ _ => rfl)) (pe_ix (r := rIx K) ix_seq (pv 1) pe_int (fun _ _ => rfl))) (pe_op op_mul (pe_ix (r := rIx K) ix_seq (pv 0) pe_int (fun _ _ => rfl)) (pe_ix (r := rIx K) ix_seq (pv 1) pe_int (fun _ _ => rfl))))), ?_⟩
    refine ⟨_, rfl, ha.at0 ⟨_, rfl, hb.at0 ⟨_, _, rfl, rfl, .inl sp, _, rfl, ha.at1 ⟨_, rfl, hb.at1 ⟨_, _, rfl, rfl, .inl sq, _, _, rfl, rfl, k⟩⟩⟩⟩⟩
/-- the greatest common divisor -/
def spCommon : Sp := fun vs H Q _ => ∃ (a b : Int), vs = [.int a, .int b] ∧ Q (.int (Nat.gcd a.natAbs b.natAbs : Nat)) H
theorem scLCm : FnScope ["_law_one", "_law_other"] ["_law_one", "_law_other"] (defScope sLCommon) := ⟨rfl, rfl, rfl, by decide +kernel, rfl, by decide +kernel, by decide +kernel⟩
theorem ok_lcommon {f : Addr} {fd : FuncData} (F : L2.Fun K "_law_common" "_law_common" sLCommon f fd) (B : Bn mg) : FnOk P w K mg base CX0 1 f fd ["_law_one", "_law_other"] spCommon := by
  refine F.ok scLCm (fun vs H Q E h => ?_) (fun cdv Ar outer s H vs Q E hr h => ?_)
  · obtain ⟨a, b, rfl, _⟩ := h
    rfl
  · obtain ⟨a, b, rfl, k⟩ := h
    refine ⟨_, pss_cons (ps_par (i := 0) (j := 1) (by rfl) scLCm.nd rfl rfl (by decide) rfl rfl (pa_cons (pe_callB call_abs (by rfl) B.abs boot_abs (pa_cons (pv 0) pa_nil)) (pa_cons (pe_callB call_abs (by rfl) B.abs boot_abs (pa_cons (pv 1) pa_nil)) pa_nil)) (by rfl))
      (Evl.pss_cut (ps_while PassesOwn.never (pt_cmpR op_gt (pv 1) pe_int (nomark _))
          (pss_one (ps_par (i := 0) (j := 1) (by rfl) scLCm.nd rfl rfl (by decide) rfl rfl (pa_cons (pv 1) (pa_cons (pe_op op_mod (pv 0) (pv 1)) pa_nil)) (by rfl))))
      (pss_one (ps_ret (pv 0)))), ?_⟩
    have ab : ∀ z : Int, (if z < 0 then -z else z) = (z.natAbs : Int) := fun z => by split <;> omega
    refine ⟨_, rfl, _, rfl, _, rfl, _, rfl, ?_⟩
    rw [ab, ab]
    refine ⟨_, _, rfl, ?_⟩
    refine ⟨fun σ G => σ = [some (.int (Nat.gcd a.natAbs b.natAbs : Nat)), some (.int 0)] ∧ G = H, ?_, ?_⟩
    · refine ⟨fun mm σ G => ∃ (x : Nat), σ = [some (.int x), some (.int mm)] ∧ G = H ∧ Nat.gcd x mm = Nat.gcd a.natAbs b.natAbs, ⟨_, a.natAbs, rfl, rfl, rfl⟩, ?_⟩
      rintro mm σ G ⟨x, rfl, rfl, hg⟩
      refine ⟨_, rfl, _, _, rfl, rfl, _, rfl, ?_⟩
      by_cases h0 : mm = 0
      · subst h0
        rw [decide_eq_false (by omega)]
        refine iteF ?_
        rw [Nat.gcd_zero_right] at hg
        exact ⟨by rw [← hg]; rfl, rfl⟩
      · rw [decide_eq_true (by omega)]
        refine iteT ⟨_, fun _ _ h => h, ?_⟩
        refine ⟨_, rfl, _, rfl, _, rfl, _, _, rfl, rfl, by omega, ?_⟩
        refine ⟨_, _, rfl, ?_⟩
        refine ⟨x % mm, Nat.mod_lt _ (by omega), mm, ?_, rfl, ?_⟩
        · rw [Int.natCast_emod]
          rfl
        · rw [Nat.gcd_comm, ← Nat.gcd_rec, Nat.gcd_comm]
          exact hg
    rintro σ G ⟨rfl, rfl⟩
    exact ⟨_, rfl, k⟩
end
end AA

set_option Elab.async false
set_option linter.all false
set_option maxRecDepth 100000
set_option maxHeartbeats 4000000
/-! The law's _law_low, _law_sum. -/
namespace AA
open PySem PySem.Spec PyProof.Rows L2 Evl
section
variable {P : Program} {w : World} {K : PySem.W.Frag} {mg : Str → Option Value} {base : Heap}
abbrev nmLl : List Str := ["_law_numbers", "_law_common_here", "_law_number"]
theorem scLl : FnScope nmLl ["_law_numbers"] (defScope sLLow) := ⟨rfl, rfl, rfl, by decide +kernel, rfl, by decide +kernel, by decide +kernel⟩
theorem ok_llow {f : Addr} {fd : FuncData} (F : L2.Fun K "_law_low" "_law_low" sLLow f fd) (B : Bn mg) (cG : C8.Cal P w K mg base 1 "_law_common" spCommon []) : FnOk P w K mg base CX0 2 f fd ["_law_numbers"] (spUnd K) := by
  refine F.ok scLl (fun vs H Q E h => ?_) (fun cdv Ar outer s H vs Q E hr h => ?_)
  · obtain ⟨a, ns, rfl, _⟩ := h
    rfl
  · obtain ⟨a, ns, rfl, ha, hz, g0, g1, kQ⟩ := h
    refine ⟨_, pss_cons (ps_set (i := 1) scLl.nd rfl (Or.inr rfl) pe_int)
      (Evl.pss_cut (ps_for PassesOwn.never rfl (pi_tup (pv 0)) (pg_name (i := 2) scLl.nd rfl (Or.inl rfl))
          (pss_one (ps_set (i := 1) scLl.nd rfl (Or.inr rfl) (C8.pe_c cG hr (by decide) (by rfl) (pa_cons (pv 1) (pa_cons (pv 2) pa_nil))))))
      (pss_one (ps_ret (pe_callTy call_tuple_of (by rfl) B.tuple boot_tuple (pa_cons (pe_lc (own := [("_law_number", 2)]) (g := gName 2) (tt := tYes) (by rfl) scLl.nd (pi_tup (pv 0)) (blkOk_by (N := nmLl) (sc := defScope sLLow) (by decide +kernel)) (fun _ _ _ _ _ => pg_name (i := 2) scLl.nd rfl (Or.inl rfl)) (fun _ _ _ _ _ => pts_nil)
          (fun _ _ _ _ _ => pe_op op_fdiv (pv 2) (pv 1))) pa_nil))))), ?_⟩
    refine ⟨fun σ G => ∃ (x2 : Option V), σ = [some (.ref a), some (.int (gcs ns : Nat)), x2] ∧ G = H, ?_, ?_⟩
    · refine ⟨_, rfl, a, rfl, ⟨_, ha⟩, ?_⟩
      refine for_tup (K := K) (a := a) (xs := ns.map V.int) (fun i σ G => ∃ (x2 : Option V), σ = [some (.ref a), some (.int (gcs (ns.take i) : Nat)), x2] ∧ G = H) ⟨none, rfl, rfl⟩ (fun i σ G _ ⟨_, _, e⟩ => by rw [e]; exact ha) ?_ ?_
      · rintro i x σ G hx ⟨x2, rfl, rfl⟩
        obtain ⟨c, hc, rfl⟩ := get_ints hx
        refine ⟨_, rfl, _, rfl, _, _, rfl, ?_⟩
        refine ⟨some (.int c), ?_, rfl⟩
        have tk : gcs (ns.take (i + 1)) = Nat.gcd (gcs (ns.take i)) c.natAbs := by
          rw [List.take_add_one, hc]
          unfold gcs
          rw [List.foldl_append]
          rfl
        rw [tk]
        rfl
      · rintro σ G ⟨x2, rfl, rfl⟩
        rw [List.length_map, List.take_length]
        exact ⟨x2, rfl, rfl⟩
    rintro σ G ⟨x2, rfl, rfl⟩
    refine ⟨_, rfl, a, rfl, ⟨_, ha⟩, fun D hD0 => ?_⟩
    refine lc_tup (xs := ns.map V.int) (fun i G2 => Ex G G2 ∧ G2 D = some (.lst (((ns.take i).map fun n => n / (gcs ns : Int)).map V.int))) ⟨Ex.new hD0, upd_same⟩ (fun i G2 _ q => ex_t q.1 ha) ?_ ?_
    · rintro i x G2 hx ⟨q1, q2⟩
      obtain ⟨c, hc, rfl⟩ := get_ints hx
      have il := get_len hc
      refine ⟨rfl, _, rfl, _, rfl, _, _, rfl, rfl, ⟨by omega, by omega⟩, _, q2, by rw [List.length_map, List.length_map, List.length_take]; exact sz_m (by omega), q1.mut hD0, ?_⟩
      rw [upd_same, List.take_add_one, hc, List.map_append, List.map_append]
      rfl
    · rintro G2 ⟨q1, q2⟩
      rw [List.length_map, List.take_length] at q2
      refine ⟨D, _, rfl, .inl ⟨SqL.of q2, fun q hq => ?_⟩⟩
      exact kQ _ q (q1.trans (Ex.new hq)) (fresh_back q1 hq) upd_same
def spLSum (K : PySem.W.Frag) : Sp := fun vs H Q _ => ∃ (p : Addr) (ys : List V) (ws : List St5), vs = [.ref p] ∧ SqL K H p ys ∧ DpAll K H ys (ws.map stD) ∧ ws.length ≤ 1000000 ∧
  ∀ (H' : Hp) (q t : Addr), Ex H H' → H q = none → H' t = some (.tup [.int (sumI (·.p) ws), .int (sumI (·.q) ws)]) → H' q = some (.tup [.ref t, .int (sumI (·.ticks) ws), .int (sumI (·.change) ws)]) → Q (.ref q) H'
abbrev nmLSm : List Str := ["_law_walk", "_law_first", "_law_second", "_law_step_here"]
theorem scLSm : FnScope nmLSm ["_law_walk"] (defScope sLSum) := ⟨rfl, rfl, rfl, by decide +kernel, rfl, by decide +kernel, by decide +kernel⟩
theorem ok_lsum {f : Addr} {fd : FuncData} (F : L2.Fun K "_law_sum" "_law_sum" sLSum f fd) (B : Bn mg) : FnOk P w K mg base CX0 1 f fd ["_law_walk"] (spLSum K) := by
  refine F.ok scLSm (fun vs H Q E h => ?_) (fun cdv Ar outer s H vs Q E hr h => ?_)
  · obtain ⟨p, ys, ws, rfl, _⟩ := h
    rfl
  · obtain ⟨p, ys, ws, rfl, hp, hD, hz, kQ⟩ := h
    refine ⟨_, Evl.pss_cut (ps_par (i := 1) (j := 2) (by rfl) scLSm.nd rfl rfl (by decide) rfl rfl (pa_cons (pe_callB (r := rSum K) (cr_sum (by rfl)) (by rfl) B.sum boot_sum (pa_cons (pe_lc (own := [("_law_step_here", 3)]) (g := gName 3) (tt := tYes) (by rfl) scLSm.nd (pi_list (pv 0)) (blkOk_by (N := nmLSm) (sc := defScope sLSum) (by decide +kernel)) (fun _ _ _ _ _ => pg_name (i := 3) scLSm.nd rfl (Or.inl rfl)) (fun _ _ _ _ _ => pts_nil)
          (fun _ _ _ _ _ => pe_ix (r := rIxT K) ix_tup (pe_ix (r := rIxT K) ix_tup (pv 3) pe_int (fun _ _ => rfl)) pe_int (fun _ _ => rfl))) pa_nil)) (pa_cons (pe_callB (r := rSum K) (cr_sum (by rfl)) (by rfl) B.sum boot_sum (pa_cons (pe_lc (own := [("_law_step_here", 3)]) (g := gName 3) (tt := tYes) (by rfl) scLSm.nd (pi_list (pv 0)) (blkOk_by (N := nmLSm) (sc := defScope sLSum) (by decide +kernel)) (fun _ _ _ _ _ => pg_name (i := 3) scLSm.nd rfl (Or.inl rfl)) (fun _ _ _ _ _ => pts_nil)
          (fun _ _ _ _ _ => pe_ix (r := rIxT K) ix_tup (pe_ix (r := rIxT K) ix_tup (pv 3) pe_int (fun _ _ => rfl)) pe_int (fun _ _ => rfl))) pa_nil)) pa_nil)) (by rfl))
      (pss_one (ps_ret (pe_tup (pa_cons (pe_tup (pa_cons (pv 1) (pa_cons (pv 2) pa_nil))) (pa_cons (pe_callB (r := rSum K) (cr_sum (by rfl)) (by rfl) B.sum boot_sum (pa_cons (pe_lc (own := [("_law_step_here", 3)]) (g := gName 3) (tt := tYes) (by rfl) scLSm.nd (pi_list (pv 0)) (blkOk_by (N := nmLSm) (sc := defScope sLSum) (by decide +kernel)) (fun _ _ _ _ _ => pg_name (i := 3) scLSm.nd rfl (Or.inl rfl)) (fun _ _ _ _ _ => pts_nil)
          (fun _ _ _ _ _ => pe_ix (r := rIxT K) ix_tup (pv 3) pe_int (fun _ _ => rfl))) pa_nil)) (pa_cons (pe_callB (r := rSum K) (cr_sum (by rfl)) (by rfl) B.sum boot_sum (pa_cons (pe_lc (own := [("_law_step_here", 3)]) (g := gName 3) (tt := tYes) (by rfl) scLSm.nd (pi_list (pv 0)) (blkOk_by (N := nmLSm) (sc := defScope sLSum) (by decide +kernel)) (fun _ _ _ _ _ => pg_name (i := 3) scLSm.nd rfl (Or.inl rfl)) (fun _ _ _ _ _ => pts_nil)
          (fun _ _ _ _ _ => pe_ix (r := rIxT K) ix_tup (pv 3) pe_int (fun _ _ => rfl))) pa_nil)) pa_nil)))))), ?_⟩
    have hyl := sts_len hD
    have tkm : ∀ (f : St5 → Int) (i : Nat) (s : St5), ws[i]? = some s → ((ws.take i).map f).map V.int ++ [V.int (f s)] = ((ws.take (i + 1)).map f).map V.int := fun f i s hs => by
      rw [List.take_add_one, hs, List.map_append, List.map_append]
      rfl
    have szm : ∀ (f : St5 → Int) (i : Nat), i < ys.length → (((ws.take i).map f).map V.int).length < sizeLine := fun f i hi => by
      rw [List.length_map, List.length_map, List.length_take]
      exact sz_m (by omega)
    refine ⟨fun σ G => σ = [some (.ref p), some (.int (sumI (·.p) ws)), some (.int (sumI (·.q) ws)), none] ∧ Ex H G, ?_, ?_⟩
    · refine ⟨_, rfl, p, rfl, ⟨_, hp⟩, fun D hD0 => ?_⟩
      refine lc_list (xs := ys) (fun i G => Ex H G ∧ G D = some (.lst (((ws.take i).map (·.p)).map V.int))) ⟨Ex.new hD0, upd_same⟩ (fun i G _ q => ex_l q.1 hp) ?_ ?_
      · rintro i x G hx ⟨q1, q2⟩
        obtain ⟨s, t, hs, rfl, ht⟩ := sts_get hD hx
        obtain ⟨_, u, e, p1, p2⟩ := stD_inv (dp_ex q1 _ _ ht)
        cases e
        refine ⟨rfl, _, rfl, t, _, 2, .ref u, rfl, rfl, p1, rfl, u, _, 0, .int s.p, rfl, rfl, p2, rfl, _, q2, szm _ i (get_len hx), q1.mut hD0, ?_⟩
        rw [upd_same, tkm (·.p) i s hs]
      rintro G1 ⟨e1, q2⟩
      rw [hyl, List.take_length] at q2
      refine ⟨D, _, rfl, SqL.of q2, ?_⟩
      refine ⟨_, rfl, p, rfl, ⟨_, ex_l e1 hp⟩, fun D hD0 => ?_⟩
      refine lc_list (xs := ys) (fun i G => Ex G1 G ∧ G D = some (.lst (((ws.take i).map (·.q)).map V.int))) ⟨Ex.new hD0, upd_same⟩ (fun i G _ q => ex_l (e1.trans q.1) hp) ?_ ?_
      · rintro i x G hx ⟨q1, q2⟩
        obtain ⟨s, t, hs, rfl, ht⟩ := sts_get hD hx
        obtain ⟨_, u, e, p1, p2⟩ := stD_inv (dp_ex (e1.trans q1) _ _ ht)
        cases e
        refine ⟨rfl, _, rfl, t, _, 2, .ref u, rfl, rfl, p1, rfl, u, _, 1, .int s.q, rfl, rfl, p2, rfl, _, q2, szm _ i (get_len hx), q1.mut hD0, ?_⟩
        rw [upd_same, tkm (·.q) i s hs]
      · rintro G ⟨q1, q2⟩
        rw [hyl, List.take_length] at q2
        exact ⟨D, _, rfl, SqL.of q2, _, _, rfl, rfl, e1.trans q1⟩
    rintro σ G2 ⟨rfl, e2⟩
    refine ⟨_, rfl, _, rfl, by show 2 ≤ sizeLine; decide, fun t ht => ?_⟩
    have y3 := Ex.new (o := .tup [V.int (sumI (·.p) ws), V.int (sumI (·.q) ws)]) ht
    have j3 : upd G2 t (.tup [V.int (sumI (·.p) ws), V.int (sumI (·.q) ws)]) t = some (.tup [V.int (sumI (·.p) ws), V.int (sumI (·.q) ws)]) := upd_same
    generalize upd G2 t (.tup [V.int (sumI (·.p) ws), V.int (sumI (·.q) ws)]) = G3 at y3 j3 ⊢
    have e13 := e2.trans y3
    refine ⟨_, rfl, p, rfl, ⟨_, ex_l e13 hp⟩, fun D hD0 => ?_⟩
    refine lc_list (xs := ys) (fun i G => Ex G3 G ∧ G D = some (.lst (((ws.take i).map (·.ticks)).map V.int))) ⟨Ex.new hD0, upd_same⟩ (fun i G _ q => ex_l (e13.trans q.1) hp) ?_ ?_
    · rintro i x G hx ⟨q1, q2⟩
      obtain ⟨s, t, hs, rfl, ht⟩ := sts_get hD hx
      obtain ⟨_, u, e, p1, p2⟩ := stD_inv (dp_ex (e13.trans q1) _ _ ht)
      cases e
      refine ⟨rfl, _, rfl, t, _, 3, .int s.ticks, rfl, rfl, p1, rfl, _, q2, szm _ i (get_len hx), q1.mut hD0, ?_⟩
      rw [upd_same, tkm (·.ticks) i s hs]
    rintro G4 ⟨e34, q2⟩
    rw [hyl, List.take_length] at q2
    refine ⟨D, _, rfl, SqL.of q2, ?_⟩
    have e14 := e13.trans e34
    refine ⟨_, rfl, p, rfl, ⟨_, ex_l e14 hp⟩, fun D hD0 => ?_⟩
    refine lc_list (xs := ys) (fun i G => Ex G4 G ∧ G D = some (.lst (((ws.take i).map (·.change)).map V.int))) ⟨Ex.new hD0, upd_same⟩ (fun i G _ q => ex_l (e14.trans q.1) hp) ?_ ?_
    · rintro i x G hx ⟨q1, q2⟩
      obtain ⟨s, t, hs, rfl, ht⟩ := sts_get hD hx
      obtain ⟨_, u, e, p1, p2⟩ := stD_inv (dp_ex (e14.trans q1) _ _ ht)
      cases e
      refine ⟨rfl, _, rfl, t, _, 4, .int s.change, rfl, rfl, p1, rfl, _, q2, szm _ i (get_len hx), q1.mut hD0, ?_⟩
      rw [upd_same, tkm (·.change) i s hs]
    · rintro G ⟨q1, q2⟩
      rw [hyl, List.take_length] at q2
      refine ⟨D, _, rfl, SqL.of q2, by show 3 ≤ sizeLine; decide, fun r hr => ?_⟩
      exact kQ _ r t ((e14.trans q1).trans (Ex.new hr)) (fresh_back (e14.trans q1) hr) (((e34.trans q1).trans (Ex.new hr)) _ _ j3) upd_same
end
end AA

set_option Elab.async false
set_option linter.all false
set_option maxRecDepth 100000
set_option maxHeartbeats 4000000
/-! Lowest terms. -/
namespace AA
open PySem PySem.Spec PyProof.Rows L2 Evl
/-- a common factor is no matter -/
theorem low_scale {g : Nat} (hg : 0 < g) (x y : Int) : low [(g : Int) * x, (g : Int) * y] = low [x, y] := by
  have e : gcs [(g : Int) * x, (g : Int) * y] = g * gcs [x, y] := by
    rw [gcs_two, gcs_two, Int.natAbs_mul, Int.natAbs_mul, Int.natAbs_natCast, Nat.gcd_mul_left]
  unfold low
  rw [List.map_cons, List.map_cons, List.map_nil, List.map_cons, List.map_cons, List.map_nil, e, Int.natCast_mul, Int.mul_ediv_mul_of_pos _ _ (by omega), Int.mul_ediv_mul_of_pos _ _ (by omega)]
theorem low_zero {t : Int} (h : 1 ≤ t) : low [0, t] = [0, 1] := by
  have e : ((gcs [0, t] : Nat) : Int) = t := by
    rw [gcs_two]
    show ((Nat.gcd 0 t.natAbs : Nat) : Int) = t
    rw [Nat.gcd_zero_left]
    omega
  unfold low
  rw [e, List.map_cons, List.map_cons, List.map_nil, Int.zero_ediv, Int.ediv_self (by omega)]
theorem low_pair {c t : Int} (ht : 1 ≤ t) : ∃ g x y : Int, 0 < g ∧ low [c, t] = [x, y] ∧ c = g * x ∧ t = g * y ∧ 1 ≤ y ∧ y ≤ t := by
  have h0 : 0 < gcs [c, t] := by
    rw [gcs_two]
    exact Nat.gcd_pos_of_pos_right _ (by omega)
  have d1 : ((gcs [c, t] : Nat) : Int) ∣ c := by
    rw [gcs_two]
    exact Int.ofNat_dvd_left.mpr (Nat.gcd_dvd_left _ _)
  have d2 : ((gcs [c, t] : Nat) : Int) ∣ t := by
    rw [gcs_two]
    exact Int.ofNat_dvd_left.mpr (Nat.gcd_dvd_right _ _)
  unfold low
  generalize gcs [c, t] = g at h0 d1 d2
  obtain ⟨x, hx⟩ := d1
  obtain ⟨y, hy⟩ := d2
  have g0 : (g : Int) ≠ 0 := by omega
  have y1 : 1 ≤ y := by
    refine Int.not_lt.mp fun z => ?_
    have := Int.mul_le_mul_of_nonneg_left (a := y) (b := 0) (c := (g : Int)) (by omega) (by omega)
    rw [Int.mul_zero] at this
    omega
  refine ⟨g, x, y, by omega, ?_, hx, hy, y1, ?_⟩
  · rw [List.map_cons, List.map_cons, List.map_nil]
    congr 1
    · rw [hx, Int.mul_ediv_cancel_left _ g0]
    · congr 1
      rw [hy, Int.mul_ediv_cancel_left _ g0]
  · have := Int.mul_le_mul_of_nonneg_right (a := 1) (b := (g : Int)) (c := y) (by omega) (by omega)
    rw [Int.one_mul] at this
    omega
end AA

set_option Elab.async false
set_option linter.all false
set_option maxRecDepth 100000
set_option maxHeartbeats 4000000
/-! set(..) of a list of integers. -/
namespace AA
open PySem PySem.Spec PyProof.Rows L2 Evl
section
variable {P : Program} {w : World} {A : Around} {E : Value → Shared → Prop} {s : Shared}
set_option maxHeartbeats 8000000 in
/-- set(xs) of integers -/
theorem call_setL {l : Addr} {items : Array Value} (ks : List Int) {Q : Value → Shared → Prop} (hh : A.handled = none) (hl : s.heap.IsList l items) (hit : IntsAre items.toList ks) (few : ks.length + 1 < scanBound)
    (k : ∀ (h' : Heap) (tk c : Nat), SetR w h' s.heap.objs.size (fun j => decide (j ∈ ks)) c → c ≤ ks.length → (∀ b o, s.heap.get? b = some o → h'.get? b = some o) → Q (.ref s.heap.objs.size) { s with heap := h', toks := tk }) :
    wpAny (model P w) A (call (.type "set") [.ref l]) Q E s := by
  have hn : items.size = ks.length := by
    have z := hit.length
    rw [Array.length_toList] at z
    exact z
  obtain ⟨c, tl, hmro⟩ := F.called_set.mro
  have f1 := F.called_set.made
  have f2 := F.called_set.sub
  have f3 := F.called_set.notType
  have f4 := F.called_set.canCreate
  have f5 := F.typeCall_set_1 (.ref l)
  refine wpAny_call (codeAny_of_tree ?_)
  show wpAny _ _ (callAny (.type "set") _) _ _ _
  refine wpAny_pure ⟨Code.quiet_builtin _ (by decide +kernel), codeAny_builtin F.entry_type_call ?_⟩
  rw [Around.under_plain (weight_type_call_type "set" [.ref l] []) rfl]
  repeat (any_goals (first | assumption | wp_step))
  -- what is made
  refine codeAny_mono (code_set_led1 (.ref l) (E := E) (Q₁ := fun u z => u = .ref s.heap.objs.size ∧ z = { s with heap := s.heap.push { cls := .type "set", dict := none, data := .set #[] 0 (.fresh 0 0 (!w.params.followText "set-order")) } }) ⟨rfl, rfl⟩) fun r z hr => ?_
  cases r with
  | error e => exact hr
  | ok fl =>
    cases fl with
    | next => exact hr.elim
    | brk => exact hr.elim
    | cont => exact hr.elim
    | ret u =>
      obtain ⟨rfl, rfl⟩ := hr
      generalize hO : ({ cls := .type "set", dict := none, data := .set #[] 0 (.fresh 0 0 (!w.params.followText "set-order")) } : Obj) = O
      have new : (s.heap.push O).get? s.heap.objs.size = some O := Heap.get?_push_size _ (by rw [← hO]; rfl)
      have hT : Shared.TypeIs { s with heap := s.heap.push O } (.ref s.heap.objs.size) "set" := ⟨_, new, by rw [← hO]⟩
      have f6 := F.called_set.init.lookup
      have f7 := F.called_set.init.bind (.ref s.heap.objs.size)
      repeat (any_goals (first | assumption | wp_step))
      refine codeAny_mono (codeAny_call_builtin (R := wants (fun r z => r = .none ∧ ∃ h' tk m, z = { s with heap := h', toks := tk } ∧ SetR w h' s.heap.objs.size (fun j => decide (j ∈ ks)) m ∧ m ≤ ks.length ∧ (∀ b o, s.heap.get? b = some o → h'.get? b = some o)) E)
        F.called_set.init.plain F.entry_set_init (check_set_init_1 hT ?_)) fun r2 z2 hr2 => ?_
      case refine_2 =>
        cases r2 with
        | error e => exact hr2
        | ok fl2 =>
          cases fl2 with
          | next => exact hr2.elim
          | brk => exact hr2.elim
          | cont => exact hr2.elim
          | ret u2 =>
            obtain ⟨rfl, h', tk, m, rfl, z1, z2, z3⟩ := hr2
            repeat (any_goals (first | assumption | wp_step))
            exact k _ _ _ z1 z2 z3
      obtain ⟨ol, hol, hcl, nl, hdl⟩ := id hl
      have lt : l < s.heap.objs.size := Heap.lt_size hol
      obtain ⟨oc, od, oda, osl⟩ := ol
      simp only at hcl hdl
      subst hcl hdl
      have hol' : (s.heap.push O).get? l = some { cls := .type "list", dict := od, data := .seq items nl, slots := osl } := Heap.get?_push_of_some _ hol
      have hl1 : (s.heap.push O).IsList l items := ⟨_, hol', rfl, nl, rfl⟩
      have g1 := F.sub_list_set
      have g2 := F.sub_list_frozenset
      have g3 : (Value.type "list" == Value.type "dict") = false := by decide
      have hh3 : A.in1.in1.in1.handled = none := by simp [hh]
      have hz : (s.heap.push O).objs.size = s.heap.objs.size + 1 := Heap.size_push ..
      have ne : l ≠ (s.heap.push O).objs.size := by
        rw [hz]
        exact Nat.ne_of_lt (Nat.lt_succ_of_lt lt)
      have off : s.heap.objs.size ∉ [(s.heap.push O).objs.size, l] := by
        rw [hz]
        simp only [List.mem_cons, List.not_mem_nil, or_false, not_or]
        exact ⟨Nat.ne_of_lt (Nat.lt_succ_self _), Nat.ne_of_gt lt⟩
      have val : ∀ (i : Nat) (v : Value), items[i]? = some v → ∃ q t, ks[i]? = some q ∧ v = .int q t := fun i v hv => by
        have li : i < ks.length := hn ▸ (Array.getElem?_eq_some_iff.mp hv).1
        obtain ⟨t, e⟩ := hit.int_at i v (by rw [Array.getElem?_toList]; exact hv)
        exact ⟨ks[i], t, List.getElem?_eq_getElem li, by simpa [List.getD, li] using e⟩
      have no : ∀ b, s.heap.objs.size ≤ b → s.heap.get? b = none := fun b hb => by
        cases e : s.heap.get? b with
        | none => rfl
        | some o => exact absurd (Nat.lt_of_lt_of_le (Heap.lt_size e) hb) (Nat.lt_irrefl _)
      subst hO
      unfold Builtin.«set.__init__» noKeywords Builtin.Frozenset.updateFrom
      generalize hPI : pyIter = PI
      wp_walk
      subst hPI
      refine wpAny_pyIter_list hl1 ?_
      refine wpAny_bind (wpAny_runValue ?_)
      refine set_update_ints ((Walks.list hh3 _ l ne items).toS) s.heap.objs.size off ks hn few val (items.size - 0) 0 _ (by omega) (Nat.zero_le _) ⟨⟨_, Heap.get?_push_size _ rfl, rfl, rfl⟩, hl1.push _⟩ ?_ ?_
      · exact ⟨0, Nat.le_refl 0, setR_new_at (Heap.get?_push_of_some _ new)⟩
      · intro z m mv hm R
        obtain ⟨h', g4, d', tk', os'⟩ := z
        obtain rfl : g4 = s.gens := mv.gens
        obtain rfl : d' = s.drawn := mv.drawn
        obtain rfl : os' = s.os := mv.os
        show wpAny _ _ _ _ _ _
        refine wpAny_pure ?_
        show wpAny _ _ (ret Value.none) _ _ _
        rw [hn] at hm
        refine wpAny_pure ⟨rfl, h', tk', m, rfl, R, hm, fun b o e => ?_⟩
        refine mv.heap b o (fun hb => ?_) (Heap.get?_push_of_some _ (Heap.get?_push_of_some _ e))
        have lb := Heap.lt_size e
        simp only [List.mem_cons, List.not_mem_nil, or_false] at hb
        rcases hb with q | q
        · rw [q] at lb
          exact absurd lb (Nat.lt_irrefl _)
        · rw [q, hz] at lb
          exact absurd (Nat.lt_of_succ_lt lb) (Nat.lt_irrefl _)
end
section
variable {X : Cx}
def rSetOfI (K : PySem.W.Frag) (w : World) : List V → Hp → VK → Prop := fun vs H Q => ∃ (l : Addr) (ks : List Int), vs = [V.ref l] ∧ SqL K H l (ks.map V.int) ∧ ks.length < 1000 ∧
  ∀ a m, H a = none → m ≤ ks.length → Q (.ref a) (upd H a (SetO w a (fun j => decide (j ∈ ks)) m))
theorem cr_setOfI (hc : X.calm = true) : CallR X (.type "set") (rSetOfI X.K X.w) := by
  intro pins s σ H vs us Q I r h
  obtain ⟨l, ks, rfl, hl, few, k⟩ := h
  obtain ⟨u, rfl, ru⟩ := vals1 r
  cases (show u = Value.ref l from ru)
  obtain ⟨its, rv, pl, hz⟩ := I.list hl
  have hn : H s.heap.objs.size = none := I.hok.fresh (Nat.le_refl _)
  refine call_setL (P := X.prog) (w := X.w) ks (I.ok.hd hc) pl.isList (by simpa using intsAre_of rv) (by unfold scanBound; omega) fun h' tk m R hm kp => ?_
  exact ⟨.ref s.heap.objs.size, upd H s.heap.objs.size (SetO X.w s.heap.objs.size _ m), I.laid (t' := tk) kp (Nat.le_refl _) (setO_new R), rfl, k _ m hn hm⟩
end
end AA

set_option Elab.async false
set_option linter.all false
set_option maxRecDepth 100000
set_option maxHeartbeats 4000000
/-! _law_reached. -/
namespace AA
open PySem PySem.Spec PyProof.Rows L2 Evl
def inD (ks : List Int) : PyData := .list (ks.map PyData.int)
theorem ints_lay : ∀ ks : List Int, PyData.depthAll (ks.map PyData.int) ≤ 1
  | [] => Nat.zero_le _
  | k :: ks => by
    show max (PyData.depth (.int k)) (PyData.depthAll (ks.map PyData.int)) ≤ 1
    have := ints_lay ks
    have h : PyData.depth (.int k) = 0 := rfl
    omega
theorem ints_can : ∀ ks : List Int, PyData.canLayAll0 (ks.map PyData.int) = true
  | [] => rfl
  | k :: ks => by
    show (PyData.canLay0 (.int k) && PyData.canLayAll0 (ks.map PyData.int)) = true
    rw [ints_can ks]
    rfl
theorem ints_shaped (ks : List Int) : SeqAt.shaped (inD ks) = true := by
  have h : PyData.depth (inD ks) ≤ 64 := by
    have := ints_lay ks
    show PyData.depthAll (ks.map PyData.int) + 1 ≤ 64
    omega
  show (PyData.canLayAll0 (ks.map PyData.int) && decide (PyData.depth (inD ks) ≤ 64)) = true
  rw [ints_can, decide_eq_true h]
  rfl
theorem dpa_ints {K : PySem.W.Frag} {H : Hp} : ∀ ks : List Int, DpAll K H (ks.map V.int) (ks.map PyData.int)
  | [] => .nil
  | k :: ks => .cons (.int k) (dpa_ints ks)
theorem dp_inD {K : PySem.W.Frag} {H : Hp} {p : Addr} {ks : List Int} (h : SqL K H p (ks.map V.int)) : Dp K H (.ref p) (inD ks) := .lst h (dpa_ints ks)
theorem inD_nil : ∀ ks : List Int, PyData.eqv (inD ks) (.list []) = ks.isEmpty
  | [] => rfl
  | _ :: _ => rfl
theorem any_int (ks : List Int) (c : Int) : ((ks.map PyData.int).any fun z => PyData.eqv z (.int c)) = decide (c ∈ ks) := by
  induction ks with
  | nil => rfl
  | cons k ks ih =>
    rw [List.map_cons, List.any_cons, ih]
    have h : PyData.eqv (.int k) (.int c) = (k == c) := rfl
    rw [h, Bool.eq_iff_iff]
    simp only [Bool.or_eq_true, beq_iff_eq, decide_eq_true_eq, List.mem_cons]
    exact ⟨fun z => z.imp (fun e => e.symm) id, fun z => z.imp (fun e => e.symm) id⟩
section
variable {P : Program} {w : World} {K : PySem.W.Frag} {mg : Str → Option Value} {base : Heap}
def spLRch (K : PySem.W.Frag) : Sp := fun vs H Q _ => ∃ (l : Addr) (i : Int) (us : List V) (ss : List St5) (U : List Int), vs = [.ref l, .int i] ∧ SqL K H l us ∧ DpAll K H us (ss.map stD) ∧ ss.length < 64 ∧ i ∈ U ∧ (∀ s ∈ ss, s.other ∈ U) ∧ U.length < 64 ∧
  ∀ (H' : Hp) (p : Addr) (zs : List Int), Ex H H' → H p = none → H' p = some (.lst (zs.map V.int)) → zs.Nodup → zs.Pairwise (· ≤ ·) → (∀ v, v ∈ zs ↔ Rch (edg ss) [i] v) → Q (.ref p) H'
abbrev nmLR : List Str := ["_law_steps", "_law_place", "_law_found", "_law_waiting", "_law_here", "_law_more", "_law_step_here"]
theorem scLR : FnScope nmLR ["_law_steps", "_law_place"] (defScope sLReached) := ⟨rfl, rfl, rfl, by decide +kernel, rfl, by decide +kernel, by decide +kernel⟩
theorem ok_lreached {f : Addr} {fd : FuncData} (F : L2.Fun K "_law_reached" "_law_reached" sLReached f fd) (B : Bn mg) (hset : mg "set" = none) : FnOk P w K mg base CX0 1 f fd ["_law_steps", "_law_place"] (spLRch K) := by
  refine F.ok scLR (fun vs H Q E h => ?_) (fun cdv A outer s H vs Q E hr h => ?_)
  · obtain ⟨l, i, us, ss, U, rfl, _⟩ := h
    rfl
  · obtain ⟨l, i, us, ss, U, rfl, hl, hD, hsz, hi, hEU, hU, k⟩ := h
    refine ⟨_, Evl.pss_cut (ps_asg (pe_tup (pa_cons (pe_lst (pa_cons (pv 1) pa_nil)) (pa_cons (pe_lst (pa_cons (pv 1) pa_nil)) pa_nil))) (pg_tup (n := 2) rfl (pgs_cons (pg_name (i := 2) scLR.nd rfl (Or.inr rfl)) (pgs_cons (pg_name (i := 3) scLR.nd rfl (Or.inl rfl)) pgs_nil))))
      (Evl.pss_cut (ps_while PassesOwn.never (pt_cmpR (op_neD hr.units) (pv 3) (pe_lst pa_nil) (nomark _))
          (pss_cons (ps_set (i := 4) scLR.nd rfl (Or.inr rfl) (pe_bm0 PySem.F.plainAttrs_list PySem.F.slot_list_pop PySem.F.type_list_pop mt_pop (pv 3)))
          (pss_cons (ps_set (i := 5) scLR.nd rfl (Or.inl rfl) (pe_callB (r := rSortedSet w) (cr_sortedSet (by rfl)) (by rfl) B.sorted boot_sorted (pa_cons (pe_callTy (r := rSetOfI K w) (cr_setOfI (by rfl)) (by rfl) hset boot_set (pa_cons
              (pe_lc (own := [("_law_step_here", 6)]) (g := gName 6) (by rfl) scLR.nd (pi_list (pv 0)) (blkOk_by (N := nmLR) (sc := defScope sLReached) (by decide +kernel)) (fun _ _ _ _ _ => pg_name (i := 6) scLR.nd rfl (Or.inl rfl))
                (fun _ _ _ _ _ => pts_one (PW.pt (pw_and (pt_cmpR op_eq (pe_ix (r := rIxT K) ix_tup (pv 6) pe_int (fun _ _ => rfl)) (pv 4) (nomark _)) (pw_and1 (pt_cmpR (r := rNotInD K) (op_notInD (Room.u65 hr)) (pe_ix (r := rIxT K) ix_tup (pv 6) pe_int (fun _ _ => rfl)) (pv 2) (by rfl))))))
                (fun _ _ _ _ _ => pe_ix (r := rIxT K) ix_tup (pv 6) pe_int (fun _ _ => rfl))) pa_nil)) pa_nil)))
          (pss_cons (ps_expr (pe_bm PySem.F.plainAttrs_list PySem.F.slot_list_extend PySem.F.type_list_extend mt_extend (pv 2) (pa_cons (pv 5) pa_nil)))
          (pss_one (ps_expr (pe_bm PySem.F.plainAttrs_list PySem.F.slot_list_extend PySem.F.type_list_extend mt_extend (pv 3) (pa_cons (pv 5) pa_nil))))))))
      (pss_one (ps_ret (pe_callB (r := rSorted K) cr_sorted (by rfl) B.sorted boot_sorted (pa_cons (pv 2) pa_nil))))), ?_⟩
    have shI : ∀ ks : List Int, SeqAt.shaped (inD ks) = true := ints_shaped
    -- found, waiting
    refine ⟨fun σ G => ∃ Fo Wa, σ = [some (.ref l), some (.int i), some (.ref Fo), some (.ref Wa), none, none, none] ∧ Ex H G ∧ H Fo = none ∧ H Wa = none ∧ Wa ≠ Fo ∧ G Fo = some (.lst [.int i]) ∧ G Wa = some (.lst [.int i]), ?_, ?_⟩
    · refine ⟨_, rfl, by show 1 ≤ sizeLine; decide, fun Fo hFo => ⟨_, rfl, by show 1 ≤ sizeLine; decide, fun Wa hWa => ⟨by show 2 ≤ sizeLine; decide, fun T hT => ⟨T, _, rfl, SqT.of upd_same, rfl, _, _, rfl, _, _, rfl, rfl, ?_⟩⟩⟩⟩
      have y1 := Ex.new (o := .lst [V.int i]) hFo
      have j1 : upd H Fo (.lst [V.int i]) Fo = some (.lst [V.int i]) := upd_same
      have ne : Wa ≠ Fo := (ne_of_none j1 hWa).symm
      have y2 := Ex.new (o := .lst [V.int i]) hWa
      have y3 := Ex.new (o := .tup [V.ref Fo, V.ref Wa]) hT
      exact ⟨Fo, Wa, rfl, y1.trans (y2.trans y3), hFo, fresh_back y1 hWa, ne, (y2.trans y3) _ _ j1, y3 _ _ upd_same⟩
    rintro σ G0 ⟨Fo, Wa, rfl, e0, hFo, hWa, nWF, hF0, hW0⟩
    have hRU : ∀ v, Rch (edg ss) [i] v → v ∈ U := fun v h => h.in (fun x hx => by rw [List.mem_singleton.mp hx]; exact hi) fun a b hab => by
      obtain ⟨s, h1, h2, h3⟩ := edg_mem.mp hab
      rw [← h3]
      exact hEU s h1
    refine ⟨fun σ G => ∃ (x4 x5 : Option V) (fs : List Int), σ = [some (.ref l), some (.int i), some (.ref Fo), some (.ref Wa), x4, x5, none] ∧ Ex H G ∧ G Fo = some (.lst (fs.map V.int)) ∧ fs.Nodup ∧ ∀ v, v ∈ fs ↔ Rch (edg ss) [i] v, ?_, ?_⟩
    · refine ⟨fun mm σ G => ∃ (x4 x5 : Option V) (fs ws : List Int), σ = [some (.ref l), some (.int i), some (.ref Fo), some (.ref Wa), x4, x5, none] ∧ 2 * (U.length - fs.length) + ws.length = mm ∧ mm ≤ 2 * U.length + 1 ∧ Ex H G ∧ G Fo = some (.lst (fs.map V.int)) ∧ G Wa = some (.lst (ws.map V.int)) ∧ fs.Nodup ∧ i ∈ fs ∧ (∀ v ∈ ws, v ∈ fs) ∧ (∀ v ∈ fs, Rch (edg ss) [i] v) ∧ (∀ a ∈ fs, a ∉ ws → ∀ b, (a, b) ∈ edg ss → b ∈ fs),
        ⟨_, none, none, [i], [i], rfl, rfl, by show 2 * (U.length - 1) + 1 ≤ _; omega, e0, hF0, hW0, by simp, by simp, (fun v h => h), (fun v h => .base h), fun a ha hn => absurd ha hn⟩, ?_⟩
      rintro mm σ G ⟨x4, x5, fs, ws, rfl, rfl, hmm, e, hF, hW, fnd, hif, hwf, hfr, hcl⟩
      refine ⟨_, rfl, Nat.zero_le _, fun q0 hq0 => ?_⟩
      have y1 := Ex.new (o := .lst []) hq0
      have j1 : upd G q0 (.lst []) q0 = some (.lst []) := upd_same
      generalize upd G q0 (.lst []) = G1 at y1 j1 ⊢
      have e1 := e.trans y1
      have hF1 := y1 _ _ hF
      have hW1 := y1 _ _ hW
      refine ⟨inD ws, .list [], dp_inD (SqL.of hW1), .lst (SqL.of j1) .nil, shI ws, rfl, _, rfl, ?_⟩
      rw [inD_nil]
      cases hwz : ws with
      | nil => exact iteF ⟨x4, x5, fs, rfl, e1, hF1, fnd, fun v => ⟨hfr v, fun h => h.closed (fun x hx => by rw [List.mem_singleton.mp hx]; exact hif) fun a ha b hab => hcl a ha (by rw [hwz]; simp) b hab⟩⟩
      | cons w0 wr =>
        obtain ⟨ps, c, ep⟩ : ∃ ps c, ws = ps ++ [c] := ⟨ws.dropLast, ws.getLast (by rw [hwz]; simp), (List.dropLast_concat_getLast _).symm⟩
        refine iteT ?_
        rw [← hwz, ep]
        rw [ep] at hW1 hwf hcl hmm
        have hW1' : G1 Wa = some (.lst (ps.map V.int ++ [V.int c])) := by
          rw [hW1, List.map_append]
          rfl
        have hc : c ∈ fs := hwf c (by simp)
        refine ⟨fun σ G => ∃ (x4 x5 : Option V) (fs' ws' : List Int), σ = [some (.ref l), some (.int i), some (.ref Fo), some (.ref Wa), x4, x5, none] ∧ 2 * (U.length - fs'.length) + ws'.length < 2 * (U.length - fs.length) + (ps ++ [c]).length ∧ Ex H G ∧ G Fo = some (.lst (fs'.map V.int)) ∧ G Wa = some (.lst (ws'.map V.int)) ∧ fs'.Nodup ∧ i ∈ fs' ∧ (∀ v ∈ ws', v ∈ fs') ∧ (∀ v ∈ fs', Rch (edg ss) [i] v) ∧ (∀ a ∈ fs', a ∉ ws' → ∀ b, (a, b) ∈ edg ss → b ∈ fs'), ?_, ?_⟩
        · rintro σ' G' ⟨x4, x5, fs', ws', e', lt, r⟩
          exact ⟨_, lt, x4, x5, fs', ws', e', rfl, by omega, r⟩
        refine ⟨_, rfl, .inl ⟨rfl, _, SqL.of hW1'⟩, Wa, _, .int c, rfl, rfl, hW1', by simp, ?_⟩
        rw [List.dropLast_concat]
        have e2 := e1.mut (o := .lst (ps.map V.int)) hWa
        have hF2 : upd G1 Wa (.lst (ps.map V.int)) Fo = some (.lst (fs.map V.int)) := by rw [upd_ne nWF.symm]; exact hF1
        have hW2 : upd G1 Wa (.lst (ps.map V.int)) Wa = some (.lst (ps.map V.int)) := upd_same
        generalize upd G1 Wa (.lst (ps.map V.int)) = G2 at e2 hF2 hW2 ⊢
        refine ⟨_, rfl, l, rfl, ⟨_, ex_l e2 hl⟩, fun D hD0 => ?_⟩
        have hul := sts_len hD
        refine lc_list (xs := us) (fun j G => Ex G2 G ∧ ∃ ks : List Int, G D = some (.lst (ks.map V.int)) ∧ (∀ x, x ∈ ks ↔ ∃ s ∈ ss.take j, s.one = c ∧ s.other = x ∧ x ∉ fs) ∧ ks.length ≤ j) ⟨Ex.new hD0, [], upd_same, (fun x => by simp), Nat.le_refl _⟩ (fun j G _ q => ex_l (e2.trans q.1) hl) ?_ ?_
        · rintro j x G3 hx ⟨q1, ks, q2, q3, q4⟩
          have jl := (List.getElem?_eq_some_iff.mp hx).1
          obtain ⟨s, t, hs, rfl, ht⟩ := sts_get hD hx
          obtain ⟨_, u, e, p1, p2⟩ := stD_inv (dp_ex (e2.trans q1) _ _ ht)
          cases e
          have tk : ss.take (j + 1) = ss.take j ++ [s] := by rw [List.take_add_one, hs]; rfl
          have skip : (¬ (s.one = c ∧ s.other ∉ fs)) → Ex G2 G3 ∧ ∃ ks : List Int, G3 D = some (.lst (ks.map V.int)) ∧ (∀ x, x ∈ ks ↔ ∃ s ∈ ss.take (j + 1), s.one = c ∧ s.other = x ∧ x ∉ fs) ∧ ks.length ≤ j + 1 := fun hn => ⟨q1, ks, q2, fun x => by
            rw [q3 x, tk]
            refine ⟨fun ⟨s', h1, h2⟩ => ⟨s', List.mem_append_left _ h1, h2⟩, fun ⟨s', h1, h2, h3, h4⟩ => ?_⟩
            rcases List.mem_append.mp h1 with h1 | h1
            · exact ⟨s', h1, h2, h3, h4⟩
            · obtain rfl := List.mem_singleton.mp h1
              rw [← h3] at h4
              exact absurd ⟨h2, h4⟩ hn, by omega⟩
          refine ⟨rfl, _, rfl, t, _, 0, .int s.one, rfl, rfl, p1, rfl, _, rfl, rfl, _, rfl, ?_⟩
          refine dec_ite (fun z1 => ?_) (fun z1 => skip fun z2 => z1 (by rw [z2.1]))
          have hone : s.one = c := V.int.inj z1
          refine ⟨_, rfl, t, _, 1, .int s.other, rfl, rfl, p1, rfl, _, rfl, .int s.other, fs.map PyData.int, .int _, dp_inD (SqL.of (q1 _ _ hF2)), rfl, shI fs, _, rfl, ?_⟩
          rw [any_int]
          by_cases hin : s.other ∈ fs
          · rw [decide_eq_true hin]
            exact iteF (skip fun z => z.2 hin)
          · rw [decide_eq_false hin]
            refine iteT ?_
            refine ⟨_, rfl, t, _, 1, .int s.other, rfl, rfl, p1, rfl, ks.map V.int, q2, by rw [List.length_map]; exact sz_m (by omega), q1.mut hD0, ks ++ [s.other], ?_, fun x => ?_, by rw [List.length_append]; exact Nat.succ_le_succ q4⟩
            · rw [List.map_append]
              exact upd_same
            · rw [List.mem_append, q3 x, tk, List.mem_singleton]
              constructor
              · rintro (⟨s', h1, h2⟩ | h)
                · exact ⟨s', List.mem_append_left _ h1, h2⟩
                · exact ⟨s, List.mem_append_right _ List.mem_cons_self, hone, h.symm, by rw [h]; exact hin⟩
              · rintro ⟨s', h1, h2, h3, h4⟩
                rcases List.mem_append.mp h1 with h1 | h1
                · exact .inl ⟨s', h1, h2, h3, h4⟩
                · rw [List.mem_singleton.mp h1] at h3
                  exact .inr h3.symm
        · rintro G3 ⟨q1, ks, q2, q3, q4⟩
          rw [hul] at q4
          rw [hul, List.take_length] at q3
          refine ⟨D, ks, rfl, SqL.of q2, by omega, fun a m ha hm => ?_⟩
          have y4 := Ex.new (o := SetO w a (fun j => decide (j ∈ ks)) m) ha
          have j4 : upd G3 a (SetO w a (fun j => decide (j ∈ ks)) m) a = some (SetO w a (fun j => decide (j ∈ ks)) m) := upd_same
          generalize upd G3 a (SetO w a (fun j => decide (j ∈ ks)) m) = G4 at y4 j4 ⊢
          refine ⟨a, _, m, rfl, j4, by omega, fun ns p so hmem _ hp => ?_⟩
          have y5 := Ex.new (o := .lst (ns.map V.int)) hp
          have j5 : upd G4 p (.lst (ns.map V.int)) p = some (.lst (ns.map V.int)) := upd_same
          have e25 : Ex G2 (upd G4 p (.lst (ns.map V.int))) := q1.trans (y4.trans y5)
          have pF : p ≠ Fo := (ne_of_none ((q1.trans y4) _ _ hF2) hp).symm
          have pW : p ≠ Wa := (ne_of_none ((q1.trans y4) _ _ hW2) hp).symm
          generalize upd G4 p (.lst (ns.map V.int)) = G5 at j5 e25 ⊢
          have hns : ∀ x, x ∈ ns ↔ (c, x) ∈ edg ss ∧ x ∉ fs := fun x => by
            rw [hmem x, decide_eq_true_eq, q3 x, edg_mem]
            exact ⟨fun ⟨s, h1, h2, h3, h4⟩ => ⟨⟨s, h1, h2, h3⟩, h4⟩, fun ⟨⟨s, h1, h2, h3⟩, h4⟩ => ⟨s, h1, h2, h3, h4⟩⟩
          have nsn : ns.Nodup := List.Pairwise.imp (fun h => by omega) so
          have nd2 : (fs ++ ns).Nodup := List.nodup_append.mpr ⟨fnd, nsn, fun x hx y hy q => ((hns y).mp hy).2 (q ▸ hx)⟩
          have rn : ∀ x ∈ ns, Rch (edg ss) [i] x := fun x hx => .step (hfr c hc) ((hns x).mp hx).1
          have hz := nd_len (fs ++ ns) U nd2 fun v hv => (List.mem_append.mp hv).elim (fun q => hRU v (hfr v q)) fun q => hRU v (rn v q)
          rw [List.length_append] at hz
          rw [List.length_append, List.length_singleton] at hmm
          have hF5 := e25 _ _ hF2
          have hW5 := e25 _ _ hW2
          refine ⟨_, rfl, .inl ⟨rfl, _, SqL.of hF5⟩, _, rfl, Fo, p, _, _, rfl, rfl, hF5, j5, sz_le (by rw [List.length_map, List.length_map]; omega), ?_⟩
          rw [← List.map_append]
          have e6 := (e2.trans e25).mut (o := .lst ((fs ++ ns).map V.int)) hFo
          have hF6 : upd G5 Fo (.lst ((fs ++ ns).map V.int)) Fo = some (.lst ((fs ++ ns).map V.int)) := upd_same
          have hW6 : upd G5 Fo (.lst ((fs ++ ns).map V.int)) Wa = some (.lst (ps.map V.int)) := by rw [upd_ne nWF]; exact hW5
          have hp6 : upd G5 Fo (.lst ((fs ++ ns).map V.int)) p = some (.lst (ns.map V.int)) := by rw [upd_ne pF]; exact j5
          generalize upd G5 Fo (.lst ((fs ++ ns).map V.int)) = G6 at e6 hF6 hW6 hp6 ⊢
          refine ⟨_, rfl, .inl ⟨rfl, _, SqL.of hW6⟩, _, rfl, Wa, p, _, _, rfl, rfl, hW6, hp6, sz_le (by rw [List.length_map, List.length_map]; omega), ?_⟩
          rw [← List.map_append]
          refine ⟨_, _, fs ++ ns, ps ++ ns, rfl, by rw [List.length_append, List.length_append, List.length_append, List.length_singleton]; omega, e6.mut hWa, by rw [upd_ne nWF.symm]; exact hF6, upd_same, nd2, List.mem_append_left _ hif, fun v h => ?_, fun v h => ?_, fun a ha hn b hab => ?_⟩
          · exact (List.mem_append.mp h).elim (fun q => List.mem_append_left _ (hwf v (List.mem_append_left _ q))) fun q => List.mem_append_right _ q
          · exact (List.mem_append.mp h).elim (hfr v) (rn v)
          · rcases List.mem_append.mp ha with ha | ha
            · by_cases q : a = c
              · rw [q] at hab
                by_cases hb : b ∈ fs
                · exact List.mem_append_left _ hb
                · exact List.mem_append_right _ ((hns b).mpr ⟨hab, hb⟩)
              · exact List.mem_append_left _ (hcl a ha (fun z => (List.mem_append.mp z).elim (fun y => hn (List.mem_append_left _ y)) fun y => q (List.mem_singleton.mp y)) b hab)
            · exact absurd (List.mem_append_right _ ha) hn
    rintro σ G7 ⟨x4, x5, fs, rfl, e7, hF7, fnd, hfm⟩
    refine ⟨_, rfl, Fo, fs, rfl, SqL.of hF7, Nat.lt_of_le_of_lt (nd_len fs U fnd fun v hv => hRU v ((hfm v).mp hv)) hU, fun ys p pm so hp => ?_⟩
    exact k _ p ys (e7.trans (Ex.new hp)) (fresh_back e7 hp) upd_same (pm.symm.nodup fnd) so fun v => by rw [pm.mem_iff, hfm v]
end
end AA

set_option Elab.async false
set_option linter.all false
set_option maxRecDepth 100000
set_option maxHeartbeats 4000000
/-! The law's _law_ahead. -/
namespace AA
open PySem PySem.Spec PyProof.Rows L2 Evl
/-- the steps that begin at some places -/
def ahd (ss : List St5) (zs : List Int) : List St5 := ss.filter fun s => decide (s.one ∈ zs)
section
variable {P : Program} {w : World} {K : PySem.W.Frag} {mg : Str → Option Value} {base : Heap}
def spLAh (K : PySem.W.Frag) : Sp := fun vs H Q _ => ∃ (l : Addr) (i : Int) (us : List V) (ss : List St5) (U : List Int), vs = [.ref l, .int i] ∧ SqL K H l us ∧ DpAll K H us (ss.map stD) ∧ ss.length < 64 ∧ i ∈ U ∧ (∀ s ∈ ss, s.other ∈ U) ∧ U.length < 64 ∧
  ∀ (H' : Hp) (p : Addr) (us' : List V) (zs : List Int), Ex H H' → H p = none → H' p = some (.lst us') → DpAll K H us' ((ahd ss zs).map stD) → (∀ v, v ∈ zs ↔ Rch (edg ss) [i] v) → Q (.ref p) H'
abbrev nmLa : List Str := ["_law_steps", "_law_place", "_law_known", "_law_step_here"]
theorem scLa : FnScope nmLa ["_law_steps", "_law_place"] (defScope sLAhead) := ⟨rfl, rfl, rfl, by decide +kernel, rfl, by decide +kernel, by decide +kernel⟩
theorem ok_lahead {f : Addr} {fd : FuncData} (F : L2.Fun K "_law_ahead" "_law_ahead" sLAhead f fd) (cR : C8.Cal P w K mg base 1 "_law_reached" (spLRch K) []) : FnOk P w K mg base CX0 2 f fd ["_law_steps", "_law_place"] (spLAh K) := by
  refine F.ok scLa (fun vs H Q E h => ?_) (fun cdv Ar outer s H vs Q E hr h => ?_)
  · obtain ⟨l, i, us, ss, U, rfl, _⟩ := h
    rfl
  · obtain ⟨l, i, us, ss, U, rfl, hl, hD, hz, hi, hU, hUl, k⟩ := h
    refine ⟨_, pss_cons (ps_set (i := 2) scLa.nd rfl (Or.inr rfl) (C8.pe_c cR hr (by decide) (by rfl) (pa_cons (pv 0) (pa_cons (pv 1) pa_nil))))
      (pss_one (ps_ret (pe_lc (own := [("_law_step_here", 3)]) (g := gName 3) (by rfl) scLa.nd (pi_list (pv 0)) (blkOk_by (N := nmLa) (sc := defScope sLAhead) (by decide +kernel)) (fun _ _ _ _ _ => pg_name (i := 3) scLa.nd rfl (Or.inl rfl))
        (fun _ _ _ _ _ => pts_one (pt_cmpR (r := rInD K) (op_inD (Room.u65 hr)) (pe_ix (r := rIxT K) ix_tup (pv 3) pe_int (fun _ _ => rfl)) (pv 2) (by rfl))) (fun _ _ _ _ _ => pv 3)))), ?_⟩
    refine ⟨_, rfl, _, rfl, l, i, us, ss, U, rfl, hl, hD, hz, hi, hU, hUl, fun H1 p zs e1 p0 hp nd so hm => ?_⟩
    refine ⟨_, rfl, l, rfl, ⟨_, ex_l e1 hl⟩, fun D hD0 => ?_⟩
    have hul := sts_len hD
    refine lc_list (xs := us) (fun j G => Ex H1 G ∧ ∃ us' : List V, G D = some (.lst us') ∧ DpAll K H us' ((ahd (ss.take j) zs).map stD) ∧ us'.length ≤ j) ⟨Ex.new hD0, [], upd_same, .nil, Nat.le_refl _⟩ (fun j G _ q => ex_l (e1.trans q.1) hl) ?_ ?_
    · rintro j x G hx ⟨q1, us', q2, q3, q4⟩
      have jl := get_len hx
      obtain ⟨s, t, hs, rfl, ht⟩ := sts_get hD hx
      obtain ⟨_, u, e, p1, p2⟩ := stD_inv (dp_ex (e1.trans q1) _ _ ht)
      cases e
      have tk : ahd (ss.take (j + 1)) zs = ahd (ss.take j) zs ++ (if s.one ∈ zs then [s] else []) := by
        unfold ahd
        rw [List.take_add_one, hs, List.filter_append]
        congr 1
        by_cases h : s.one ∈ zs
        · rw [if_pos h]
          exact List.filter_cons_of_pos (by simpa using h)
        · rw [if_neg h]
          exact List.filter_cons_of_neg (by simpa using h)
      refine ⟨rfl, _, rfl, t, _, 0, .int s.one, rfl, rfl, p1, rfl, _, rfl, .int s.one, zs.map PyData.int, .int _, dp_inD (SqL.of (q1 _ _ hp)), rfl, ints_shaped zs, _, rfl, ?_⟩
      rw [any_int]
      by_cases h : s.one ∈ zs
      · rw [decide_eq_true h]
        refine iteT ⟨_, rfl, us', q2, sz_m (by omega), q1.mut hD0, us' ++ [.ref t], upd_same, ?_, by rw [List.length_append]; exact Nat.succ_le_succ q4⟩
        rw [tk, if_pos h, List.map_append]
        exact dpa_app q3 (.cons ht .nil)
      · rw [decide_eq_false h]
        refine iteF ⟨q1, us', q2, ?_, by omega⟩
        rw [tk, if_neg h, List.append_nil]
        exact q3
    · rintro G ⟨q1, us', q2, q3, q4⟩
      rw [hul, List.take_length] at q3
      exact k G D us' zs (e1.trans q1) (fresh_back e1 hD0) q2 q3 hm
end
end AA

set_option Elab.async false
set_option linter.all false
set_option maxRecDepth 100000
set_option maxHeartbeats 4000000
/-! Walks on their way round, and lists of walks on the heap. -/
namespace AA
open PySem PySem.Spec PyProof.Rows L2 Evl
theorem six_len {l : List Int} (hn : l.Nodup) (h : ∀ x ∈ l, 0 ≤ x ∧ x < 6) : l.length ≤ 6 :=
  nd_len l [0, 1, 2, 3, 4, 5] hn fun x hx => by
    have := h x hx
    simp only [List.mem_cons, List.not_mem_nil, or_false]
    omega
/-- the places that a walk comes to -/
def metL (w : List St5) (t : St5) : List Int := w.map (·.one) ++ [t.other]
/-- a walk on its way round from f -/
structure RWay (ss : List St5) (f : Int) (w : List St5) (t : St5) : Prop where
  last : w.getLast? = some t
  sub : ∀ s ∈ w, s ∈ ss
  nd : (w.map (·.one)).Nodup
  nx : t.other = f ∨ t.other ∉ w.map (·.one)
/-- a walk that is told -/
structure RgOk (ss w : List St5) : Prop where
  len : w.length ≤ 6
  sub : ∀ s ∈ w, s ∈ ss
theorem RWay.ok {c f : Int} {ss w : List St5} {t : St5} (h : RWay ss f w t) (hc : c ≤ 6) (hok : ∀ s ∈ ss, StOk c s) : RgOk ss w := by
  refine ⟨?_, h.sub⟩
  have := six_len h.nd fun x hx => by
    obtain ⟨s, hs, rfl⟩ := List.mem_map.mp hx
    have o := hok s (h.sub s hs)
    exact ⟨o.o0, by have := o.o1; omega⟩
  rw [List.length_map] at this
  exact this
theorem RWay.more {f : Int} {ss w : List St5} {t s : St5} (h : RWay ss f w t) (hf : t.other ≠ f) (hs : s ∈ ss) (e : s.one = t.other) (hn : s.other = f ∨ s.other ∉ metL w t) : RWay ss f (w ++ [s]) s := by
  have em : (w ++ [s]).map (·.one) = metL w t := by
    unfold metL
    rw [List.map_append, ← e]
    rfl
  refine ⟨by rw [List.getLast?_append]; rfl, fun x hx => (List.mem_append.mp hx).elim (h.sub x) (fun z => (List.mem_singleton.mp z) ▸ hs), ?_, by rw [em]; exact hn⟩
  rw [em]
  unfold metL
  refine List.nodup_append.mpr ⟨h.nd, by simp, fun x hx y hy z => ?_⟩
  obtain rfl := List.mem_singleton.mp hy
  exact (h.nx.resolve_left hf) (z ▸ hx)
/-- the steps that begin where a walk has not been -/
def rest (ss w : List St5) : Nat := (ss.filter fun s => decide (s.one ∉ w.map (·.one))).length
def deg (ss : List St5) (p : Int) : Nat := (ss.filter fun s => decide (s.one = p)).length
theorem rest_deg {w : List St5} {p : Int} {s : St5} (hp : p ∉ w.map (·.one)) (e : s.one = p) : ∀ ss : List St5, rest ss (w ++ [s]) + deg ss p = rest ss w
  | [] => rfl
  | x :: ss => by
    have ih := rest_deg hp e ss
    unfold rest deg at ih ⊢
    have em : (w ++ [s]).map (·.one) = w.map (·.one) ++ [p] := by rw [List.map_append, ← e]; rfl
    rw [em] at ih ⊢
    by_cases h1 : x.one = p
    · have h2 : ¬ (x.one ∉ w.map (·.one) ++ [p]) := by rw [h1]; simp
      have h3 : x.one ∉ w.map (·.one) := by rw [h1]; exact hp
      rw [List.filter_cons_of_neg (by simpa using h2), List.filter_cons_of_pos (by simpa using h1), List.filter_cons_of_pos (by simpa using h3), List.length_cons, List.length_cons]
      omega
    · rw [List.filter_cons_of_neg (a := x) (p := fun s => decide (s.one = p)) (by simpa using h1)]
      by_cases h3 : x.one ∈ w.map (·.one)
      · have h2 : ¬ (x.one ∉ w.map (·.one) ++ [p]) := fun z => z (List.mem_append_left _ h3)
        rw [List.filter_cons_of_neg (by simpa using h2), List.filter_cons_of_neg (by simpa using h3)]
        exact ih
      · have h2 : x.one ∉ w.map (·.one) ++ [p] := fun z => (List.mem_append.mp z).elim h3 fun y => h1 (List.mem_singleton.mp y)
        rw [List.filter_cons_of_pos (by simpa using h2), List.filter_cons_of_pos (by simpa using h3), List.length_cons, List.length_cons]
        omega
theorem rest_nil (ss : List St5) : rest ss [] = ss.length := by
  unfold rest
  rw [List.filter_eq_self.mpr fun x _ => by simp]
def mzR (ss w : List St5) : Nat := 2 ^ rest ss w
def mzS (ss : List St5) (ws : List (List St5)) : Nat := (ws.map (mzR ss)).sum
theorem mzR_pos (ss w : List St5) : 1 ≤ mzR ss w := Nat.one_le_pow _ _ (by decide)
theorem mzS_len (ss : List St5) : ∀ ws : List (List St5), ws.length ≤ mzS ss ws
  | [] => Nat.zero_le _
  | w :: r => by
    have h1 := mzR_pos ss w
    have h2 := mzS_len ss r
    show r.length + 1 ≤ mzR ss w + mzS ss r
    omega
theorem mzS_app (ss : List St5) (xs ys : List (List St5)) : mzS ss (xs ++ ys) = mzS ss xs + mzS ss ys := by
  unfold mzS
  rw [List.map_append, List.sum_append]
theorem mzS_le {ss : List St5} {n : Nat} : ∀ ws : List (List St5), (∀ w ∈ ws, mzR ss w ≤ n) → mzS ss ws ≤ ws.length * n
  | [], _ => Nat.zero_le _
  | w :: r, h => by
    have h1 := h w List.mem_cons_self
    have h2 := mzS_le r fun x hx => h x (List.mem_cons_of_mem _ hx)
    show mzR ss w + mzS ss r ≤ (r.length + 1) * n
    rw [Nat.succ_mul]
    omega
/-- all that goes on from a walk weighs less than it -/
theorem mzS_lt {ss u : List St5} {p : Int} {news : List (List St5)} (hp : p ∉ u.map (·.one)) (hn : ∀ w ∈ news, ∃ s : St5, w = u ++ [s] ∧ s.one = p) (hl : news.length ≤ deg ss p) : mzS ss news < mzR ss u := by
  cases news with
  | nil => exact mzR_pos ss u
  | cons w0 r =>
    obtain ⟨s0, _, e0⟩ := hn w0 List.mem_cons_self
    have hr := rest_deg hp e0 ss
    have hle := mzS_le (ss := ss) (n := 2 ^ rest ss (u ++ [s0])) (w0 :: r) fun w hw => by
      obtain ⟨s, ew, es⟩ := hn w hw
      have h2 := rest_deg hp es ss
      unfold mzR
      rw [ew]
      exact Nat.pow_le_pow_right (by decide) (by omega)
    have h1 : (w0 :: r).length * 2 ^ rest ss (u ++ [s0]) < 2 ^ deg ss p * 2 ^ rest ss (u ++ [s0]) := Nat.mul_lt_mul_of_pos_right (Nat.lt_of_le_of_lt hl Nat.lt_two_pow_self) (Nat.one_le_pow _ _ (by decide))
    have h2 : mzR ss u = 2 ^ deg ss p * 2 ^ rest ss (u ++ [s0]) := by
      unfold mzR
      rw [← hr, Nat.pow_add, Nat.mul_comm]
    omega
theorem deg_take {ss : List St5} {p : Int} (i : Nat) : deg (ss.take i) p ≤ deg ss p := by
  unfold deg
  exact (List.Sublist.filter _ (List.take_sublist i ss)).length_le
theorem deg_le {ss : List St5} {p : Int} : deg ss p ≤ ss.length := List.length_filter_le _ _
/-- a walk as a list on the heap, beside some addresses -/
def WyAt (K : PySem.W.Frag) (H : Hp) (X : List Addr) (G : Hp) (o : V) (w : List St5) : Prop := ∃ q xs, o = V.ref q ∧ H q = none ∧ q ∉ X ∧ G q = some (.lst xs) ∧ DpAll K H xs (w.map stD)
inductive WyL (K : PySem.W.Frag) (H : Hp) (X : List Addr) (G : Hp) : List V → List (List St5) → Prop
  | nil : WyL K H X G [] []
  | cons {o : V} {w : List St5} {os : List V} {ws : List (List St5)} (h : WyAt K H X G o w) (t : WyL K H X G os ws) : WyL K H X G (o :: os) (w :: ws)
section
variable {K : PySem.W.Frag} {H : Hp}
theorem WyAt.go {X : List Addr} {G G' : Hp} {o : V} {w : List St5} (h : WyAt K H X G o w) (e : ∀ q u, q ∉ X → G q = some u → G' q = some u) : WyAt K H X G' o w := by
  obtain ⟨q, xs, h1, h0, h2, h3, h4⟩ := h
  exact ⟨q, xs, h1, h0, h2, e _ _ h2 h3, h4⟩
theorem WyL.go {X : List Addr} {G G' : Hp} (e : ∀ q u, q ∉ X → G q = some u → G' q = some u) : ∀ {os : List V} {ws : List (List St5)}, WyL K H X G os ws → WyL K H X G' os ws
  | _, _, .nil => .nil
  | _, _, .cons h t => .cons (h.go e) (WyL.go e t)
theorem WyL.sub {X Y : List Addr} {G : Hp} (hs : ∀ x ∈ Y, x ∈ X) : ∀ {os : List V} {ws : List (List St5)}, WyL K H X G os ws → WyL K H Y G os ws
  | _, _, .nil => .nil
  | _, _, .cons ⟨q, xs, h1, h0, h2, h3⟩ t => .cons ⟨q, xs, h1, h0, fun z => h2 (hs q z), h3⟩ (WyL.sub hs t)
theorem WyL.add {X : List Addr} {G : Hp} {D : Addr} (h : G D = none) : ∀ {os : List V} {ws : List (List St5)}, WyL K H X G os ws → WyL K H (X ++ [D]) G os ws
  | _, _, .nil => .nil
  | _, _, .cons ⟨q, xs, h1, h0, h2, h3, h4⟩ t => .cons ⟨q, xs, h1, h0, fun z => (List.mem_append.mp z).elim h2 (fun y => ne_of_none h3 h (List.mem_singleton.mp y)), h3, h4⟩ (WyL.add h t)
theorem WyL.app {X : List Addr} {G : Hp} : ∀ {os ps : List V} {ws us : List (List St5)}, WyL K H X G os ws → WyL K H X G ps us → WyL K H X G (os ++ ps) (ws ++ us)
  | _, _, _, _, .nil, k => k
  | _, _, _, _, .cons h t, k => .cons h (WyL.app t k)
theorem WyL.len {X : List Addr} {G : Hp} : ∀ {os : List V} {ws : List (List St5)}, WyL K H X G os ws → os.length = ws.length
  | _, _, .nil => rfl
  | _, _, .cons h t => by rw [List.length_cons, List.length_cons, WyL.len t]
theorem WyL.snoc {X : List Addr} {G : Hp} : ∀ {os : List V} {ws : List (List St5)}, WyL K H X G os ws → ws ≠ [] → ∃ ps p us u, os = ps ++ [p] ∧ ws = us ++ [u] ∧ WyL K H X G ps us ∧ WyAt K H X G p u
  | _, _, .nil, h => absurd rfl h
  | _, _, .cons h .nil, _ => ⟨[], _, [], _, rfl, rfl, .nil, h⟩
  | _, _, .cons h (.cons h2 t), _ => by
    obtain ⟨ps, p, us, u, e1, e2, k1, k2⟩ := WyL.snoc (.cons h2 t) (by simp)
    exact ⟨_ :: ps, p, _ :: us, u, by rw [e1]; rfl, by rw [e2]; rfl, .cons h k1, k2⟩
/-- as data -/
def wkD (w : List St5) : PyData := .list (w.map stD)
theorem WyL.dpa {X : List Addr} {G : Hp} (e : Ex H G) : ∀ {os : List V} {ws : List (List St5)}, WyL K H X G os ws → DpAll K G os (ws.map wkD)
  | _, _, .nil => .nil
  | _, _, .cons ⟨q, xs, h1, h0, h2, h3, h4⟩ t => by
    subst h1
    exact .cons (.lst (SqL.of h3) (dpa_ex e _ _ h4)) (WyL.dpa e t)
theorem wkDs_lay : ∀ ws : List (List St5), PyData.canLayAll0 (ws.map wkD) = true
  | [] => rfl
  | s :: r => by
    show (PyData.canLayAll0 (s.map stD) && PyData.canLayAll0 (r.map wkD)) = true
    rw [wkDs_lay r, stDs_lay]
    rfl
theorem wkDs_depth : ∀ ws : List (List St5), PyData.depthAll (ws.map wkD) ≤ 3
  | [] => by decide
  | s :: r => by
    have h1 := wkDs_depth r
    have h2 := stDs_depth s
    show max (PyData.depthAll (s.map stD) + 1) (PyData.depthAll (r.map wkD)) ≤ 3
    omega
theorem wkDs_shaped (ws : List (List St5)) : SeqAt.shaped (.list (ws.map wkD)) = true := by
  have h : PyData.depth (.list (ws.map wkD)) ≤ 64 := by
    have := wkDs_depth ws
    show PyData.depthAll (ws.map wkD) + 1 ≤ 64
    omega
  show (PyData.canLayAll0 (ws.map wkD) && decide (PyData.depth (.list (ws.map wkD)) ≤ 64)) = true
  rw [wkDs_lay, decide_eq_true h]
  rfl
theorem eqv_wks_nil : ∀ ws : List (List St5), PyData.eqv (.list (ws.map wkD)) (.list []) = ws.isEmpty
  | [] => rfl
  | _ :: _ => rfl
end
end AA

set_option Elab.async false
set_option linter.all false
set_option maxRecDepth 100000
set_option maxHeartbeats 4000000
/-! Each sum is that of a walk that comes into no place twice. -/
namespace AA
open PySem PySem.Spec PyProof.Rows L2 Evl
def Att (W : St5 → Int) (ss : List St5) (I sm : List (Int × Int)) : Prop := (∀ v x, gt sm v = some x → ∃ p y L, gt I p = some y ∧ Wlk5 p L v ∧ (∀ s ∈ L, s ∈ ss) ∧ x = y + (L.map W).sum) ∧ ∀ v y, gt I v = some y → ∃ x, gt sm v = some x ∧ x ≤ y
theorem lowTo_is {W : St5 → Int} {sm : List (Int × Int)} {s : St5} {x : Int} (h : lowTo W sm s = some x) : ∃ a, gt sm s.one = some a ∧ x = a + W s ∧ ∀ c, gt sm s.other = some c → x < c := by
  unfold lowTo at h
  cases h1 : gt sm s.one with
  | none =>
    rw [h1] at h
    cases h
  | some a =>
    rw [h1] at h
    cases h2 : gt sm s.other with
    | none =>
      rw [h2] at h
      exact ⟨a, rfl, (Option.some.inj h).symm, fun c hc => by cases hc⟩
    | some c =>
      rw [h2] at h
      have h' : (if a + W s < c then some (a + W s) else none) = some x := h
      by_cases q : a + W s < c
      · rw [if_pos q] at h'
        cases h'
        exact ⟨a, rfl, rfl, fun c' hc' => by cases hc'; exact q⟩
      · rw [if_neg q] at h'
        cases h'
theorem att_low1 {W : St5 → Int} {ss : List St5} {I : List (Int × Int)} {b : BS} {s : St5} (hs : s ∈ ss) (h : Att W ss I b.sm) : Att W ss I (low1 W b s).sm := by
  unfold low1
  cases hl : lowTo W b.sm s with
  | none => exact h
  | some x =>
    obtain ⟨a, ha, hx, hlt⟩ := lowTo_is hl
    show Att W ss I (put b.sm s.other x)
    refine ⟨fun v y hy => ?_, fun v y hy => ?_⟩
    · rw [gt_put] at hy
      by_cases e : s.other = v
      · rw [if_pos e] at hy
        cases hy
        obtain ⟨p, y0, L, h1, h2, h3, h4⟩ := h.1 _ _ ha
        refine ⟨p, y0, L ++ [s], h1, (wlk5_app p L [s] v).mpr ⟨s.one, h2, rfl, e⟩, fun t ht => (List.mem_append.mp ht).elim (h3 t) fun z => (List.mem_singleton.mp z) ▸ hs, ?_⟩
        rw [List.map_append, List.sum_append, List.map_singleton, List.sum_singleton]
        omega
      · rw [if_neg e] at hy
        exact h.1 _ _ hy
    · obtain ⟨z, hz, hzy⟩ := h.2 v y hy
      rw [gt_put]
      by_cases e : s.other = v
      · rw [if_pos e]
        have := hlt z (by rw [e]; exact hz)
        exact ⟨x, rfl, by omega⟩
      · rw [if_neg e]
        exact ⟨z, hz, hzy⟩
theorem att_fold {W : St5 → Int} {ss : List St5} {I : List (Int × Int)} : ∀ (l : List St5) (b : BS), (∀ s ∈ l, s ∈ ss) → Att W ss I b.sm → Att W ss I (l.foldl (low1 W) b).sm
  | [], b, _, h => h
  | s :: l, b, hs, h => att_fold l _ (fun t ht => hs t (List.mem_cons_of_mem _ ht)) (att_low1 (hs s List.mem_cons_self) h)
theorem att_lowR {W : St5 → Int} {ss : List St5} {I : List (Int × Int)} {b : BS} (h : Att W ss I b.sm) : Att W ss I (lowR W ss b).sm := att_fold ss ⟨b.sm, b.cm, none⟩ (fun s hs => hs) h
theorem att_sor {W : St5 → Int} {ss : List St5} {I : List (Int × Int)} : ∀ (n : Nat) (b : BS), Att W ss I b.sm → Att W ss I (sor W ss n b).1
  | 0, b, h => h
  | n + 1, b, h => by
    show Att W ss I (match b.lt with
      | none => (b.sm, none)
      | some v => match rbk b.cm v with
        | some ws => (b.sm, some ws)
        | none => sor W ss n (lowR W ss b)).1
    cases b.lt with
    | none => exact h
    | some v =>
      show Att W ss I (match rbk b.cm v with
        | some ws => (b.sm, some ws)
        | none => sor W ss n (lowR W ss b)).1
      cases rbk b.cm v with
      | some ws => exact h
      | none => exact att_sor n _ (att_lowR h)
theorem att_sorT {W : St5 → Int} {ss : List St5} {I : List (Int × Int)} : Att W ss I (sorT W ss I).1 := by
  refine att_sor 64 _ (att_lowR ⟨fun v x hx => ⟨v, x, [], hx, rfl, (fun s hs => absurd hs (by simp)), by simp⟩, fun v y hy => ⟨y, hy, Int.le_refl _⟩⟩)
/-! ### walks that come into no place twice -/
structure Smp (ss : List St5) (i : Int) (L : List St5) (e : Int) : Prop where
  wk : Wlk5 i L e
  sub : ∀ s ∈ L, s ∈ ss
  nd : (i :: L.map (·.other)).Nodup
theorem walk_rch {ss : List St5} : ∀ (p : Int) (L : List St5) (e : Int), Wlk5 p L e → (∀ s ∈ L, s ∈ ss) → ∀ q, Rch (edg ss) [q] p → (∀ s ∈ L, Rch (edg ss) [q] s.one) ∧ Rch (edg ss) [q] e
  | p, [], e, h, _, q, hq => ⟨fun s hs => absurd hs (by simp), by have : p = e := h; rw [← this]; exact hq⟩
  | p, s :: L, e, h, hs, q, hq => by
    have h1 : s.one = p := h.1
    have hq' : Rch (edg ss) [q] s.other := .step hq (edg_mem.mpr ⟨s, hs s List.mem_cons_self, h1, rfl⟩)
    obtain ⟨k1, k2⟩ := walk_rch s.other L e h.2 (fun t ht => hs t (List.mem_cons_of_mem _ ht)) q hq'
    exact ⟨fun t ht => (List.mem_cons.mp ht).elim (fun z => by rw [z, h1]; exact hq) (k1 t), k2⟩
/-- each walk has one that comes into no place twice and weighs no more, if no ring weighs less than nothing -/
theorem smp_le {W : St5 → Int} {ss : List St5} {i : Int} (hr : ∀ R, RgFrom ss i R → 0 ≤ (R.map W).sum) : ∀ (n : Nat) (L : List St5) (e : Int), L.length = n → Wlk5 i L e → (∀ s ∈ L, s ∈ ss) → ∃ M, Smp ss i M e ∧ (M.map W).sum ≤ (L.map W).sum
  | 0, L, e, hl, hw, hs => by
    have : L = [] := List.eq_nil_of_length_eq_zero hl
    subst this
    exact ⟨[], ⟨hw, (fun s h => absurd h (by simp)), by simp⟩, Int.le_refl _⟩
  | n + 1, L, e, hl, hw, hs => by
    obtain ⟨L0, s, rfl⟩ : ∃ L0 s, L = L0 ++ [s] := by
      rcases List.eq_nil_or_concat L with h | ⟨L0, s, h⟩
      · rw [h] at hl
        cases hl
      · exact ⟨L0, s, by rw [h, List.concat_eq_append]⟩
    obtain ⟨b, h1, h2⟩ := (wlk5_app i L0 [s] e).mp hw
    have hb : s.one = b := h2.1
    have he : s.other = e := h2.2
    have hss : s ∈ ss := hs s (by simp)
    obtain ⟨M, hM, hle⟩ := smp_le hr n L0 b (by rw [List.length_append, List.length_singleton] at hl; omega) h1 fun t ht => hs t (List.mem_append_left _ ht)
    have sumE : ((L0 ++ [s]).map W).sum = (L0.map W).sum + W s := by rw [List.map_append, List.sum_append, List.map_singleton, List.sum_singleton]
    by_cases hin : s.other ∈ i :: M.map (·.other)
    · -- cut the ring
      obtain ⟨A, B, rfl, hA, hB⟩ : ∃ A B, M = A ++ B ∧ Wlk5 i A s.other ∧ Wlk5 s.other B b := by
        rcases List.mem_cons.mp hin with h | h
        · exact ⟨[], M, rfl, h.symm, by rw [h]; exact hM.wk⟩
        · obtain ⟨t, ht, e2⟩ := List.mem_map.mp h
          obtain ⟨A0, B, rfl⟩ := List.append_of_mem ht
          obtain ⟨c, k1, k2⟩ := (wlk5_app i A0 (t :: B) b).mp hM.wk
          refine ⟨A0 ++ [t], B, by simp, (wlk5_app i A0 [t] s.other).mpr ⟨c, k1, k2.1, e2⟩, by rw [← e2]; exact k2.2⟩
      have nd := hM.nd
      rw [List.map_append, ← List.cons_append] at nd
      have nd3 := List.nodup_append.mp nd
      have hmA : s.other ∈ i :: A.map (·.other) := by
        have : ∀ (p : Int) (L : List St5) (e : Int), Wlk5 p L e → e ∈ p :: L.map (·.other) := fun p L => by
          induction L generalizing p with
          | nil =>
            intro e h
            have : p = e := h
            rw [this]
            exact List.mem_cons_self
          | cons t L ih =>
            intro e h
            exact List.mem_cons_of_mem _ (ih t.other e h.2)
        exact this i A s.other hA
      have ring : RgFrom ss i (B ++ [s]) := by
        refine ⟨⟨by simp, fun t ht => (List.mem_append.mp ht).elim (fun z => hM.sub t (List.mem_append_right _ z)) fun z => (List.mem_singleton.mp z) ▸ hss, ⟨s.other, (wlk5_app _ B [s] _).mpr ⟨b, hB, hb, rfl⟩⟩, ?_⟩, fun t ht => ?_⟩
        · rw [List.map_append]
          refine List.nodup_append.mpr ⟨nd3.2.1, by simp, fun x hx y hy z => ?_⟩
          have hy' : y = s.other := by simpa using hy
          exact nd3.2.2 s.other hmA x hx (by rw [← hy', z])
        · have hAr := (walk_rch i A s.other hA (fun t ht => hM.sub t (List.mem_append_left _ ht)) i (.base (List.mem_singleton.mpr rfl))).2
          rcases List.mem_append.mp ht with ht | ht
          · exact (walk_rch s.other B b hB (fun t ht => hM.sub t (List.mem_append_right _ ht)) i hAr).1 t ht
          · have := (walk_rch s.other B b hB (fun t ht => hM.sub t (List.mem_append_right _ ht)) i hAr).2
            rw [List.mem_singleton.mp ht, hb]
            exact this
      have h0 := hr _ ring
      rw [List.map_append, List.sum_append, List.map_singleton, List.sum_singleton] at h0
      rw [List.map_append, List.sum_append] at hle
      refine ⟨A, ⟨by rw [← he]; exact hA, fun t ht => hM.sub t (List.mem_append_left _ ht), nd3.1⟩, ?_⟩
      rw [sumE]
      omega
    · refine ⟨M ++ [s], ⟨(wlk5_app i M [s] e).mpr ⟨b, hM.wk, hb, he⟩, fun t ht => (List.mem_append.mp ht).elim (hM.sub t) fun z => (List.mem_singleton.mp z) ▸ hss, ?_⟩, ?_⟩
      · rw [List.map_append, ← List.cons_append]
        refine List.nodup_append.mpr ⟨hM.nd, by simp, fun x hx y hy z => hin ?_⟩
        have hy' : y = s.other := by simpa using hy
        rw [← hy', ← z]
        exact hx
      · rw [sumE, List.map_append, List.sum_append, List.map_singleton, List.sum_singleton]
        omega
/-- what the sums are, if none is below 0 -/
theorem dist_ok {W : St5 → Int} {ss : List St5} {i : Int} {U : List Int} (h1 : i ∈ U) (h2 : ∀ s ∈ ss, s.other ∈ U) (hz : U.length ≤ 63) (hn : (sorT W ss [(i, 0)]).2 = none) (hr : ∀ R, RgFrom ss i R → 0 ≤ (R.map W).sum) :
    gt (sorT W ss [(i, 0)]).1 i = some 0 ∧ (∀ s ∈ ss, ∀ a, gt (sorT W ss [(i, 0)]).1 s.one = some a → ∃ c, gt (sorT W ss [(i, 0)]).1 s.other = some c ∧ c ≤ a + W s) ∧
    (∀ v x, gt (sorT W ss [(i, 0)]).1 v = some x → ∃ L, Smp ss i L v ∧ (L.map W).sum ≤ x) ∧ (∀ v, (gt (sorT W ss [(i, 0)]).1 v).isSome = true ↔ Rch (edg ss) [i] v) := by
  have hI : ∀ p y, gt [(i, (0 : Int))] p = some y → p = i ∧ y = 0 := fun p y h => by
    have h' : (if i = p then some (0 : Int) else none) = some y := h
    by_cases e : i = p
    · rw [if_pos e] at h'
      exact ⟨e.symm, (Option.some.inj h').symm⟩
    · rw [if_neg e] at h'
      cases h'
  have hI0 : gt [(i, (0 : Int))] i = some 0 := by
    show (if i = i then some (0 : Int) else none) = some 0
    rw [if_pos rfl]
  have so := sorT_ok (W := W) (ss := ss) (I := [(i, 0)]) (U := U) (by simp) (fun p hp => by
    have := gt_mem.mp hp
    have e : p = i := by simpa using this
    rw [e]
    exact h1) h2 hz (List.length_pos_of_mem h1)
  obtain ⟨a1, a2⟩ := att_sorT (W := W) (ss := ss) (I := [(i, 0)])
  obtain ⟨b1, b2, b3⟩ := so.sums hn
  have wal : ∀ v x, gt (sorT W ss [(i, 0)]).1 v = some x → ∃ L, Smp ss i L v ∧ (L.map W).sum ≤ x := fun v x hx => by
    obtain ⟨p, y, L, k1, k2, k3, k4⟩ := a1 v x hx
    obtain ⟨rfl, rfl⟩ := hI p y k1
    obtain ⟨M, m1, m2⟩ := smp_le hr L.length L v rfl k2 k3
    exact ⟨M, m1, by omega⟩
  refine ⟨?_, b3, wal, fun v => ⟨fun h => ?_, fun h => feas_rch b3 (p := i) (by obtain ⟨x, hx, _⟩ := a2 i 0 hI0; rw [hx]; rfl) h⟩⟩
  · obtain ⟨x, hx, hle⟩ := a2 i 0 hI0
    obtain ⟨L, m1, m2⟩ := wal i x hx
    have : L = [] := by
      cases L with
      | nil => rfl
      | cons s L =>
        exfalso
        have mem : ∀ (p : Int) (L : List St5) (e : Int), Wlk5 p L e → e ∈ p :: L.map (·.other) := fun p L => by
          induction L generalizing p with
          | nil =>
            intro e h
            have : p = e := h
            rw [this]
            exact List.mem_cons_self
          | cons t L ih =>
            intro e h
            exact List.mem_cons_of_mem _ (ih t.other e h.2)
        exact (List.nodup_cons.mp m1.nd).1 (mem s.other L i m1.wk.2)
    rw [this] at m2
    have m2' : (0 : Int) ≤ x := m2
    rw [hx]
    congr 1
    omega
  · obtain ⟨p, hp, hpr⟩ := b1 v h
    have := gt_mem.mp hp
    have e : p = i := by simpa using this
    rw [e] at hpr
    exact hpr
end AA

set_option Elab.async false
set_option linter.all false
set_option maxRecDepth 100000
set_option maxHeartbeats 4000000
/-! The law's _law_simple: all walks that come into no place twice. -/
namespace AA
open PySem PySem.Spec PyProof.Rows L2 Evl
theorem wlk_ends : ∀ (a : Int) (L : List St5) (e : Int), Wlk5 a L e → a :: L.map (·.other) = L.map (·.one) ++ [e]
  | a, [], e, h => by
    have : a = e := h
    rw [this]
    rfl
  | a, s :: L, e, h => by
    have := wlk_ends s.other L e h.2
    rw [List.map_cons, List.map_cons, List.cons_append, ← this, h.1]
structure SWy (ss : List St5) (f : Int) (w : List St5) (t : St5) : Prop where
  last : w.getLast? = some t
  sub : ∀ s ∈ w, s ∈ ss
  wk : Wlk5 f w t.other
  nd : (f :: w.map (·.other)).Nodup
theorem SWy.met {ss w : List St5} {f : Int} {t : St5} (h : SWy ss f w t) : f :: w.map (·.other) = metL w t := wlk_ends f w t.other h.wk
theorem SWy.off {ss w : List St5} {f : Int} {t : St5} (h : SWy ss f w t) : t.other ∉ w.map (·.one) := fun z => by
  have nd := h.nd
  rw [h.met] at nd
  exact (List.nodup_append.mp nd).2.2 _ z t.other (by simp) rfl
theorem SWy.ok {c f : Int} {ss w : List St5} {t : St5} (h : SWy ss f w t) (hc : c ≤ 6) (hok : ∀ s ∈ ss, StOk c s) : RgOk ss w := by
  refine ⟨?_, h.sub⟩
  have nd := h.nd
  rw [h.met] at nd
  have := six_len (List.nodup_append.mp nd).1 fun x hx => by
    obtain ⟨s, hs, rfl⟩ := List.mem_map.mp hx
    have o := hok s (h.sub s hs)
    exact ⟨o.o0, by have := o.o1; omega⟩
  rw [List.length_map] at this
  exact this
theorem SWy.smp {ss w : List St5} {f : Int} {t : St5} (h : SWy ss f w t) : Smp ss f w t.other := ⟨h.wk, h.sub, h.nd⟩
theorem SWy.more {f : Int} {ss w : List St5} {t s : St5} (h : SWy ss f w t) (hs : s ∈ ss) (e : s.one = t.other) (hn : s.other ∉ metL w t) : SWy ss f (w ++ [s]) s := by
  refine ⟨by rw [List.getLast?_append]; rfl, fun x hx => (List.mem_append.mp hx).elim (h.sub x) (fun z => (List.mem_singleton.mp z) ▸ hs), (wlk5_app f w [s] s.other).mpr ⟨t.other, h.wk, e, rfl⟩, ?_⟩
  rw [List.map_append, ← List.cons_append]
  refine List.nodup_append.mpr ⟨h.nd, by simp, fun x hx y hy z => hn ?_⟩
  have hy' : y = s.other := by simpa using hy
  rw [← h.met, ← hy', ← z]
  exact hx
/-- what is found, and what waits for the rest -/
def Cs (ss : List St5) (f : Int) (found ways : List (List St5)) : Prop := [] ∈ found ∧ ∀ R e, Smp ss f R e → R ≠ [] → R ∈ found ∨ ∃ w ∈ ways, w ≠ [] ∧ w <+: R
theorem Cs.on {ss : List St5} {f : Int} {found us news : List (List St5)} {u : List St5} {t : St5} (h : Cs ss f found (us ++ [u])) (hu : SWy ss f u t) (hn : ∀ s ∈ ss, s.one = t.other → s.other ∉ metL u t → u ++ [s] ∈ news) : Cs ss f (found ++ [u]) (us ++ news) := by
  refine ⟨List.mem_append_left _ h.1, fun R e hR hne => ?_⟩
  rcases h.2 R e hR hne with z | ⟨w, z, wne, p⟩
  · exact .inl (List.mem_append_left _ z)
  · rcases List.mem_append.mp z with z | z
    · exact .inr ⟨w, List.mem_append_left _ z, wne, p⟩
    · rw [List.mem_singleton.mp z] at p
      obtain ⟨v, rfl⟩ := p
      cases v with
      | nil => exact .inl (by simp)
      | cons s v =>
        obtain ⟨m, k1, k2⟩ := (wlk5_app f u (s :: v) e).mp hR.wk
        have hm : m = t.other := by
          have a1 := wlk_ends f u m k1
          rw [hu.met] at a1
          have := (List.append_inj' a1 rfl).2
          simpa using this.symm
        have so : s.one = t.other := by rw [← hm]; exact k2.1
        have nd := hR.nd
        rw [List.map_append, ← List.cons_append] at nd
        have hs2 : s.other ∉ metL u t := fun z => by
          rw [← hu.met] at z
          exact (List.nodup_append.mp nd).2.2 _ z s.other (by simp) rfl
        exact .inr ⟨u ++ [s], List.mem_append_right _ (hn s (hR.sub s (by simp)) so hs2), by simp, ⟨v, by simp⟩⟩
theorem Cs.begin {ss : List St5} {f : Int} {ways : List (List St5)} (h : ∀ s ∈ ss, s.one = f → s.other ≠ f → [s] ∈ ways) : Cs ss f [[]] ways := by
  refine ⟨by simp, fun R e hR hne => ?_⟩
  cases R with
  | nil => exact absurd rfl hne
  | cons s R =>
    have nd := (List.nodup_cons.mp hR.nd).1
    exact .inr ⟨[s], h s (hR.sub s (by simp)) hR.wk.1 (fun z => nd (by rw [← z]; simp)), by simp, ⟨R, rfl⟩⟩
def SFok (ss : List St5) (f : Int) (w : List St5) : Prop := RgOk ss w ∧ ∃ e, Smp ss f w e
section
variable {P : Program} {w : World} {K : PySem.W.Frag} {mg : Str → Option Value} {base : Heap}
def spLSim (K : PySem.W.Frag) : Sp := fun vs H Q _ => ∃ (g : Addr) (bg : Int) (us : List V) (ss : List St5) (c : Int), vs = [.ref g, .int bg] ∧ SqL K H g us ∧ DpAll K H us (ss.map stD) ∧ c ≤ 6 ∧ (∀ s ∈ ss, StOk c s) ∧ ss.length ≤ 14 ∧
  ∀ (H' : Hp) (F : Addr) (os : List V) (ws : List (List St5)), Ex H H' → H F = none → H' F = some (.lst os) → WyL K H [F] H' os ws → (∀ w ∈ ws, SFok ss bg w) → (∀ w e, Smp ss bg w e → w ∈ ws) → ws.length ≤ 900000 → Q (.ref F) H'
abbrev nmSi : List Str := ["_law_steps", "_law_begin", "_law_found", "_law_ways", "_law_way", "_law_met", "_law_step_here"]
theorem scSi : FnScope nmSi ["_law_steps", "_law_begin"] (defScope sLSimple) := ⟨rfl, rfl, rfl, by decide +kernel, rfl, by decide +kernel, by decide +kernel⟩
theorem ok_lsim {f : Addr} {fd : FuncData} (F : L2.Fun K "_law_simple" "_law_simple" sLSimple f fd) (B : Bn mg) : FnOk P w K mg base CX0 1 f fd ["_law_steps", "_law_begin"] (spLSim K) := by
  refine F.ok scSi (fun vs H Q E h => ?_) (fun cdv A outer s H vs Q E hr h => ?_)
  · obtain ⟨g, bg, us, ss, c, rfl, _⟩ := h
    rfl
  · obtain ⟨g, bg, us, ss, c, rfl, hg, hD, hc6, hok, hsz, k⟩ := h
    refine ⟨_, pss_cons (ps_par (i := 2) (j := 3) (by rfl) scSi.nd rfl rfl (by decide) rfl rfl (pa_cons (pe_lst (pa_cons (pe_lst pa_nil) pa_nil)) (pa_cons (pe_lc (own := [("_law_step_here", 6)]) (g := gName 6) (by rfl) scSi.nd (pi_list (pv 0)) (blkOk_by (N := nmSi) (sc := defScope sLSimple) (by decide +kernel)) (fun _ _ _ _ _ => pg_name (i := 6) scSi.nd rfl (Or.inl rfl))
            (fun _ _ _ _ _ => pts_one (PW.pt (pw_and (pt_cmpR op_eq (pe_ix (r := rIxT K) ix_tup (pv 6) pe_int (fun _ _ => rfl)) (pv 1) (nomark _)) (pw_and1 (pt_cmpR op_ne (pe_ix (r := rIxT K) ix_tup (pv 6) pe_int (fun _ _ => rfl)) (pv 1) (nomark _))))))
            (fun _ _ _ _ _ => pe_lst (pa_cons (pv 6) pa_nil))) pa_nil)) (by rfl))
      (Evl.pss_cut (ps_while PassesOwn.never (pt_cmpR (op_neD hr.units) (pv 3) (pe_lst pa_nil) (nomark _))
          (pss_cons (ps_set (i := 4) scSi.nd rfl (Or.inr rfl) (pe_bm0 PySem.F.plainAttrs_list PySem.F.slot_list_pop PySem.F.type_list_pop mt_pop (pv 3)))
          (pss_cons (ps_expr (pe_bm PySem.F.plainAttrs_list PySem.F.slot_list_append PySem.F.type_list_append mt_append (pv 2) (pa_cons (pv 4) pa_nil)))
          (pss_cons (ps_set (i := 5) scSi.nd rfl (Or.inr rfl) (pe_op op_cat (pe_lc (own := [("_law_step_here", 6)]) (g := gName 6) (tt := tYes) (by rfl) scSi.nd (pi_list (pv 4)) (blkOk_by (N := nmSi) (sc := defScope sLSimple) (by decide +kernel))
                (fun _ _ _ _ _ => pg_name (i := 6) scSi.nd rfl (Or.inl rfl)) (fun _ _ _ _ _ => pts_nil) (fun _ _ _ _ _ => pe_ix (r := rIxT K) ix_tup (pv 6) pe_int (fun _ _ => rfl)))
                (pe_lst (pa_cons (pe_ix (r := rIxT K) ix_tup (pe_ix (r := rIxL K) ix_list (pv 4) (pe_un un_neg pe_int) (fun _ _ => rfl)) pe_int (fun _ _ => rfl)) pa_nil))))
          (pss_one (ps_expr (pe_bm PySem.F.plainAttrs_list PySem.F.slot_list_extend PySem.F.type_list_extend mt_extend (pv 3) (pa_cons (pe_lc (own := [("_law_step_here", 6)]) (g := gName 6) (by rfl) scSi.nd (pi_list (pv 0)) (blkOk_by (N := nmSi) (sc := defScope sLSimple) (by decide +kernel))
                (fun _ _ _ _ _ => pg_name (i := 6) scSi.nd rfl (Or.inl rfl)) (fun _ _ _ _ _ => pts_one (PW.pt (pw_and (pt_cmpR op_eq (pe_ix (r := rIxT K) ix_tup (pv 6) pe_int (fun _ _ => rfl)) (pe_ix (r := rIxT K) ix_tup (pe_ix (r := rIxL K) ix_list (pv 4) (pe_un un_neg pe_int) (fun _ _ => rfl)) pe_int (fun _ _ => rfl)) (nomark _))
                  (pw_and1 (pt_cmpR (r := rNotInD K) (op_notInD (Room.u65 hr)) (pe_ix (r := rIxT K) ix_tup (pv 6) pe_int (fun _ _ => rfl)) (pv 5) (by rfl))))))
                (fun _ _ _ _ _ => pe_op op_cat (pv 4) (pe_lst (pa_cons (pv 6) pa_nil)))) pa_nil))))))))
      (pss_one (ps_ret (pv 2)))), ?_⟩
    have ixs : ∀ {G : Hp} {b : Addr} {s : St5}, Dp K G (.ref b) (stD s) → ∃ u, SqT K G b [.int s.one, .int s.other, .ref u, .int s.ticks, .int s.change] := fun h => by
      obtain ⟨t, u, e, h1, _⟩ := stD_inv h
      cases e
      exact ⟨u, h1⟩
    have hul := sts_len hD
    -- the empty walk
    refine ⟨Nat.zero_le _, fun q0 hq0 => ?_⟩
    have y0 := Ex.new (o := .lst []) hq0
    have f0 : upd H q0 (.lst []) q0 = some (.lst []) := upd_same
    generalize upd H q0 (.lst []) = G0 at y0 f0 ⊢
    refine ⟨by show 1 ≤ sizeLine; decide, fun Fo hFo => ?_⟩
    have y1 := Ex.new (o := .lst [V.ref q0]) hFo
    have f1 : upd G0 Fo (.lst [V.ref q0]) Fo = some (.lst [V.ref q0]) := upd_same
    have q0F : q0 ≠ Fo := ne_of_none f0 hFo
    have q01 : upd G0 Fo (.lst [V.ref q0]) q0 = some (.lst []) := y1 _ _ f0
    generalize upd G0 Fo (.lst [V.ref q0]) = G1 at y1 f1 q01 ⊢
    have e1 := y0.trans y1
    have hFoH : H Fo = none := fresh_back y0 hFo
    -- the walks of one step
    refine ⟨_, rfl, g, rfl, ⟨us, ex_l e1 hg⟩, fun W hW0 => ?_⟩
    have WF : Fo ≠ W := ne_of_none f1 hW0
    have hWH : H W = none := fresh_back e1 hW0
    refine lc_list (xs := us) (fun i G => Ex G1 G ∧ ∃ qs ways, G W = some (.lst qs) ∧ WyL K H [Fo, W] G qs ways ∧ (∀ w ∈ ways, ∃ t, w = [] ++ [t] ∧ t.one = bg ∧ SWy ss bg w t) ∧ ways.length ≤ deg (ss.take i) bg ∧ ∀ s ∈ ss.take i, s.one = bg → s.other ≠ bg → [s] ∈ ways) ⟨Ex.new hW0, [], [], upd_same, .nil, (fun w hw => absurd hw (by simp)), Nat.zero_le _, fun s h => absurd h (by simp)⟩ (fun i G _ q => ex_l (e1.trans q.1) hg) ?_ ?_
    · rintro i x G hx ⟨q1, qs, ways, q2, q3, q4, q5, q6⟩
      obtain ⟨s, b, hs, rfl, hb⟩ := sts_get hD hx
      have eG := e1.trans q1
      obtain ⟨u, p1⟩ := ixs (dp_ex eG _ _ hb)
      have tk : ss.take (i + 1) = ss.take i ++ [s] := by rw [List.take_add_one, hs]; rfl
      have dg : deg (ss.take (i + 1)) bg = deg (ss.take i) bg + (if s.one = bg then 1 else 0) := by
        unfold deg
        rw [tk, List.filter_append, List.length_append]
        by_cases z : s.one = bg
        · rw [if_pos z, List.filter_cons_of_pos (by simpa using z)]
          rfl
        · rw [if_neg z, List.filter_cons_of_neg (by simpa using z)]
          rfl
      have skip : (¬ (s.one = bg ∧ s.other ≠ bg)) → Ex G1 G ∧ ∃ qs ways, G W = some (.lst qs) ∧ WyL K H [Fo, W] G qs ways ∧ (∀ w ∈ ways, ∃ t, w = [] ++ [t] ∧ t.one = bg ∧ SWy ss bg w t) ∧ ways.length ≤ deg (ss.take (i + 1)) bg ∧ ∀ s ∈ ss.take (i + 1), s.one = bg → s.other ≠ bg → [s] ∈ ways := fun hn => ⟨q1, qs, ways, q2, q3, q4, by omega, fun z hz z1 z2 => by
        rw [tk] at hz
        rcases List.mem_append.mp hz with hz | hz
        · exact q6 z hz z1 z2
        · rw [List.mem_singleton.mp hz] at z1 z2
          exact absurd ⟨z1, z2⟩ hn⟩
      refine ⟨rfl, _, rfl, b, _, 0, .int s.one, rfl, rfl, p1, rfl, _, rfl, rfl, _, rfl, ?_⟩
      rw [dec_int]
      by_cases h1 : s.one = bg
      case neg =>
        rw [decide_eq_false h1]
        exact iteF (skip fun z => h1 z.1)
      rw [decide_eq_true h1]
      refine iteT ?_
      rw [if_pos h1] at dg
      refine ⟨_, rfl, b, _, 1, .int s.other, rfl, rfl, p1, rfl, _, rfl, rfl, _, rfl, ?_⟩
      rw [dec_int]
      by_cases h2 : s.other = bg
      · rw [decide_eq_true h2]
        exact iteF (skip fun z => z.2 h2)
      rw [decide_eq_false h2]
      refine iteT ?_
      refine ⟨_, rfl, by show 1 ≤ sizeLine; decide, fun q hq => ?_⟩
      have qD : q ≠ W := (ne_of_none q2 hq).symm
      have qF : q ≠ Fo := (ne_of_none (q1 _ _ f1) hq).symm
      have yq := Ex.new (o := .lst [V.ref b]) hq
      have hdl : deg (ss.take i) bg ≤ 14 := by
        have h1 := deg_take (ss := ss) (p := bg) i
        have h2 := deg_le (ss := ss) (p := bg)
        omega
      refine ⟨qs, yq _ _ q2, ?_, (q1.trans yq).mut hW0, qs ++ [.ref q], ways ++ [[s]], upd_same, ?_, fun w hw => ?_, by rw [List.length_append, List.length_singleton]; omega, fun z hz z1 z2 => by
        rw [tk] at hz
        rcases List.mem_append.mp hz with hz | hz
        · exact List.mem_append_left _ (q6 z hz z1 z2)
        · rw [List.mem_singleton.mp hz]
          exact List.mem_append_right _ (List.mem_singleton.mpr rfl)⟩
      · rw [q3.len]
        exact sz_m (by omega)
      · refine WyL.app (WyL.go (fun z o hz hz2 => ?_) q3) (.cons ⟨q, [.ref b], rfl, fresh_back eG hq, by simp [qD, qF], ?_, .cons hb .nil⟩ .nil)
        · have : z ≠ W := fun e => hz (by rw [e]; simp)
          rw [upd_ne this]
          exact yq _ _ hz2
        · rw [upd_ne qD]
          exact upd_same
      · rcases List.mem_append.mp hw with hw | hw
        · exact q4 w hw
        · obtain rfl := List.mem_singleton.mp hw
          refine ⟨s, rfl, h1, ⟨rfl, fun x hx => (List.mem_singleton.mp hx) ▸ mem_of_get hs, ⟨h1, rfl⟩, ?_⟩⟩
          simp only [List.map_cons, List.map_nil, List.nodup_cons, List.mem_cons, List.not_mem_nil, or_false, not_false_eq_true, true_and]
          exact ⟨fun z => h2 z.symm, List.nodup_nil⟩
    rintro G2 ⟨q1, qs0, ways0, q2, q3, q4, q5, q6⟩
    rw [hul, List.take_length] at q5 q6
    have hmz0 : mzS ss ways0 ≤ 16384 := by
      have h1 : mzS ss ways0 < mzR ss [] := mzS_lt (p := bg) (by simp) (fun w hw => (q4 w hw).imp fun t h => ⟨h.1, h.2.1⟩) q5
      have h2 : mzR ss [] ≤ 16384 := by
        unfold mzR
        rw [rest_nil]
        exact Nat.pow_le_pow_right (by decide) hsz
      omega
    refine ⟨_, _, rfl, ?_⟩
    -- what stands beside the list of what is found
    have q0H : H q0 = none := hq0
    have q0W : q0 ≠ W := ne_of_none q01 hW0
    have hf2 : WyL K H [Fo, W] G2 [V.ref q0] [[]] := .cons ⟨q0, [], rfl, q0H, by simp [q0F, q0W], q1 _ _ q01, .nil⟩ .nil
    have hFo2 := q1 _ _ f1
    have e2 := e1.trans q1
    refine ⟨fun σ G => ∃ (x4 x5 : Option V) (fs : List V) (found : List (List St5)), σ = [some (.ref g), some (.int bg), some (.ref Fo), some (.ref W), x4, x5, none] ∧ Ex H G ∧ G Fo = some (.lst fs) ∧ WyL K H [Fo] G fs found ∧ (∀ w ∈ found, SFok ss bg w) ∧ found.length ≤ 900000 ∧ (∀ R e, Smp ss bg R e → R ∈ found), ?_, ?_⟩
    case refine_2 =>
      rintro σ G ⟨x4, x5, fs, found, rfl, r1, r2, r3, r4, r5, r6⟩
      exact ⟨_, rfl, k G Fo fs found r1 hFoH r2 r3 r4 r6 r5⟩
    refine ⟨fun mm σ G => ∃ (x4 x5 : Option V) (fs qs : List V) (found ways : List (List St5)), σ = [some (.ref g), some (.int bg), some (.ref Fo), some (.ref W), x4, x5, none] ∧ mzS ss ways = mm ∧ Ex H G ∧ G Fo = some (.lst fs) ∧ G W = some (.lst qs) ∧ WyL K H [Fo, W] G fs found ∧ WyL K H [Fo, W] G qs ways ∧ (∀ w ∈ found, SFok ss bg w) ∧ (∀ w ∈ ways, ∃ t, SWy ss bg w t) ∧ mzS ss ways + found.length ≤ 16385 ∧ Cs ss bg found ways,
      ⟨mzS ss ways0, _, _, [V.ref q0], qs0, [[]], ways0, rfl, rfl, e2, hFo2, q2, hf2, q3, (fun w hw => by rw [List.mem_singleton.mp hw]; exact ⟨⟨Nat.zero_le _, fun s h => absurd h (by simp)⟩, bg, ⟨rfl, (fun s h => absurd h (by simp)), by simp⟩⟩), (fun w hw => (q4 w hw).imp fun t h => h.2.2), by show mzS ss ways0 + 1 ≤ 16385; omega, Cs.begin q6⟩, ?_⟩
    rintro mm σ G ⟨x4, x5, fs, qs, found, ways, rfl, rfl, e3, hF, hQ, hf, hw, hfo, hwo, hmz, hcv⟩
    refine ⟨_, rfl, Nat.zero_le _, fun l hl => ?_⟩
    have yl := Ex.new (o := .lst []) hl
    have fl : upd G l (.lst []) l = some (.lst []) := upd_same
    generalize upd G l (.lst []) = G3 at yl fl ⊢
    have keep1 : ∀ {os ws}, WyL K H [Fo, W] G os ws → WyL K H [Fo, W] G3 os ws := fun h => WyL.go (fun z o _ hz => yl _ _ hz) h
    have e4 := e3.trans yl
    refine ⟨.list (ways.map wkD), .list [], .lst (SqL.of (yl _ _ hQ)) (WyL.dpa e4 (keep1 hw)), .lst (SqL.of fl) .nil, wkDs_shaped _, rfl, _, rfl, ?_⟩
    rw [eqv_wks_nil]
    have hF1 := yl _ _ hF
    have hQ1 := yl _ _ hQ
    have hf1 := keep1 hf
    have hw1 := keep1 hw
    have hml := mzS_len ss ways
    cases hwz : ways with
    | nil =>
      refine iteF ⟨_, _, fs, found, rfl, e4, hF1, WyL.sub (by simp) hf1, hfo, by omega, fun R e hR => ?_⟩
      by_cases hne : R = []
      · rw [hne]
        exact hcv.1
      · rcases hcv.2 R e hR hne with z | ⟨w, z, _⟩
        · exact z
        · rw [hwz] at z
          exact absurd z (by simp)
    | cons w0 wr =>
      refine iteT ?_
      obtain ⟨ps, p, us', u, rfl, ew, hps, hp⟩ := hw1.snoc (by rw [hwz]; simp)
      rw [← hwz, ew]
      rw [ew] at hwo hmz hcv
      obtain ⟨t, hwt⟩ := hwo u (by simp)
      have hwo' : ∀ w ∈ us', ∃ t, SWy ss bg w t := fun w hw => hwo w (by simp [hw])
      have hmzE : mzS ss (us' ++ [u]) = mzS ss us' + mzR ss u := mzS_app ss us' [u]
      rw [hmzE] at hmz
      refine ⟨fun σ G => ∃ (x4 x5 : Option V) (fs qs : List V) (found ways : List (List St5)), σ = [some (.ref g), some (.int bg), some (.ref Fo), some (.ref W), x4, x5, none] ∧ mzS ss ways < mzS ss (us' ++ [u]) ∧ Ex H G ∧ G Fo = some (.lst fs) ∧ G W = some (.lst qs) ∧ WyL K H [Fo, W] G fs found ∧ WyL K H [Fo, W] G qs ways ∧ (∀ w ∈ found, SFok ss bg w) ∧ (∀ w ∈ ways, ∃ t, SWy ss bg w t) ∧ mzS ss ways + found.length ≤ 16385 ∧ Cs ss bg found ways, ?_, ?_⟩
      · rintro σ' G' ⟨x4, x5, fs, qs, found, ways, e, lt, r⟩
        exact ⟨mzS ss ways, lt, x4, x5, fs, qs, found, ways, e, rfl, r⟩
      -- pop
      refine ⟨_, rfl, .inl ⟨rfl, _, SqL.of hQ1⟩, W, _, p, rfl, rfl, hQ1, by simp, ?_⟩
      rw [List.dropLast_concat]
      obtain ⟨q, xs, rfl, hq0', hqX, hq, hqd⟩ := hp
      have qF : q ≠ Fo := fun e => hqX (by rw [e]; simp)
      have qW : q ≠ W := fun e => hqX (by rw [e]; simp)
      have e5 : Ex H (upd G3 W (.lst ps)) := e4.mut hWH
      have hF2 : upd G3 W (.lst ps) Fo = some (.lst fs) := by rw [upd_ne WF]; exact hF1
      have hW2 : upd G3 W (.lst ps) W = some (.lst ps) := upd_same
      have keep2 : ∀ {os ws}, WyL K H [Fo, W] G3 os ws → WyL K H [Fo, W] (upd G3 W (.lst ps)) os ws := fun h => WyL.go (fun z o hz hz2 => by
        have : z ≠ W := fun e => hz (by rw [e]; simp)
        rw [upd_ne this]
        exact hz2) h
      have hf4 := keep2 hf1
      have hw4 := keep2 hps
      have hq2 : upd G3 W (.lst ps) q = some (.lst xs) := by rw [upd_ne qW]; exact hq
      generalize upd G3 W (.lst ps) = G4 at e5 hF2 hW2 hf4 hw4 hq2 ⊢
      have hrg := hwt.ok hc6 hok
      have ul := hrg.len
      have hml' := mzS_len ss us'
      have hmr := mzR_pos ss u
      -- found
      refine ⟨_, rfl, .inl ⟨rfl, _, SqL.of hF2⟩, _, rfl, Fo, fs, _, rfl, rfl, hF2, ?_, ?_⟩
      · rw [hf4.len]
        exact sz_m (by omega)
      have WF' : W ≠ Fo := WF.symm
      have kp : ∀ {os ws}, WyL K H [Fo, W] G4 os ws → WyL K H [Fo, W] (upd G4 Fo (.lst (fs ++ [.ref q]))) os ws := fun h => WyL.go (fun z o hz hz2 => by
        have : z ≠ Fo := fun e => hz (by rw [e]; simp)
        rw [upd_ne this]
        exact hz2) h
      have hq3 : upd G4 Fo (.lst (fs ++ [.ref q])) q = some (.lst xs) := by rw [upd_ne qF]; exact hq2
      have hf5 : WyL K H [Fo, W] (upd G4 Fo (.lst (fs ++ [.ref q]))) (fs ++ [.ref q]) (found ++ [u]) := WyL.app (kp hf4) (.cons ⟨q, xs, rfl, hq0', hqX, hq3, hqd⟩ .nil)
      have hw5 := kp hw4
      have e6 : Ex H (upd G4 Fo (.lst (fs ++ [.ref q]))) := e5.mut hFoH
      have hF3 : upd G4 Fo (.lst (fs ++ [.ref q])) Fo = some (.lst (fs ++ [.ref q])) := upd_same
      have hW3 : upd G4 Fo (.lst (fs ++ [.ref q])) W = some (.lst ps) := by rw [upd_ne WF']; exact hW2
      generalize upd G4 Fo (.lst (fs ++ [.ref q])) = G5 at hq3 hf5 hw5 e6 hF3 hW3 ⊢
      have hfo5 : ∀ w ∈ found ++ [u], SFok ss bg w := fun w hw => by
        rcases List.mem_append.mp hw with hw | hw
        · exact hfo w hw
        · obtain rfl := List.mem_singleton.mp hw
          exact ⟨hrg, t.other, hwt.smp⟩
      obtain ⟨tb, htb, htD⟩ := last_at hqd hwt.last
      have lastI : ∀ {G : Hp}, Ex G5 G → ∃ u', SqT K G tb [.int t.one, .int t.other, .ref u', .int t.ticks, .int t.change] := fun e => ixs (dp_ex (e6.trans e) _ _ htD)
      -- met
      refine ⟨_, rfl, q, rfl, ⟨_, SqL.of hq3⟩, fun D hD0 => ?_⟩
      refine lc_list (xs := xs) (fun i G => Ex G5 G ∧ G D = some (.lst (((u.take i).map (·.one)).map V.int))) ⟨Ex.new hD0, upd_same⟩ (fun i G _ q' => SqL.of (q'.1 _ _ hq3)) ?_ ?_
      · rintro i x G hx ⟨q1, q2⟩
        obtain ⟨s, b, hs, rfl, hb⟩ := sts_get hqd hx
        have il := (List.getElem?_eq_some_iff.mp hs).1
        obtain ⟨_, p1⟩ := ixs (dp_ex (e6.trans q1) _ _ hb)
        refine ⟨rfl, _, rfl, b, _, 0, .int s.one, rfl, rfl, p1, rfl, _, q2, ?_, q1.mut hD0, ?_⟩
        · rw [List.length_map, List.length_map, List.length_take]
          exact sz_m (by omega)
        · rw [upd_same, List.take_add_one, hs, List.map_append, List.map_append]
          rfl
      rintro G6 ⟨y6, hD6⟩
      rw [sts_len hqd, List.take_length] at hD6
      obtain ⟨_, htu6⟩ := lastI y6
      refine ⟨_, rfl, _, rfl, q, _, (-1 : Int), _, rfl, rfl, SqL.of (y6 _ _ hq3), htb, tb, _, 1, .int t.other, rfl, rfl, htu6, rfl, by show 1 ≤ sizeLine; decide, fun l1 hl1 => ?_⟩
      have y7 := Ex.new (o := .lst [V.int t.other]) hl1
      have f7 : upd G6 l1 (.lst [V.int t.other]) l1 = some (.lst [V.int t.other]) := upd_same
      generalize upd G6 l1 (.lst [V.int t.other]) = G7 at y7 f7 ⊢
      refine ⟨D, l1, _, _, rfl, rfl, y7 _ _ hD6, f7, sz_le (by rw [List.length_map, List.length_map]; show _ + 1 ≤ _; omega), fun M hM => ?_⟩
      have em : (u.map (·.one)).map V.int ++ [V.int t.other] = (metL u t).map V.int := by
        unfold metL
        rw [List.map_append]
        rfl
      rw [em]
      have y8 := Ex.new (o := .lst ((metL u t).map V.int)) hM
      have f8 : upd G7 M (.lst ((metL u t).map V.int)) M = some (.lst ((metL u t).map V.int)) := upd_same
      generalize upd G7 M (.lst ((metL u t).map V.int)) = G8 at y8 f8 ⊢
      have y58 := y6.trans (y7.trans y8)
      have e8 := e6.trans y58
      -- what goes on
      refine ⟨_, rfl, .inl ⟨rfl, _, SqL.of (y58 _ _ hW3)⟩, _, rfl, g, rfl, ⟨us, ex_l e8 hg⟩, fun D3 hD3 => ?_⟩
      have D3F : D3 ≠ Fo := (ne_of_none (y58 _ _ hF3) hD3).symm
      have D3W : D3 ≠ W := (ne_of_none (y58 _ _ hW3) hD3).symm
      refine lc_list (xs := us) (fun i G => Ex G8 G ∧ ∃ acc news, G D3 = some (.lst acc) ∧ WyL K H [Fo, W, D3] G acc news ∧ (∀ w ∈ news, ∃ s, w = u ++ [s] ∧ s.one = t.other ∧ SWy ss bg w s) ∧ news.length ≤ deg (ss.take i) t.other ∧ ∀ s ∈ ss.take i, s.one = t.other → s.other ∉ metL u t → u ++ [s] ∈ news) ⟨Ex.new hD3, [], [], upd_same, .nil, (fun w hw => absurd hw (by simp)), Nat.zero_le _, fun s h => absurd h (by simp)⟩ (fun i G _ q' => ex_l (e8.trans q'.1) hg) ?_ ?_
      · rintro i x G hx ⟨q1, acc, news, q2, q3, q4, q5, q6⟩
        obtain ⟨s, b, hs, rfl, hb⟩ := sts_get hD hx
        have il := (List.getElem?_eq_some_iff.mp hs).1
        have eG := e8.trans q1
        obtain ⟨_, p1⟩ := ixs (dp_ex eG _ _ hb)
        obtain ⟨_, htuG⟩ := lastI (y58.trans q1)
        have hqG := (y58.trans q1) _ _ hq3
        have tk : ss.take (i + 1) = ss.take i ++ [s] := by rw [List.take_add_one, hs]; rfl
        have dg : deg (ss.take (i + 1)) t.other = deg (ss.take i) t.other + (if s.one = t.other then 1 else 0) := by
          unfold deg
          rw [tk, List.filter_append, List.length_append]
          by_cases z : s.one = t.other
          · rw [if_pos z, List.filter_cons_of_pos (by simpa using z)]
            rfl
          · rw [if_neg z, List.filter_cons_of_neg (by simpa using z)]
            rfl
        have skip : (¬ (s.one = t.other ∧ s.other ∉ metL u t)) → Ex G8 G ∧ ∃ acc news, G D3 = some (.lst acc) ∧ WyL K H [Fo, W, D3] G acc news ∧ (∀ w ∈ news, ∃ s, w = u ++ [s] ∧ s.one = t.other ∧ SWy ss bg w s) ∧ news.length ≤ deg (ss.take (i + 1)) t.other ∧ ∀ s ∈ ss.take (i + 1), s.one = t.other → s.other ∉ metL u t → u ++ [s] ∈ news := fun hn => ⟨q1, acc, news, q2, q3, q4, by omega, fun z hz z1 z2 => by
          rw [tk] at hz
          rcases List.mem_append.mp hz with hz | hz
          · exact q6 z hz z1 z2
          · rw [List.mem_singleton.mp hz] at z1 z2
            exact absurd ⟨z1, z2⟩ hn⟩
        refine ⟨rfl, _, rfl, b, _, 0, .int s.one, rfl, rfl, p1, rfl, _, rfl, _, rfl, q, _, (-1 : Int), _, rfl, rfl, SqL.of hqG, htb, tb, _, 1, .int t.other, rfl, rfl, htuG, rfl, rfl, _, rfl, ?_⟩
        rw [dec_int]
        by_cases h1 : s.one = t.other
        case neg =>
          rw [decide_eq_false h1]
          exact iteF (skip fun z => h1 z.1)
        rw [decide_eq_true h1]
        refine iteT ?_
        rw [if_pos h1] at dg
        refine ⟨_, rfl, b, _, 1, .int s.other, rfl, rfl, p1, rfl, _, rfl, .int s.other, (metL u t).map PyData.int, .int _, .lst (SqL.of (q1 _ _ f8)) (dp_ints _), rfl, shaped_ints _, _, rfl, ?_⟩
        rw [any_int]
        by_cases h2 : s.other ∈ metL u t
        · rw [decide_eq_true h2]
          exact skip fun z => z.2 h2
        rw [decide_eq_false h2]
        -- put
        refine ⟨_, rfl, _, rfl, by show 1 ≤ sizeLine; decide, fun l2 hl2 => ?_⟩
        have z1 := Ex.new (o := .lst [V.ref b]) hl2
        have g1 : upd G l2 (.lst [V.ref b]) l2 = some (.lst [V.ref b]) := upd_same
        generalize upd G l2 (.lst [V.ref b]) = G9 at z1 g1 ⊢
        have hxl := sts_len hqd
        refine ⟨q, l2, xs, _, rfl, rfl, z1 _ _ hqG, g1, sz_le (by show _ + 1 ≤ _; omega), fun q' hq' => ?_⟩
        have z2 := Ex.new (o := .lst (xs ++ [V.ref b])) hq'
        have z12 := z1.trans z2
        have q'D : q' ≠ D3 := (ne_of_none (z1 _ _ q2) hq').symm
        have q'F : q' ≠ Fo := (ne_of_none ((y58.trans (q1.trans z1)) _ _ hF3) hq').symm
        have q'W : q' ≠ W := (ne_of_none ((y58.trans (q1.trans z1)) _ _ hW3) hq').symm
        have hdl : deg (ss.take i) t.other ≤ 14 := by
          have h1 := deg_take (ss := ss) (p := t.other) i
          have h2 := deg_le (ss := ss) (p := t.other)
          omega
        refine ⟨acc, z12 _ _ q2, ?_, (q1.trans z12).mut hD3, acc ++ [.ref q'], news ++ [u ++ [s]], upd_same, ?_, fun w hw => ?_, by rw [List.length_append, List.length_singleton]; omega, fun z hz hz1 hz2 => by
          rw [tk] at hz
          rcases List.mem_append.mp hz with hz | hz
          · exact List.mem_append_left _ (q6 z hz hz1 hz2)
          · rw [List.mem_singleton.mp hz]
            exact List.mem_append_right _ (List.mem_singleton.mpr rfl)⟩
        · rw [q3.len]
          exact sz_m (by omega)
        · refine WyL.app (WyL.go (fun z o hz hz2 => ?_) q3) (.cons ⟨q', xs ++ [.ref b], rfl, fresh_back (eG.trans z1) hq', by simp [q'D, q'F, q'W], ?_, ?_⟩ .nil)
          · have : z ≠ D3 := fun e => hz (by rw [e]; simp)
            rw [upd_ne this]
            exact z12 _ _ hz2
          · rw [upd_ne q'D]
            exact upd_same
          · rw [List.map_append]
            exact dpa_app hqd (.cons hb .nil)
        · rcases List.mem_append.mp hw with hw | hw
          · exact q4 w hw
          · obtain rfl := List.mem_singleton.mp hw
            exact ⟨s, rfl, h1, hwt.more (mem_of_get hs) h1 h2⟩
      rintro G10 ⟨y10, acc, news, hD10, hn10, hno, hnl, hnall⟩
      rw [hul, List.take_length] at hnl hnall
      have y510 := y58.trans y10
      have hW10 := y510 _ _ hW3
      have hpl := hw5.len
      have hdl := deg_le (ss := ss) (p := t.other)
      refine ⟨W, D3, ps, acc, rfl, rfl, hW10, hD10, ?_, ?_⟩
      · rw [hpl, hn10.len]
        exact sz_le (by omega)
      have kp2 : ∀ {os ws}, WyL K H [Fo, W] G10 os ws → WyL K H [Fo, W] (upd G10 W (.lst (ps ++ acc))) os ws := fun h => WyL.go (fun z o hz hz2 => by
        have : z ≠ W := fun e => hz (by rw [e]; simp)
        rw [upd_ne this]
        exact hz2) h
      have k510 : ∀ {os ws}, WyL K H [Fo, W] G5 os ws → WyL K H [Fo, W] G10 os ws := fun h => WyL.go (fun z o _ hz2 => y510 _ _ hz2) h
      have hlt : mzS ss news < mzR ss u := mzS_lt (p := t.other) hwt.off (fun w hw => (hno w hw).imp fun s h => ⟨h.1, h.2.1⟩) hnl
      refine ⟨_, _, fs ++ [.ref q], ps ++ acc, found ++ [u], us' ++ news, rfl, ?_, (e6.trans y510).mut hWH, by rw [upd_ne WF]; exact y510 _ _ hF3, upd_same, kp2 (k510 hf5), kp2 (WyL.app (k510 hw5) (WyL.sub (by simp) hn10)), hfo5, fun w hw => ?_, ?_, hcv.on hwt hnall⟩
      · rw [mzS_app]
        omega
      · rcases List.mem_append.mp hw with hw | hw
        · exact hwo' w hw
        · obtain ⟨s, _, _, h⟩ := hno w hw
          exact ⟨s, h⟩
      · rw [mzS_app, List.length_append, List.length_singleton]
        omega
end
end AA

set_option Elab.async false
set_option linter.all false
set_option maxRecDepth 100000
set_option maxHeartbeats 4000000
/-! The law's _law_left. -/
namespace AA
open PySem PySem.Spec PyProof.Rows L2 Evl
section
variable {P : Program} {w : World} {K : PySem.W.Frag} {mg : Str → Option Value} {base : Heap}
def spLLf (K : PySem.W.Frag) : Sp := fun vs H Q _ => ∃ (p a b : Addr) (ys : List V) (ws : List St5) (pr rt : Int × Int), vs = [.ref p, .ref a, .ref b] ∧ SqL K H p ys ∧ DpAll K H ys (ws.map stD) ∧ ws.length ≤ 1000000 ∧ Sq2 K H a pr.1 pr.2 ∧ S64 pr.1 ∧ S64 pr.2 ∧ SqT K H b [.int rt.1, .int rt.2] ∧ S64 rt.2 ∧ S64 (tSum ws) ∧
  ∀ (H' : Hp), Ex H H' → Q (.int ((ws.map (wAb pr rt)).sum)) H'
abbrev nmLf : List Str := ["_law_walk", "_law_prices", "_law_rate", "_law_amounts_here", "_law_ticks", "_law_change"]
theorem scLf : FnScope nmLf ["_law_walk", "_law_prices", "_law_rate"] (defScope sLLeft) := ⟨rfl, rfl, rfl, by decide +kernel, rfl, by decide +kernel, by decide +kernel⟩
theorem ok_lleft {f : Addr} {fd : FuncData} (F : L2.Fun K "_law_left" "_law_left" sLLeft f fd) (cS : C8.Cal P w K mg base 1 "_law_sum" (spLSum K) []) (cC : C8.Cal P w K mg base 1 "_law_cost" (spCostOf K) []) : FnOk P w K mg base CX0 2 f fd ["_law_walk", "_law_prices", "_law_rate"] (spLLf K) := by
  refine F.ok scLf (fun vs H Q E h => ?_) (fun cdv A outer s H vs Q E hr h => ?_)
  · obtain ⟨p, a, b, ys, ws, pr, rt, rfl, _⟩ := h
    rfl
  · obtain ⟨p, a, b, ys, ws, pr, rt, rfl, hp, hD, hz, ha, s1, s2, hb, sb, st, k⟩ := h
    refine ⟨_, pss_cons (ps_asg (C8.pe_c cS hr (by decide) (by rfl) (pa_cons (pv 0) pa_nil)) (pg_tup (n := 3) rfl (pgs_cons (pg_name (i := 3) scLf.nd rfl (Or.inl rfl)) (pgs_cons (pg_name (i := 4) scLf.nd rfl (Or.inl rfl)) (pgs_cons (pg_name (i := 5) scLf.nd rfl (Or.inl rfl)) pgs_nil)))))
      (pss_one (ps_ret (pe_op op_sub (pe_op op_mul (pe_ix (r := rIxT K) ix_tup (pv 2) pe_int (fun _ _ => rfl)) (C8.pe_c cC hr (by decide) (by rfl) (pa_cons (pv 1) (pa_cons (pv 3) pa_nil)))) (pe_op op_mul (pe_ix (r := rIxT K) ix_tup (pv 2) pe_int (fun _ _ => rfl)) (pv 4))))), ?_⟩
    refine ⟨_, rfl, p, ys, ws, rfl, hp, hD, hz, fun H1 q t e1 q0 ht hq => ?_⟩
    refine ⟨q, _, rfl, SqT.of hq, rfl, _, _, rfl, _, _, rfl, _, _, rfl, rfl, ?_⟩
    refine ⟨_, rfl, b, _, 1, .int rt.2, rfl, rfl, ex_t e1 hb, rfl, _, rfl, _, rfl, a, t, pr.1, pr.2, _, _, rfl, ha.ex e1, ⟨[], .inr (SqT.of ht)⟩, s1, s2, ?_⟩
    refine ⟨_, _, rfl, rfl, .inl sb, ?_⟩
    refine ⟨_, rfl, b, _, 0, .int rt.1, rfl, rfl, ex_t e1 hb, rfl, _, rfl, _, _, rfl, rfl, .inr st, ?_⟩
    refine ⟨_, _, rfl, rfl, ?_⟩
    have := k H1 e1
    rw [wAb_sum] at this
    exact this
end
end AA

set_option Elab.async false
set_option linter.all false
set_option maxRecDepth 100000
set_option maxHeartbeats 4000000
/-! sorted of a list of data. -/
namespace AA
open PySem PySem.Spec PyProof.Rows L2 Evl
section
variable {X : Cx} {pins : List (Addr × Obj)} {σ : L2.St} {H : Hp} {s : Shared} {j : Nat}
theorem each_dp {β : Type} {enc : β → PyData} : ∀ {xs : List V} {its : List Value} {ds : List β}, Vals xs its → DpAll X.K H xs (ds.map enc) → PySem.W.EachIs (fun v d => ∃ x, RelV x v ∧ Dp X.K H x (enc d)) its ds
  | _, _, [], .nil, h => .nil
  | _, _, _ :: _, .nil, h => by cases h
  | _, _, [], .cons _ _, h => by cases h
  | _, _, d :: ds, .cons r t, h => by
    cases h with
    | cons h1 h2 => exact .cons ⟨_, r, h1⟩ (each_dp t h2)
theorem each_rd {β : Type} {enc : β → PyData} (I : Inv X pins σ H s) : ∀ {its : List Value} {ds : List β}, PySem.W.EachIs (fun v d => ∃ x, RelV x v ∧ Dp X.K H x (enc d)) its ds → PySem.W.EachIs (fun v d => ∃ as, Reads s.heap v (enc d) as) its ds
  | _, _, .nil => .nil
  | _, _, .cons ⟨x, r, h⟩ t => .cons (Dp.reads I _ x _ h r) (each_rd I t)
theorem each_back {β : Type} {enc : β → PyData} : ∀ {out : List Value} {ds : List β}, PySem.W.EachIs (fun v d => ∃ x, RelV x v ∧ Dp X.K H x (enc d)) out ds → ∃ ys, Vals ys out ∧ DpAll X.K H ys (ds.map enc)
  | _, _, .nil => ⟨[], .nil, .nil⟩
  | _, _, .cons ⟨x, r, h⟩ t => let ⟨ys, h1, h2⟩ := each_back t; ⟨x :: ys, .cons r h1, .cons h h2⟩
/-- sorted of a list of alike data: the same ones -/
def rSortD {β : Type} (enc : β → PyData) (K : PySem.W.Frag) : List V → Hp → VK → Prop := fun vs H Q => ∃ (a : Addr) (xs : List V) (bs : List β), vs = [V.ref a] ∧ SqL K H a xs ∧ DpAll K H xs (bs.map enc) ∧ PySem.W.AllAlike (bs.map enc) ∧ PySem.W.Sortable (bs.map enc) ∧ (∀ b ∈ bs, (enc b).depth ≤ 50) ∧
  ∀ (ys : List V) (es : List β) (p : Addr), es.Perm bs → DpAll K H ys (es.map enc) → H p = none → Q (.ref p) (upd H p (.lst ys))
theorem cr_sortD {β : Type} {enc : β → PyData} (hr : Room j X.A) : CallR X (.builtin "sorted") (rSortD enc X.K) := by
  intro pins s σ H vs us Q I r h
  obtain ⟨a, xs, ds, rfl, hs, hD, hal, hk, hd, q⟩ := h
  obtain ⟨its, rv, hl, hz⟩ := I.list hs
  obtain ⟨u, rfl, ru⟩ := vals1 r
  cases (show u = Value.ref a from ru)
  have hun := hr.un
  have e := each_dp rv hD
  have hlen := dpa_len hD
  rw [List.length_map] at hlen
  refine PySem.W.sorted_data (enc := enc) hl.isList e (each_rd I e) hal hk (by omega) (fun b hb => by
    have := hd b hb
    show X.A.units + 2 + (enc b).depth < cLine
    omega) fun out ho eo => ?_
  obtain ⟨ys, ry, hy⟩ := each_back eo
  obtain ⟨n, hn⟩ := PyProof.Rows.sortedAll_at s.heap its out.toArray
  refine ⟨.ref (s.heap.objs.size + 1), upd H (s.heap.objs.size + 1) (.lst ys), I.laid (t' := s.toks) (fun b o e => PyProof.Rows.sortedAll_old e) (Nat.le_succ _) ⟨?_, out, n, ry, hn⟩, rfl, q ys _ _ (List.mergeSort_perm ds _) hy (I.hok.fresh (Nat.le_succ _))⟩
  rw [ry.length, ho]
  omega
end
end AA

set_option Elab.async false
set_option linter.all false
set_option maxRecDepth 100000
set_option maxHeartbeats 4000000
/-! The law's _law_long_walk. -/
namespace AA
open PySem PySem.Spec PyProof.Rows L2 Evl
/-- (cost, step) -/
def cD (p : Int × St5) : PyData := .tuple [.int p.1, stD p.2]
theorem cDs_lay : ∀ ps : List (Int × St5), PyData.canLayAll0 (ps.map cD) = true
  | [] => rfl
  | s :: r => by
    show (PyData.canLay0 (cD s) && PyData.canLayAll0 (r.map cD)) = true
    rw [cDs_lay r]
    rfl
theorem cDs_depth : ∀ ps : List (Int × St5), PyData.depthAll (ps.map cD) ≤ 3
  | [] => by decide
  | s :: r => by
    have := cDs_depth r
    show max (PyData.depth (cD s)) (PyData.depthAll (r.map cD)) ≤ 3
    have e : PyData.depth (cD s) = 3 := rfl
    omega
theorem cDs_shaped (ps : List (Int × St5)) : SeqAt.shaped (.list (ps.map cD)) = true := by
  have h : PyData.depth (.list (ps.map cD)) ≤ 64 := by
    have := cDs_depth ps
    show PyData.depthAll (ps.map cD) + 1 ≤ 64
    omega
  show (PyData.canLayAll0 (ps.map cD) && decide (PyData.depth (.list (ps.map cD)) ≤ 64)) = true
  rw [cDs_lay, decide_eq_true h]
  rfl
theorem eqv_cDs_nil : ∀ ps : List (Int × St5), PyData.eqv (.list (ps.map cD)) (.list []) = ps.isEmpty
  | [] => rfl
  | _ :: _ => rfl
theorem cDs_alike (ps : List (Int × St5)) : PySem.W.AllAlike (ps.map cD) := PySem.W.AllAlike.of fun b b' => by
  simp [cD, stD, PySem.W.alike, PySem.W.alikeAll]
theorem cDs_sortable (ps : List (Int × St5)) : PySem.W.Sortable (ps.map cD) := PySem.W.Sortable.tuples fun b => ⟨_, _, rfl⟩
theorem cD_inv {K : PySem.W.Frag} {H : Hp} {v : V} {p : Int × St5} (h : Dp K H v (cD p)) : ∃ t b : Addr, v = .ref t ∧ SqT K H t [.int p.1, .ref b] ∧ Dp K H (.ref b) (stD p.2) := by
  unfold cD at h
  cases h with
  | tup h1 h2 =>
    cases h2 with
    | cons a1 h2 =>
      cases h2 with
      | cons a2 h2 =>
        cases h2
        cases a1
        obtain ⟨t, u, e, _⟩ := stD_inv a2
        subst e
        exact ⟨_, t, rfl, h1, a2⟩
theorem cs_get {K : PySem.W.Frag} {H : Hp} {ys : List V} {ps : List (Int × St5)} {i : Nat} {y : V} (h : DpAll K H ys (ps.map cD)) (hy : ys[i]? = some y) : ∃ p, ps[i]? = some p ∧ Dp K H y (cD p) := by
  obtain ⟨d, h1, h2⟩ := dpa_get h hy
  rw [List.getElem?_map] at h1
  cases q : ps[i]? with
  | none =>
    rw [q] at h1
    cases h1
  | some t =>
    rw [q] at h1
    cases h1
    exact ⟨t, rfl, h2⟩
theorem gh_ex {H G : Hp} {g : Addr} (hg : H g = none) (e : Ex H G) : Ex H (hid g g G) := fun x o h => by
  have := ne_of_none h hg
  rw [hid_ne this this]
  exact e _ _ h
theorem cs_hid {G : Hp} {K : PySem.W.Frag} {a b : Addr} {m : Nat} (S : SAt G a b m) : ∀ {vs : List V} {ps : List (Int × St5)}, DpAll K G vs (ps.map cD) → DpAll K (hid a b G) vs (ps.map cD)
  | [], [], _ => .nil
  | v :: vs, p :: ps, h => by
    cases h with
    | cons h1 h2 =>
      obtain ⟨t, b', rfl, k1, k2⟩ := cD_inv h1
      have k3 := sts_hid S (vs := [.ref b']) (ss := [p.2]) (.cons k2 .nil)
      cases k3 with
      | cons k3 _ => exact .cons (.tup (sqt_hid S k1) (.cons (.int _) (.cons k3 .nil))) (cs_hid S h2)
  | [], _ :: _, h => by cases h
  | _ :: _, [], h => by cases h
section
variable {P : Program} {w : World} {K : PySem.W.Frag} {mg : Str → Option Value} {base : Heap}
def spLLg (K : PySem.W.Frag) : Sp := fun vs H Q _ => ∃ (a b : Addr) (m : Nat) (g : Addr) (bg many lean : Int) (us : List V) (ss : List St5), vs = [.ref a, .ref g, .int bg, .int many, .int lean] ∧ SAt H a b m ∧ m < 800000000 ∧ SqL K (hid a b H) g us ∧ DpAll K (hid a b H) us (ss.map stD) ∧ ss.length ≤ 14 ∧ (∀ s ∈ ss, S64 s.p ∧ S64 s.q) ∧ 0 ≤ many ∧ many ≤ 60 ∧
  ∀ (H' : Hp) (p : Addr) (ys : List V) (ws : List St5), ExS a b H H' → SAt H' a b (m + 120) → H p = none → H' p = some (.lst ys) → DpAll K H' ys (ws.map stD) → (∃ e, Wlk5 bg ws e) → (∀ s ∈ ws, s ∈ ss) → ws.length ≤ 60 → Q (.ref p) H'
abbrev nmLg : List Str := ["_law_stream_here", "_law_steps", "_law_begin", "_law_many", "_law_lean", "_law_here", "_law_found", "_law_k", "_law_some", "_law_step_here"]
theorem scLg : FnScope nmLg ["_law_stream_here", "_law_steps", "_law_begin", "_law_many", "_law_lean"] (defScope sLLongWalk) := ⟨rfl, rfl, rfl, by decide +kernel, rfl, by decide +kernel, by decide +kernel⟩
theorem ok_llong {f : Addr} {fd : FuncData} (F : L2.Fun K "_law_long_walk" "_law_long_walk" sLLongWalk f fd) (B : Bn mg) (cC : C8.Cal P w K mg base 1 "_law_cost" (spCostOf K) []) (cDr : C8.Cal P w K mg base 1 "_law_draw" spDraw []) (cP : C8.Cal P w K mg base 2 "_law_pick" (spPick K) []) : FnOk P w K mg base CX0 3 f fd ["_law_stream_here", "_law_steps", "_law_begin", "_law_many", "_law_lean"] (spLLg K) := by
  refine F.ok scLg (fun vs H Q E h => ?_) (fun cdv A outer s H vs Q E hr h => ?_)
  · obtain ⟨a, b, m, g, bg, many, lean, us, ss, rfl, _⟩ := h
    rfl
  · obtain ⟨a, b, m, g, bg, many, lean, us, ss, rfl, hS, hm, hg, hD, hsz, hs64, hm0, hm60, k⟩ := h
    refine ⟨_, pss_cons (ps_asg (pe_tup (pa_cons (pv 2) (pa_cons (pe_lst pa_nil) pa_nil))) (pg_tup (n := 2) rfl (pgs_cons (pg_name (i := 5) scLg.nd rfl (Or.inr rfl)) (pgs_cons (pg_name (i := 6) scLg.nd rfl (Or.inl rfl)) pgs_nil))))
      (Evl.pss_cut (ps_for PassesOwn.never rfl (pi_range1 (by rfl) B.range (pa_cons (pv 3) pa_nil)) (pg_name (i := 7) scLg.nd rfl (Or.inl rfl))
          (pss_cons (ps_set (i := 8) scLg.nd rfl (Or.inl rfl) (pe_callB (r := rSortD cD K) (cr_sortD hr) (by rfl) B.sorted boot_sorted (pa_cons (pe_lc (own := [("_law_step_here", 9)]) (g := gName 9) (by rfl) scLg.nd (pi_list (pv 1)) (blkOk_by (N := nmLg) (sc := defScope sLLongWalk) (by decide +kernel)) (fun _ _ _ _ _ => pg_name (i := 9) scLg.nd rfl (Or.inl rfl))
              (fun _ _ _ _ _ => pts_one (pt_cmpR op_eq (pe_ix (r := rIxT K) ix_tup (pv 9) pe_int (fun _ _ => rfl)) (pv 5) (nomark _)))
              (fun _ _ _ _ _ => pe_tup (pa_cons (C8.pe_c cC hr (by decide) (by rfl) (pa_cons (pe_tup (pa_cons pe_int (pa_cons pe_int pa_nil))) (pa_cons (pe_ix (r := rIxT K) ix_tup (pv 9) pe_int (fun _ _ => rfl)) pa_nil))) (pa_cons (pv 9) pa_nil)))) pa_nil)))
          (pss_cons (ps_if (pt_cmpR (op_eqD hr.units) (pv 8) (pe_lst pa_nil) (nomark _)) (pss_one (ps_ret (pv 6))) pss_nil)
          (pss_cons (ps_expr (pe_bm PySem.F.plainAttrs_list PySem.F.slot_list_append PySem.F.type_list_append mt_append (pv 6) (pa_cons (pe_ifExp (pt_cmpR op_lt (C8.pe_c cDr hr (by decide) (by rfl) (pa_cons (pv 0) (pa_cons pe_int pa_nil))) (pv 4) (nomark _))
              (pe_ix (r := rIxT K) ix_tup (pe_ix (r := rIxL K) ix_list (pv 8) pe_int (fun _ _ => rfl)) pe_int (fun _ _ => rfl))
              (pe_ix (r := rIxT K) ix_tup (C8.pe_c cP hr (by decide) (by rfl) (pa_cons (pv 0) (pa_cons (pv 8) pa_nil))) pe_int (fun _ _ => rfl))) pa_nil)))
          (pss_one (ps_set (i := 5) scLg.nd rfl (Or.inr rfl) (pe_ix (r := rIxT K) ix_tup (pe_ix (r := rIxL K) ix_list (pv 6) (pe_un un_neg pe_int) (fun _ _ => rfl)) pe_int (fun _ _ => rfl))))))))
      (pss_one (ps_ret (pv 6)))), ?_⟩
    have ixs : ∀ {G : Hp} {b : Addr} {s : St5}, Dp K G (.ref b) (stD s) → ∃ u, SqT K G b [.int s.one, .int s.other, .ref u, .int s.ticks, .int s.change] := fun h => by
      obtain ⟨t, u, e, h1, _⟩ := stD_inv h
      cases e
      exact ⟨u, h1⟩
    refine ⟨_, rfl, Nat.zero_le _, fun Fo hFo0 => ⟨by show 2 ≤ sizeLine; decide, fun T0 hT0 => ⟨T0, _, rfl, SqT.of upd_same, rfl, _, _, rfl, _, _, rfl, rfl, ?_⟩⟩⟩
    have y1 := Ex.new (o := .lst []) hFo0
    have f1 : upd H Fo (.lst []) Fo = some (.lst []) := upd_same
    generalize upd H Fo (.lst []) = H1 at y1 f1 hT0 ⊢
    have y2 := Ex.new (o := .tup [V.int bg, V.ref Fo]) hT0
    have f2 := y2 _ _ f1
    generalize upd H1 T0 (.tup [V.int bg, V.ref Fo]) = H2 at y2 f2 ⊢
    have y12 := y1.trans y2
    have FoH : H Fo = none := hFo0
    have Foa := hS.nea FoH
    have Fob := hS.neb FoH
    refine ⟨fun σ G => ∃ (here : Int) (x7 x8 : Option V) (fs : List V) (ws : List St5), σ = [some (.ref a), some (.ref g), some (.int bg), some (.int many), some (.int lean), some (.int here), some (.ref Fo), x7, x8, none] ∧ ExS a b H G ∧ SAt G a b (m + 120) ∧ G Fo = some (.lst fs) ∧ DpAll K G fs (ws.map stD) ∧ Wlk5 bg ws here ∧ (∀ s ∈ ws, s ∈ ss) ∧ ws.length ≤ 60, ?_, ?_⟩
    case refine_2 =>
      rintro σ G ⟨here, x7, x8, fs, ws, rfl, r1, r2, r3, r4, r5, r6, r7⟩
      exact ⟨_, rfl, k G Fo fs ws r1 r2 FoH r3 r4 ⟨here, r5⟩ r6 r7⟩
    refine ⟨_, rfl, many, rfl, by omega, by omega, for_range (lo := 0) (n := many.toNat) (fun j σ G => ∃ (here : Int) (x7 x8 : Option V) (fs : List V) (ws : List St5), σ = [some (.ref a), some (.ref g), some (.int bg), some (.int many), some (.int lean), some (.int here), some (.ref Fo), x7, x8, none] ∧ ExS a b H G ∧ SAt G a b (m + 2 * j) ∧ G Fo = some (.lst fs) ∧ DpAll K G fs (ws.map stD) ∧ Wlk5 bg ws here ∧ (∀ s ∈ ws, s ∈ ss) ∧ ws.length ≤ j)
      ⟨bg, none, none, [], [], rfl, hid_mono y12, hS.ex y12, f2, .nil, rfl, (fun s h => absurd h (by simp)), Nat.zero_le _⟩ ?_ (fun σ G ⟨here, x7, x8, fs, ws, h1, h2, h3, h4, h5, h6, h7, h8⟩ => ⟨here, x7, x8, fs, ws, h1, h2, h3.mono (by omega), h4, h5, h6, h7, by omega⟩)⟩
    rintro j σ G hj ⟨here, x7, x8, fs, ws, rfl, eG, sG, hFo, fd, hwk, hsub, hwl⟩
    have hj60 : j < 60 := by omega
    have gG : SqL K G g us := ex_l (Ex.trans eG hid_ex) hg
    have dG : DpAll K G us (ss.map stD) := dpa_ex (Ex.trans eG hid_ex) _ _ hD
    -- some
    refine ⟨_, rfl, g, rfl, ⟨us, gG⟩, fun D hD0 => ?_⟩
    have DF : D ≠ Fo := (ne_of_none hFo hD0).symm
    refine lc_list (xs := us) (fun i G' => Ex G G' ∧ ∃ ys ps, G' D = some (.lst ys) ∧ DpAll K (hid D D G') ys (List.map cD ps) ∧ ps.length ≤ i ∧ ∀ p ∈ ps, p.2 ∈ ss ∧ p.2.one = here) ⟨Ex.new hD0, [], [], upd_same, .nil, Nat.zero_le _, fun p h => absurd h (by simp)⟩ (fun i G' _ q => ex_l q.1 gG) ?_ ?_
    · rintro i x G' hx ⟨q1, ys, ps, q2, q3, q4, q5⟩
      obtain ⟨s, b', hs, rfl, hb⟩ := sts_get dG hx
      have il := (List.getElem?_eq_some_iff.mp hs).1
      obtain ⟨_, u, e1, p1, p2⟩ := stD_inv (dp_ex q1 _ _ hb)
      cases e1
      refine ⟨rfl, _, rfl, b', _, 0, .int s.one, rfl, rfl, p1, rfl, _, rfl, rfl, _, rfl, ?_⟩
      rw [dec_int]
      by_cases h1 : s.one = here
      case neg =>
        rw [decide_eq_false h1]
        exact iteF ⟨q1, ys, ps, q2, q3, by omega, q5⟩
      rw [decide_eq_true h1]
      refine iteT ?_
      refine ⟨by show 2 ≤ sizeLine; decide, fun t1 ht1 => ?_⟩
      have z1 := Ex.new (o := .tup [V.int 1, V.int 1]) ht1
      have g1 : upd G' t1 (.tup [V.int 1, V.int 1]) t1 = some (.tup [V.int 1, V.int 1]) := upd_same
      generalize upd G' t1 (.tup [V.int 1, V.int 1]) = G1 at z1 g1 ⊢
      obtain ⟨sp, sq⟩ := hs64 s (mem_of_get hs)
      refine ⟨_, rfl, b', _, 2, .ref u, rfl, rfl, ex_t z1 p1, rfl, t1, u, 1, 1, s.p, s.q, rfl, ⟨[], .inr (SqT.of g1)⟩, ⟨[], .inr (ex_t z1 p2)⟩, by unfold S64; omega, by unfold S64; omega, ?_⟩
      refine ⟨_, rfl, by show 2 ≤ sizeLine; decide, fun t2 ht2 => ?_⟩
      have z2 := Ex.new (o := .tup [V.int (1 * s.p + 1 * s.q), V.ref b']) ht2
      have g2 : upd G1 t2 (.tup [V.int (1 * s.p + 1 * s.q), V.ref b']) t2 = some (.tup [V.int (1 * s.p + 1 * s.q), V.ref b']) := upd_same
      generalize upd G1 t2 (.tup [V.int (1 * s.p + 1 * s.q), V.ref b']) = G2 at z2 g2 ⊢
      have z12 := z1.trans z2
      have q22 := z12 _ _ q2
      have t2D : t2 ≠ D := fun z => by rw [z, q22] at g2; cases g2
      refine ⟨ys, q22, ?_, (q1.trans z12).mut hD0, ys ++ [.ref t2], ps ++ [(1 * s.p + 1 * s.q, s)], upd_same, ?_, by rw [List.length_append, List.length_singleton]; omega, fun p hp => (List.mem_append.mp hp).elim (q5 p) fun z => by rw [List.mem_singleton.mp z]; exact ⟨mem_of_get hs, h1⟩⟩
      · have := dpa_len q3
        rw [List.length_map] at this
        rw [this]
        exact sz_m (by omega)
      · rw [hid_upda, List.map_append]
        refine dpa_app (dpa_ex (hid_mono z12) _ _ q3) (.cons (.tup (SqT.of (by rw [hid_ne t2D t2D]; exact g2)) (.cons (.int _) (.cons (dp_ex (gh_ex hD0 (q1.trans z12)) _ _ hb) .nil))) .nil)
    rintro G1 ⟨q1, ys, ps, q2, q3, q4, q5⟩
    have q4' : ps.length ≤ us.length := q4
    have hul : us.length = ss.length := sts_len dG
    refine ⟨D, ys, ps, rfl, SqL.of q2, dpa_ex hid_ex _ _ q3, cDs_alike ps, cDs_sortable ps, fun p hp => by show 3 ≤ 50; decide, fun zs qs S pm hz hS0 => ?_⟩
    have y3 := Ex.new (o := .lst zs) hS0
    have j3 : upd G1 S (.lst zs) S = some (.lst zs) := upd_same
    have S1 : G1 S = none := hS0
    generalize upd G1 S (.lst zs) = G3 at y3 j3 ⊢
    have hz3 := dpa_ex y3 _ _ hz
    -- none
    refine ⟨_, rfl, Nat.zero_le _, fun l hl => ?_⟩
    have y4 := Ex.new (o := .lst []) hl
    refine ⟨.list (qs.map cD), .list [], .lst (SqL.of (y4 _ _ j3)) (dpa_ex y4 _ _ hz3), .lst (SqL.of upd_same) .nil, cDs_shaped _, rfl, _, rfl, ?_⟩
    generalize upd G3 l (.lst []) = G5 at y4 ⊢
    rw [eqv_cDs_nil]
    have e05 := q1.trans (y3.trans y4)
    have E5 : ExS a b H G5 := Ex.trans eG (hid_mono e05)
    have s5 := sG.ex e05
    have hFo5 := e05 _ _ hFo
    have fd5 := dpa_ex e05 _ _ fd
    have hz5 := dpa_ex y4 _ _ hz3
    have j5 := y4 _ _ j3
    have Sa := (sG.ex q1).nea S1
    have Sb := (sG.ex q1).neb S1
    have hzl : zs.length = qs.length := by
      have := dpa_len hz
      rw [List.length_map] at this
      exact this
    have hql : qs.length = ps.length := pm.length_eq
    cases hqs : qs with
    | nil =>
      exact iteT ⟨_, rfl, k G5 Fo fs ws E5 (s5.mono (by omega)) FoH hFo5 fd5 ⟨here, hwk⟩ hsub (by omega)⟩
    | cons p0 qr =>
      refine iteF ?_
      have hqm : ∀ p ∈ qs, p.2 ∈ ss ∧ p.2.one = here := fun p hp => q5 p (pm.mem_iff.mp hp)
      have hp0 := hqm p0 (by rw [hqs]; exact List.mem_cons_self)
      have hpos : 0 < qs.length := by rw [hqs, List.length_cons]; omega
      refine ⟨_, rfl, .inl ⟨rfl, _, SqL.of hFo5⟩, ?_⟩
      refine ⟨_, rfl, a, b, m + 2 * j, 3, rfl, s5, by omega, by decide, by decide, fun G6 c e6 s6 c0 c1 => ?_⟩
      refine ⟨_, rfl, _, _, rfl, rfl, _, rfl, ?_⟩
      refine dec_ite (fun _ => ?_) (fun _ => ?_)
      · obtain ⟨v0, hv0⟩ : ∃ v0, zs[0]? = some v0 := ⟨_, List.getElem?_eq_getElem (by omega)⟩
        obtain ⟨pp, hpp, hd0⟩ := cs_get (cs_hid s5 hz5) hv0
        obtain rfl : pp = p0 := by
          rw [hqs] at hpp
          exact (Option.some.inj hpp).symm
        obtain ⟨t0, b0, rfl, ht0, hb0⟩ := cD_inv hd0
        have hb06 : Dp K G6 (.ref b0) (stD pp.2) := dp_ex (Ex.trans e6 hid_ex) _ _ hb0
        refine ⟨_, rfl, S, _, (0 : Int), .ref t0, rfl, rfl, SqL.of (e6.at j5 Sa Sb), atI_nat hv0, t0, _, 1, .ref b0, rfl, rfl, ex_t (Ex.trans e6 hid_ex) ht0, rfl, ?_⟩
        -- more
        have E6 : ExS a b H G6 := Ex.trans E5 e6
        have Fo6 : G6 Fo = some (.lst fs) := ExS.at e6 hFo5 Foa Fob
        have fd6 : DpAll K G6 fs (ws.map stD) := dpa_ex (Ex.trans e6 hid_ex) _ _ (sts_hid s5 fd5)
        refine ⟨Fo, fs, _, rfl, rfl, Fo6, ?_, ?_⟩
        · rw [sts_len fd6]
          exact sz_m (by omega)
        have hda : DpAll K G6 (fs ++ [.ref b0]) ((ws ++ [pp.2]).map stD) := by
          rw [List.map_append]
          exact dpa_app fd6 (.cons hb06 .nil)
        have hd' : DpAll K (upd G6 Fo (.lst (fs ++ [.ref b0]))) (fs ++ [.ref b0]) ((ws ++ [pp.2]).map stD) := sts_upd (nt_lst Fo6) hda
        have Foz : upd G6 Fo (.lst (fs ++ [.ref b0])) Fo = some (.lst (fs ++ [.ref b0])) := upd_same
        have Ez : ExS a b H (upd G6 Fo (.lst (fs ++ [.ref b0]))) := ExS.own E6 FoH Foa Fob
        have sz' := (s6).upd (o := .lst (fs ++ [.ref b0])) Foa Fob
        generalize upd G6 Fo (.lst (fs ++ [.ref b0])) = Gz at hd' Foz Ez sz' ⊢
        obtain ⟨tb, htb, htD⟩ := last_at hd' (t := pp.2) (by rw [List.getLast?_append]; rfl)
        obtain ⟨tu, htu⟩ := ixs htD
        refine ⟨_, rfl, _, rfl, Fo, _, (-1 : Int), _, rfl, rfl, SqL.of Foz, htb, tb, _, 1, .int pp.2.other, rfl, rfl, htu, rfl, ?_⟩
        exact ⟨pp.2.other, _, _, fs ++ [.ref b0], ws ++ [pp.2], rfl, Ez, sz'.mono (by omega), Foz, hd', (wlk5_app bg ws [pp.2] _).mpr ⟨here, hwk, hp0.2, rfl⟩, fun s hs => (List.mem_append.mp hs).elim (hsub s) fun z => (List.mem_singleton.mp z) ▸ hp0.1, by rw [List.length_append, List.length_singleton]; omega⟩
      · refine ⟨_, rfl, _, rfl, a, b, m + 2 * j + 1, S, zs, rfl, s6, by omega, SqL.of (by rw [hid_ne Sa Sb]; exact e6.at j5 Sa Sb), by omega, by omega, fun G7 ix vx e7 s7 hix => ?_⟩
        obtain ⟨p1, hpp1, hd1⟩ := cs_get (cs_hid s5 hz5) hix
        have hp1 := hqm p1 (mem_of_get hpp1)
        obtain ⟨t1, b1, rfl, ht1, hb1'⟩ := cD_inv hd1
        have hb1 : Dp K G7 (.ref b1) (stD p1.2) := dp_ex (Ex.trans (Ex.trans e6 e7) hid_ex) _ _ hb1'
        refine ⟨t1, _, 1, .ref b1, rfl, rfl, ex_t (Ex.trans (Ex.trans e6 e7) hid_ex) ht1, rfl, ?_⟩
        -- more
        have E7 : ExS a b H G7 := Ex.trans E5 (Ex.trans e6 e7)
        have Fo7 : G7 Fo = some (.lst fs) := ExS.at (Ex.trans e6 e7) hFo5 Foa Fob
        have fd7 : DpAll K G7 fs (ws.map stD) := dpa_ex (Ex.trans (Ex.trans e6 e7) hid_ex) _ _ (sts_hid s5 fd5)
        refine ⟨Fo, fs, _, rfl, rfl, Fo7, ?_, ?_⟩
        · rw [sts_len fd7]
          exact sz_m (by omega)
        have hda : DpAll K G7 (fs ++ [.ref b1]) ((ws ++ [p1.2]).map stD) := by
          rw [List.map_append]
          exact dpa_app fd7 (.cons hb1 .nil)
        have hd' : DpAll K (upd G7 Fo (.lst (fs ++ [.ref b1]))) (fs ++ [.ref b1]) ((ws ++ [p1.2]).map stD) := sts_upd (nt_lst Fo7) hda
        have Foz : upd G7 Fo (.lst (fs ++ [.ref b1])) Fo = some (.lst (fs ++ [.ref b1])) := upd_same
        have Ez : ExS a b H (upd G7 Fo (.lst (fs ++ [.ref b1]))) := ExS.own E7 FoH Foa Fob
        have sz' := (s7).upd (o := .lst (fs ++ [.ref b1])) Foa Fob
        generalize upd G7 Fo (.lst (fs ++ [.ref b1])) = Gz at hd' Foz Ez sz' ⊢
        obtain ⟨tb, htb, htD⟩ := last_at hd' (t := p1.2) (by rw [List.getLast?_append]; rfl)
        obtain ⟨tu, htu⟩ := ixs htD
        refine ⟨_, rfl, _, rfl, Fo, _, (-1 : Int), _, rfl, rfl, SqL.of Foz, htb, tb, _, 1, .int p1.2.other, rfl, rfl, htu, rfl, ?_⟩
        exact ⟨p1.2.other, _, _, fs ++ [.ref b1], ws ++ [p1.2], rfl, Ez, sz'.mono (by omega), Foz, hd', (wlk5_app bg ws [p1.2] _).mpr ⟨here, hwk, hp1.2, rfl⟩, fun s hs => (List.mem_append.mp hs).elim (hsub s) fun z => (List.mem_singleton.mp z) ▸ hp1.1, by rw [List.length_append, List.length_singleton]; omega⟩
end
end AA

set_option Elab.async false
set_option linter.all false
set_option maxRecDepth 100000
set_option maxHeartbeats 4000000
/-! try with several clauses, each 'as' the same name. -/
namespace AA
open PySem PySem.Spec PyProof.Rows L2
/-- behind a clause its name is gone -/
def clr (i : Nat) (D : Ends) : Ends := ⟨fun τ G => D.nx (τ.set i none) G, D.rt, fun τ G => D.bk (τ.set i none) G, fun τ G => D.ct (τ.set i none) G⟩
abbrev Cl := Value × (Addr → Value → Option Addr → TS)
/-- what the clauses wish, one after the other; slot i is the name's -/
def wAll (K : PySem.W.Frag) (i : Nat) (Wo : WX) (D : Ends) : List Cl → WX
  | [] => Wo
  | p :: r => fun cv dv τ G => ∃ hit, PySem.W.exmOne K cv p.1 = some hit ∧ (hit = true → ∀ ea, G ea = none → p.2 ea cv dv (clr i D) (τ.set i (some (.ref ea))) G) ∧ (hit = false → wAll K i Wo D r cv dv τ G)
inductive ClsOk (X : Cx) (nm : Str) : List ExceptHandler → List Cl → Prop
  | nil : ClsOk X nm [] []
  | cons {cn : Str} {cv : Value} {ts : Addr → Value → Option Addr → TS} {st : Stmt} {sts : List Stmt} {p1 p2 : Pos} {hs : List ExceptHandler} {l : List Cl} (nc : Names X cn cv)
      (su : ∀ (ea : Addr) (eo : Obj) (tv : Value) (dv : Option Addr) (pn : List (Addr × Obj)), Zc tv dv eo → (∃ vs, eo.data = .fields vs) → PSs (X.suite ea ((ea, eo) :: pn)) (st :: sts) (ts ea tv dv)) (more : ClsOk X nm hs l) :
      ClsOk X nm (.ExceptHandler (some (.Name cn p1)) (some nm) (st :: sts) p2 :: hs) ((cv, ts) :: l)
section
variable {X : Cx} {nm : Str} {i : Nat} {body : List Stmt} {h1 : ExceptHandler} {hr : List ExceptHandler} {l : List Cl} {pos : Pos} {tb : WX → TS} {Wo : WX}
theorem ps_tryAs (stk : X.stack = X.env :: X.outer) (frm : X.env.frame = some X.env.locals) (nod : X.N.Nodup) (at_ : X.N[i]? = some nm) (loc : X.env.kindOf nm = some .local) (tk : Takes X Wo)
    (bd : ∀ (W : WX) (pn : List (Addr × Obj)) (xe : Value → Shared → Prop), Takes (X.tr pn xe) W → PassesOwn (model X.prog X.w) X.A X.env xe → PSs (X.tr pn xe) body (tb W))
    (cs : ClsOk X nm (h1 :: hr) l) : PS X (.Try body (h1 :: hr) [] [] pos) (fun D τ G => tb (wAll X.K i Wo D l) D τ G) := by
  refine ⟨fun pins s τ G D I hh => ?_⟩
  have okX := I.ok
  have frs_ : X.A.frames = some (X.env :: X.outer) := okX.frames.trans (congrArg some stk)
  refine wpAny_Try_except (wpAny_mono ((bd (wAll X.K i Wo D l) (X.pn ++ pins) (fun e q1 => wpAny (model X.prog X.w) X.A (noteFrame e X.env) (fun _ q2 => wpAny (model X.prog X.w) X.A (setFlight e none) (fun _ q3 =>
    wpAny (model X.prog X.w) X.A (handleBy e X.env (h1 :: hr)) (SP X pins D) X.xe q3) X.xe q2) X.xe q1) (fun u z xx => ?catchIt) PassesOwn.looking).run [] s τ G D (I.toTry _) hh) (fun f z hz => ?through) (fun e z hz => hz))
  case through =>
    cases f with
    | next => exact let ⟨τ1, G1, J1, q⟩ := hz; wpAny_execs_nil ⟨τ1, G1, J1.ofTry okX, q⟩
    | brk => exact let ⟨τ1, G1, J1, q⟩ := hz; ⟨τ1, G1, J1.ofTry okX, q⟩
    | cont => exact let ⟨τ1, G1, J1, q⟩ := hz; ⟨τ1, G1, J1.ofTry okX, q⟩
    | ret v => exact let ⟨w1, τ1, G1, J1, r1, q⟩ := hz; ⟨w1, τ1, G1, J1.ofTry okX, r1, q⟩
  case catchIt =>
    obtain ⟨ea, gB, sJ, pinJ, τ1, G1, tv, dv, rfl, J0, nbl, upw, sky, fre, oss, agr, want⟩ := xx
    have J : Inv X pins τ1 G1 sJ := J0.ofTry okX
    have sky1 : Sky gB (X.env :: X.outer) ea (Zc tv dv) X.env.locals z.heap := stk ▸ sky
    show wpAny (model X.prog X.w) X.A (noteFrame (.ref ea) X.env) _ _ _
    refine Sky.land Zc.steady frs_ frm sky1 fun k3 fly3 up3 => ?_
    have J3 : Inv X pins τ1 G1 { z with heap := k3 } := J.landed nbl fly3.1 (upw.trans up3) oss agr
    obtain ⟨o3, v3, e3, z3, d3⟩ := fly3.there
    have nfr : ea ∉ frs (X.env :: X.outer) := fun hm => by
      obtain ⟨_, o', e', hnf⟩ := fly3.2.2.1.mem hm
      exact hnf _ ((Option.some.inj (e'.symm.trans e3)) ▸ d3)
    have nL : ea ≠ X.env.locals := fun q => nfr (List.mem_filterMap.mpr ⟨X.env, List.mem_cons_self, frm.trans (congrArg some q.symm)⟩)
    have nF : ea ∉ X.fs := fun hm => by
      obtain ⟨e, he, q⟩ := List.mem_filterMap.mp hm
      exact nfr (List.mem_filterMap.mpr ⟨e, List.mem_cons_of_mem _ he, q⟩)
    have S3 := J3.suite e3 d3 fre nL nF
    suffices go : ∀ {hs' : List ExceptHandler} {l' : List Cl}, ClsOk X nm hs' l' → wAll X.K i Wo D l' tv dv τ1 G1 → wpAny (model X.prog X.w) X.A (handleBy (.ref ea) X.env hs') (SP X pins D) X.xe { z with heap := k3 } from go cs want
    intro hs' l' ck
    induction ck with
    | nil =>
      intro wo
      refine wpAny_handleBy_nil ?_
      obtain ⟨_, _, _, o4, v4, T4, _, _, e4, _, d4, p4, _⟩ := id fly3
      unfold PySem.passOn
      refine wpAny_bind (wpAny_field e4 d4 p4 ?_)
      rw [if_neg (show ¬ ((Value.ref T4 == Value.none) = true) from by simp)]
      have fin : wpAny (model X.prog X.w) X.A (setFlight (.ref ea) X.env.frame) (fun _ q => wpAny (model X.prog X.w) X.A (throw (.ref ea) : Sem Flow) (SP X pins D) X.xe q) X.xe { z with heap := k3 } := by
        rw [frm]
        exact HandSPX.setFlight_upZ fly3 fun k5 held5 up5 => wpAny_throw (tk _ _ ⟨ea, gB, sJ, pins, τ1, G1, tv, dv, rfl, J, nbl, (upw.trans up3).trans up5, .inr (.inr (stk ▸ held5)), fre, oss, agr, wo⟩)
      first
        | exact wpAny_bind (wpAny_pure (wpAny_bind fin))
        | exact wpAny_bind fin
    | @cons cn cv ts st sts p1 p2 hs2 l2 nc su more ih =>
      rintro ⟨hit, hx, yes, no⟩
      refine wpAny_handleBy_cons (codeAny_handlers_test ?_) (by intro q; cases q)
      have LT : PySem.W.Looks (model X.prog X.w) k3 (typeOf (.ref ea)) tv := fun A Q E s k q => wpAny_typeOf_ref (k _ _ e3) (z3.1 ▸ q)
      have test : ∀ {Q : Value → Shared → Prop} {E : Value → Shared → Prop}, Q cv { z with heap := k3 } → wpAny (model X.prog X.w) (X.A.mark (some (.ref ea))) (eval (.Name cn p1) X.env) Q E { z with heap := k3 } := fun {Q E} q =>
        nc.2.2.elim (fun hm => ld_glob (X := X.suite ea ((ea, o3) :: (X.pn ++ pins))) S3 nc.1 hm q nc.2.1) (fun hm => ld_blt (X := X.suite ea ((ea, o3) :: (X.pn ++ pins))) S3 nc.1 hm.1 hm.2.1 q hm.2.2 nc.2.1)
      refine test ((PySem.W.exm_one (M := model X.prog X.w) J3.kIn LT hx).here ?_)
      cases hit with
      | false => exact ih (no rfl)
      | true =>
        refine codeAny_handlers_suite_as (HandSPX.lands_againZ fly3 fun k4 fly4 up4 => ?_)
        have J4 : Inv X pins τ1 G1 { z with heap := k4 } := J.landed nbl fly4.1 ((upw.trans up3).trans up4) oss agr
        obtain ⟨o4, v4, e4, z4, d4⟩ := fly4.there
        refine store_ok (X := X.suite ea ((ea, o4) :: (X.pn ++ pins))) (v := .ref ea) (J4.suite e4 d4 fre nL nF) nod at_ (.inl loc) rfl (fun q5 S5 => ?_) (.inr loc)
        refine wpAny_mono ((su ea o4 tv dv (X.pn ++ pins) z4 ⟨_, d4⟩).run [] q5 _ G1 _ S5 (yes rfl ea fre)) (fun f q6 h6 => ?_) (fun _ _ q => False.elim q)
        have end_ : ∀ {τ6 : L2.St} {G6 : Hp} {Q : Shared → Prop}, Inv (X.suite ea ((ea, o4) :: (X.pn ++ pins))) [] τ6 G6 q6 → (∀ q7, Inv X pins (τ6.set i none) G6 q7 → Q q7) →
            wpAny (model X.prog X.w) X.A (do bindName X.env nm .none; unbindBehindTheSuite X.env nm p2) (fun _ q7 => Q q7) X.xe q6 := fun S6 hq => gone_ok (S6.unsuite okX) nod at_ loc hq
        cases f with
        | next => exact let ⟨_, _, S6, h7⟩ := h6; end_ S6 fun q7 J7 => ⟨_, _, J7, h7⟩
        | brk => exact let ⟨_, _, S6, h7⟩ := h6; end_ S6 fun q7 J7 => ⟨_, _, J7, h7⟩
        | cont => exact let ⟨_, _, S6, h7⟩ := h6; end_ S6 fun q7 J7 => ⟨_, _, J7, h7⟩
        | ret u => exact let ⟨_, _, _, S6, r6, h7⟩ := h6; end_ S6 fun q7 J7 => ⟨_, _, _, J7, r6, h7⟩
end
end AA

set_option Elab.async false
set_option linter.all false
set_option maxRecDepth 100000
set_option maxHeartbeats 4000000
/-! Parts made, the stream and the tables, _law_tried. -/
namespace AA
open PySem PySem.Spec PyProof.Rows L2 Evl LamX
theorem gh_ne {G : Hp} {g p : Addr} {o : HO} (n : p ≠ g) (h : G p = some o) : hid g g G p = some o := by
  rw [hid_ne n n]
  exact h
theorem sqt_hidp {G : Hp} {K : PySem.W.Frag} {p t : Addr} {vs xs : List V} (hp : G p = some (.lst vs)) (h : SqT K G t xs) : SqT K (hid p p G) t xs := by
  rcases h with h | h
  · refine .inl ?_
    rcases h with h | ⟨u, h⟩
    · have tp : t ≠ p := fun z => by rw [z, hp] at h; cases h
      exact .inl (gh_ne tp h)
    · have tp : t ≠ p := fun z => by rw [z, hp] at h; cases h
      exact .inr ⟨u, gh_ne tp h⟩
  · exact .inr h
theorem sts_hidp {G : Hp} {K : PySem.W.Frag} {p : Addr} {us : List V} (hp : G p = some (.lst us)) : ∀ {vs : List V} {ss : List St5}, DpAll K G vs (ss.map stD) → DpAll K (hid p p G) vs (ss.map stD)
  | [], [], _ => .nil
  | v :: vs, s :: ss, h => by
    cases h with
    | cons h1 h2 =>
      obtain ⟨t, u, rfl, h3, h4⟩ := stD_inv h1
      exact .cons (stD_mk (sqt_hidp hp h3) (sqt_hidp hp h4)) (sts_hidp hp h2)
  | [], _ :: _, h => by cases h
  | _ :: _, [], h => by cases h
section
variable {K : PySem.W.Frag}
/-! ### the stream and the tables stand -/
abbrev NXs (a b : Addr) (G G' : Hp) : Prop := Ex (nt (hid a b G)) (nt (hid a b G'))
theorem nxs_N {a b : Addr} {G G' : Hp} (e : LamX.ExtN G G') : NXs a b G G' := fun x o h => by
  obtain ⟨h1, h2⟩ := nt_some h
  obtain ⟨h3, h4, h5⟩ := hid_some h1
  exact nt_of (by rw [hid_ne h4 h5]; exact e _ _ h3 h2) h2
theorem sat_N {a b : Addr} {m : Nat} {G G' : Hp} (S : SAt G a b m) (e : LamX.ExtN G G') : SAt G' a b m := by
  obtain ⟨ns, c1, c2, c3, h1, h2, r⟩ := S
  exact ⟨ns, c1, c2, c3, e _ _ h1 (fun ps z => nomatch z), e _ _ h2 (fun ps z => nomatch z), r⟩
theorem tab_keep {T : List (Addr × Str)} {G G' : Hp} (t : LamX.Tabs T G) (e : ∀ x o, G x = some o → (∀ xs, o ≠ .lst xs) → G' x = some o) : LamX.Tabs T G' := fun p hp => by
  obtain ⟨ps, h1, h2, h3⟩ := t p hp
  refine ⟨ps, e _ _ h1 (fun xs z => nomatch z), h2, fun pos cv hc => ?_⟩
  obtain ⟨c, e1, e2⟩ := h3 pos cv hc
  exact ⟨c, e1, e _ _ e2 fun xs z => by
    unfold LamX.CodeO at z
    cases z⟩
theorem tabs_S {T : List (Addr × Str)} {a b : Addr} {m : Nat} {G G' : Hp} (t : LamX.Tabs T G) (S : SAt G a b m) (e : ExS a b G G') : LamX.Tabs T G' := tab_keep t fun x o h n => by
  obtain ⟨ns, c1, c2, c3, h1, h2, _⟩ := S
  exact e.at h (fun z => n _ (Option.some.inj (h.symm.trans (by rw [z]; exact h1)))) (fun z => n _ (Option.some.inj (h.symm.trans (by rw [z]; exact h2))))
theorem tabs_upd {T : List (Addr × Str)} {p : Addr} {G : Hp} {xs ys : List V} (t : LamX.Tabs T G) (hp : G p = some (.lst xs)) : LamX.Tabs T (upd G p (.lst ys)) := tab_keep t fun x o h n => by
  have : x ≠ p := fun z => n xs (Option.some.inj (h.symm.trans (by rw [z]; exact hp)))
  rw [upd_ne this]
  exact h
structure RS (T : List (Addr × Str)) (a b : Addr) (H : Hp) (m : Nat) (G : Hp) : Prop where
  e : NXs a b H G
  s : SAt G a b m
  t : LamX.Tabs T G
theorem RS.ex {T : List (Addr × Str)} {a b : Addr} {H G G' : Hp} {m : Nat} (r : RS T a b H m G) (e : Ex G G') : RS T a b H m G' := ⟨r.e.trans (nt_mono (hid_mono e)), r.s.ex e, r.t.ext e⟩
theorem RS.go {T : List (Addr × Str)} {a b : Addr} {H G G' : Hp} {m k : Nat} (r : RS T a b H m G) (e : ExS a b G G') (s : SAt G' a b k) : RS T a b H k G' := ⟨r.e.trans (nt_mono e), s, tabs_S r.t r.s e⟩
theorem RS.N {T : List (Addr × Str)} {a b : Addr} {H G G' : Hp} {m : Nat} (r : RS T a b H m G) (e : LamX.ExtN G G') (t : LamX.Tabs T G') : RS T a b H m G' := ⟨r.e.trans (nxs_N e), sat_N r.s e, t⟩
theorem RS.mut {T : List (Addr × Str)} {a b p : Addr} {H G : Hp} {m : Nat} {xs ys : List V} (r : RS T a b H m G) (hp : G p = some (.lst xs)) (fr : ∀ x o, nt (hid a b H) x = some o → x ≠ p) (pa : p ≠ a) (pb : p ≠ b) : RS T a b H m (upd G p (.lst ys)) :=
  ⟨fun x o h => by
    have n := fr x o h
    obtain ⟨h1, h2⟩ := nt_some (r.e _ _ h)
    refine nt_of ?_ h2
    rw [hid_upd pa pb, upd_ne n]
    exact h1, r.s.upd pa pb, tabs_upd r.t hp⟩
/-- what stands over the stream and beside the tables stands -/
theorem RS.at {T : List (Addr × Str)} {a b : Addr} {H G : Hp} {m : Nat} (r : RS T a b H m G) : Ex (nt (hid a b H)) G := r.e.trans (nt_le.trans hid_ex)
theorem tps_nt {H : Hp} : Ex (tps H) (nt (tps H)) := fun x o h => by
  obtain ⟨_, xs, rfl⟩ := tps_some h
  exact nt_of h fun ps z => nomatch z

end
/-- a def whose code object stands at c -/
structure FunC (K : PySem.W.Frag) (x : Str) (st : Stmt) (f : Addr) (fd : FuncData) (c : Addr) : Prop where
  ex : ∃ (oc : Value) (od : Option Addr) (kV doc pm : Value) (an : Option Addr) (ct : Value) (osl : Array (Option Value)), fd = PySem.W.fnOf x x (defArgs st) (defBody st) (defScope st) .none kV doc pm an (.ref c) ct ∧ K.lookup f = some ⟨oc, od, .func fd, osl⟩ ∧ PySem.W.codeIn K (.ref c) x = true
  kp : PySem.W.keepIn K (.ref f) = true

theorem takes_len {X : Cx} {W : WX} (tk : Takes X W) : Takes X (fun cv dv τ G => τ.length = X.N.length → W cv dv τ G) := fun u z ⟨a, B, sI, pins, τ, G, cv, dv, e, I, nb, up, sky, na, os, ag, w⟩ =>
  tk u z ⟨a, B, sI, pins, τ, G, cv, dv, e, I, nb, up, sky, na, os, ag, w I.len⟩
/-- how a lambda's exception is told -/
def TrE (CD CY : Addr) (Q : VK) : XK := fun cv dv G =>
  (cv = .ref CD ∧ ∃ dd v, dv = some dd ∧ G dd = some (.xd [(("place" : Str), v)]) ∧ ∀ p, G p = none → Q (.ref p) (upd G p (.tup [.str "place", v]))) ∨
  (cv = .ref CY ∧ ∃ dd v, dv = some dd ∧ G dd = some (.xd [(("thing" : Str), v)]) ∧ ∀ p, G p = none → Q (.ref p) (upd G p (.tup [.str "prices", v])))
def TTried (CD CY : Addr) : (XK → Hp → VK → Prop) → Hp → VK → Prop := fun tl H Q => tl (TrE CD CY Q) H (fun v G => 2 ≤ sizeLine ∧ ∀ p, G p = none → Q (.ref p) (upd G p (.tup [.str "told", v])))
theorem scTried : FnScope ["_law_ask", "e"] ["_law_ask"] (defScope sTried) := ⟨rfl, rfl, rfl, by decide +kernel, rfl, by decide +kernel, by decide +kernel⟩
/-- which error is caught by which clause -/
structure ExmK (K : PySem.W.Frag) (CD CY : Addr) : Prop where
  dd : PySem.W.exmOne K (.ref CD) (.ref CD) = some true
  yd : PySem.W.exmOne K (.ref CY) (.ref CD) = some false
  yy : PySem.W.exmOne K (.ref CY) (.ref CY) = some true
theorem tried_gives {X : Cx} {q : Str} {g CD CY fD fY : Addr} {cdg : Value} (TD : ExT X.K X.mg "BadPlace" "place" CD fD) (TY : ExT X.K X.mg "BadPrices" "thing" CY fY) (k : ExmK X.K CD CY) :
    GivesTo X ["_law_ask", "e"] "_law_tried" (defScope sTried) g cdg (defBody sTried) "_law_ask" q (TTried CD CY) := by
  intro f c' s H Q tl act hc h
  refine ⟨_, pss_one (ps_tryAs (X := (cxOf C8.CX0 X.prog X.w X.K X.mg X.base ["_law_ask", "e"] "_law_tried" (defScope sTried) g cdg X.A X.stack s H C8.E0).nox) (i := 1) (nm := "e") (Wo := fun _ _ _ _ => False)
      (l := [(.ref CD, fun a cls d => tRet (tTup (tCons (tC (.str "place")) (tCons (tXf a cls d CD "place" (tVar 1)) tNil)))), (.ref CY, fun a cls d => tRet (tTup (tCons (tC (.str "prices")) (tCons (tXf a cls d CY "thing" (tVar 1)) tNil))))])
      (tb := fun W D σ H => ∃ Ech : XK, (∀ cls d σ' H', Ech cls d H' → σ'.length = 2 → W cls d σ' H') ∧ σ[0]? = some (some (.ref f)) ∧ H c' = some (CodeO c' q) ∧ tl Ech H (fun v G => 2 ≤ sizeLine ∧ ∀ p, G p = none → D.rt (.ref p) (upd G p (.tup [.str "told", v]))))
      rfl rfl scTried.nd rfl rfl L2.takes0 (fun W pn xe tk _ => ?_)
      (.cons ⟨rfl, by decide, .inl TD.gC⟩ (fun a oe cls d pn hz hf => pss_one (ps_ret (by exact (pe_tup (pa_cons pe_str (pa_cons (pe_xf TD.xf TD.no hz hf (pv 1)) pa_nil))))))
        (.cons ⟨rfl, by decide, .inl TY.gC⟩ (fun a oe cls d pn hz hf => pss_one (ps_ret (by exact (pe_tup (pa_cons pe_str (pa_cons (pe_xf TY.xf TY.no hz hf (pv 1)) pa_nil)))))) .nil))), ?_⟩
  · refine ⟨fun pins s' σ H' D I h' => ?_⟩
    obtain ⟨Ech, hW, h1, h2, h3⟩ := h'
    refine PSs.run (t := tRet (tTup (tCons (tC (.str "told")) (tCons (fun σZ HZ Q => σZ[0]? = some (some (.ref f)) ∧ HZ c' = some (CodeO c' q) ∧ tl Ech HZ Q) tNil)))) ?_ pins s' σ H' D I ⟨h1, h2, h3⟩
    exact pss_one (ps_ret (pe_tup (pa_cons pe_str (pa_cons (act _ pn xe Ech _ _ (takes_len tk) hW) pa_nil))))
  · refine ⟨TrE CD CY Q, fun cv dv σ' G hE hl => ?_, rfl, hc, h⟩
    obtain ⟨x0, x1, rfl⟩ : ∃ x0 x1, σ' = [x0, x1] := two_ofl hl
    rcases hE with ⟨rfl, dd, v, rfl, hx, kq⟩ | ⟨rfl, dd, v, rfl, hx, kq⟩
    · refine ⟨true, k.dd, fun _ ea hea => ?_, fun z => nomatch z⟩
      exact ⟨_, rfl, rfl, rfl, dd, _, v, rfl, hx, rfl, by show 2 ≤ sizeLine; decide, fun p hp => kq p hp⟩
    · refine ⟨false, k.yd, (fun z => nomatch z), fun _ => ⟨true, k.yy, fun _ ea hea => ?_, fun z => nomatch z⟩⟩
      exact ⟨_, rfl, rfl, rfl, dd, _, v, rfl, hx, rfl, by show 2 ≤ sizeLine; decide, fun p hp => kq p hp⟩
/-- f(k = v, ..) alone -/
theorem pe_callK0 {X : Cx} {CX : CXT} {k : Nat} {f : Addr} {fd : FuncData} {ps ks : List Str} {sp : Sp} {E : XK} {x : Str} {p pos : Pos} {kws : List Keyword} {tk : TA} {g : List Value → List Value → List Value} {gV : List V → List V → List V} (F : FnOk X.prog X.w X.K X.mg X.base CX k f fd ps sp) (hr : Room k X.A) (hg : Gl X x) (hm : X.mg x = some (.ref f)) (hk : PySem.W.keepIn X.K (.ref f) = true) (hb : KBinds X.K fd ps ks g gV) (hx : Passes CX X E)
    (hkw : PK X kws tk) (hall : (backToKw pos (keywordEach kws X.env)).all (·.1.isSome) = true := by rfl) (hks : (backToKw pos (keywordEach kws X.env)).filterMap (·.1) = ks := by rfl) (hdb : (x == ("__debug__" : Str)) = false := by decide)
    (hpl : ((backTo pos (starEach [] X.env)).any (·.1) || (backToKw pos (keywordEach kws X.env)).any (·.1.isNone)) = false := by rfl) :
    PE X (.Call (.Name x p) [] kws pos) (fun σ H Q => tk σ H fun zs H2 => sp (gV [] zs) H2 Q E) := ⟨fun pins s σ H Q I h =>
  wpAny_Call_Name_kw (ld_glob I hg hm (PySem.W.callWith_KW0 (h₀ := X.base) I.ok.mod.kin hk hall (thn (hkw.run pos pins s σ H _ I h) fun ws s2 ⟨zs, H2, I2, rz, q2⟩ => ⟨I2.kIn, by
    rw [hks]
    exact run_fnk (us := []) (vs := []) F hr hb hx I2 .nil rz q2⟩) hpl) hdb)⟩
/-- keywords that come in the other order -/
def revK {α : Type} : List α → List α → List α
  | [], ws => ws.reverse
  | _ :: _, _ => []
theorem revK_rel {vs : List V} {us : List Value} {zs : List V} {ws : List Value} (h : Vals vs us) (k : Vals zs ws) : Vals (revK vs zs) (revK us ws) := by
  cases h with
  | nil => exact vals_rev k
  | cons _ _ => exact .nil
def qC : Str := (("law" : Str) ++ ".<locals>.") ++ "<lambda>"
section
variable {P : Program} {w : World} {K : PySem.W.Frag} {mg : Str → Option Value} {base : Heap}
/-- what the top has written of _law_tried -/
structure TrP (K : PySem.W.Frag) (mg : Str → Option Value) (CD CY g fD fY : Addr) (fdg : FuncData) : Prop where
  F : L2.Fun K "_law_tried" "_law_tried" sTried g fdg
  m : mg "_law_tried" = some (.ref g)
  b : Binds K fdg ["_law_ask"] []
  TD : ExT K mg "BadPlace" "place" CD fD
  TY : ExT K mg "BadPrices" "thing" CY fY
  ex : ExmK K CD CY
/-- _law_tried(lambda: body) -/
theorem pe_triedB {X : Cx} {CD CY g fD fY c PT : Addr} {fdg : FuncData} {T : List (Addr × Str)} {q0 : Str} {k : Nat} {body : Expr} {t : XK → TE} {p3 p4 p5 : Pos} {ps : Arguments} {scope : Scope} (hXK : X.K = K) (hXm : X.mg = mg) (hXb : X.base = base) (W : TrP K mg CD CY g fD fY fdg) (TB : LamX.TabB base mg c PT)
    (hT : (PT, q0 ++ "<lambda>") ∈ T) (hu : ∀ p ∈ T, p.1 = PT → p.2 = q0 ++ "<lambda>")
    (hg : Gl X "_law_tried") (hcode : X.env.code = .ref c) (hq : X.env.qual = q0) (hr : Room (k + 2) X.A) (L : LamX.LamS X.env.scope scope) (hdef : defaultsOf ps X.env = ([], []))
    (hbind : ∀ (q : Str) (cl : List (Str × Addr)) (pm cv ctv : Value), bindArgs (PySem.W.kla_fn "<lambda>" q ps body scope cl pm cv ctv) ⟨[], []⟩ = pure [])
    (hbody : ∀ (A : Around) (outer : List Env) (s : Shared) (H : Hp) (E : XK) (f c' : Addr), Room k (A.deeper (LamX.lamEnv X scope s.heap.objs.size f c')) → PE (LamX.lamCx X A outer s H E scope f c') body (t E)) :
    PE X (.Call (.Name "_law_tried" p3) [.Lambda ps body scope p4] [] p5) (LamX.tLam T (TTried CD CY) t) := by
  subst hXK hXm hXb hq
  obtain ⟨oc, od, kV, doc, pm, an, cdv, ct, osl, rfl, lk, hcd⟩ := W.F.ex
  exact LamX.pe_lamcall (k := k) (Ng := ["_law_ask", "e"]) (a := "_law_ask") hg W.m W.F.kp lk hcd W.b scTried rfl (.inl rfl) (tried_gives W.TD W.TY W.ex) TB hcode hT hu hr L hdef hbind hbody
end
end AA

set_option Elab.async false
set_option linter.all false
set_option maxRecDepth 100000
set_option maxHeartbeats 4000000
/-! Things that are no place, no prices; webs that are made. -/
namespace AA
open PySem PySem.Spec PyProof.Rows L2 Evl
/-- a function of the module -/
def FnV (K : PySem.W.Frag) (f : Addr) : Prop := ∃ (od : Option Addr) (fd : FuncData) (osl : Array (Option Value)), K.lookup f = some ⟨.type "function", od, .func fd, osl⟩
theorem lk_fnv {K : PySem.W.Frag} {F : Hp} {f : Addr} (h : FnV K f) : Lk K F (.ref f) false := by
  obtain ⟨od, fd, osl, h⟩ := h
  exact lk_fn h rfl
theorem ni_fnv {K : PySem.W.Frag} {F : Hp} {f : Addr} (h : FnV K f) : NotI K F (.ref f) := by
  obtain ⟨od, fd, osl, h⟩ := h
  exact ni_fn h rfl
theorem WebL.hidS {K : PySem.W.Frag} {C : Addr} {G : Hp} {x lw a b : Addr} {m : Nat} {n : Int} {ss : List St5} (h : WebL K C G x lw n ss) (S : SAt G a b m) (xa : x ≠ a) (xb : x ≠ b) (la : lw ≠ a) (lb : lw ≠ b) : WebL K C (hid a b G) x lw n ss := by
  obtain ⟨dx, kd, ys, h1, h2, h3⟩ := h
  exact ⟨dx, kd, ys, by rw [hid_ne xa xb]; exact h1, by rw [hid_ne la lb]; exact h2, sts_hid S h3⟩
theorem WebL.nt {K : PySem.W.Frag} {C : Addr} {G : Hp} {x lw : Addr} {n : Int} {ss : List St5} (h : WebL K C G x lw n ss) : WebL K C (AA.nt G) x lw n ss := by
  obtain ⟨dx, kd, ys, h1, h2, h3⟩ := h
  exact ⟨dx, kd, ys, nt_of h1 (fun ps z => nomatch z), nt_of h2 (fun ps z => nomatch z), dpa_nt _ _ h3⟩
section
variable {K : PySem.W.Frag}
/-- two webs that are one -/
def WbR (K : PySem.W.Frag) (C : Addr) (x y : Addr) (H : Hp) : Prop := x = y ∧ ∃ n ss, WebAt K C H x n ss
theorem wbR_ex {C : Addr} : ∀ a b H H', Ex H H' → WbR K C a b H → WbR K C a b H' := fun a b H H' e ⟨h, n, ss, q⟩ => ⟨h, n, ss, q.ex e⟩
/-- a thing that is itself, later too -/
def Self6 (K : PySem.W.Frag) (C : Addr) (F : Hp) (o : V) : Prop := ∀ G, Ex F G → Sm K C (WbR K C) G 6 o o
theorem self_dp {C : Addr} {F : Hp} {o : V} {d : PyData} (h : Dp K F o d) (ho : dOk d = true) (hd : d.depth < 6) : Self6 K C F o := fun G e => sm_two d o o 6 (dp_ex e _ _ h) (dp_ex e _ _ h) ho hd
theorem self_int {C : Addr} {F : Hp} {j : Int} : Self6 K C F (.int j) := fun G e => .inl ⟨rfl, rfl⟩
theorem self_fn {C : Addr} {F : Hp} {f : Addr} (h : FnV K f) : Self6 K C F (.ref f) := fun G e => by
  obtain ⟨od, fd, osl, h⟩ := h
  exact .inr (.inr (.inr (.inr (.inr ⟨f, _, rfl, rfl, h, rfl⟩))))
theorem self_dict {C : Addr} {F : Hp} {p : Addr} (h : F p = some (.dK [])) : Self6 K C F (.ref p) := fun G e => .inr (.inr (.inr (.inl ⟨p, p, rfl, rfl, e _ _ h, e _ _ h, by decide⟩)))
theorem self_web {C x lw : Addr} {n : Int} {F : Hp} {ts : List St5} (h : WebL K C F x lw n ts) : Self6 K C F (.ref x) := fun G e => by
  obtain ⟨dx, kd, ys, h1, h2, h3⟩ := id h
  exact .inr (.inr (.inr (.inr (.inl ⟨x, dx, _, rfl, rfl, e _ _ h1, rfl, n, ts, (h.ex e).at⟩))))
/-- an instance is no int, no list -/
theorem ni_ins {C x dx : Addr} {F : Hp} {fs : List (Str × V)} (IC : InsK K C) (hi : PySem.W.kitOne K (.ref C) (.type "int") = some false) (h : F x = some (.ins C dx fs)) : NotI K F (.ref x) :=
  ⟨.ref C, false, false, fun H' e => .inl (.base (.ins (e _ _ (nt_of h fun ps z => nomatch z)) IC.cl IC.ha IC.hn IC.ht IC.hm)), hi, IC.n3, rfl⟩
theorem lk_ins {C x dx : Addr} {F : Hp} {fs : List (Str × V)} (IC : InsK K C) (h : F x = some (.ins C dx fs)) : Lk K F (.ref x) false :=
  ⟨.ref C, fun H' e => .inl (.base (.ins (e _ _ (nt_of h fun ps z => nomatch z)) IC.cl IC.ha IC.hn IC.ht IC.hm)), IC.n1⟩
/-- no prices -/
theorem nopr_lk {F : Hp} {v : V} (h : Lk K F v false) : NoPr K F v := .inl (.inl h)
theorem nopr_dp {F : Hp} {v : V} {d : PyData} (h : Dp K F v d) (hd : isListD d = false) : NoPr K F v := .inl (.inl (by have := lk_dp h; rw [hd] at this; exact this))
theorem nopr_len {F : Hp} {a : Addr} {xs : List V} (h : SqA K F a xs) (hx : xs.length ≠ 2) : NoPr K F (.ref a) := .inl (.inr ⟨a, xs, rfl, h, .inl (by omega)⟩)
theorem nopr_0 {F : Hp} {a : Addr} {z : V} {r : List V} (h : SqA K F a (z :: r)) (hz : NotI K F z) : NoPr K F (.ref a) := .inl (.inr ⟨a, _, rfl, h, .inr ⟨[], z, r, rfl, hz⟩⟩)
theorem nopr_1 {F : Hp} {a : Addr} {i : Int} {z : V} {r : List V} (h : SqA K F a (.int i :: z :: r)) (hz : NotI K F z) : NoPr K F (.ref a) := .inl (.inr ⟨a, _, rfl, h, .inr ⟨[i], z, r, rfl, hz⟩⟩)
theorem nopr_low {F : Hp} {a : Addr} {p q : Int} (h : SqA K F a [.int p, .int q]) (hz : p < 1 ∨ q < 1) : NoPr K F (.ref a) := .inr ⟨a, p, q, rfl, h, hz⟩
/-- what Web is asked without a fault -/
def spWebI0 (K : PySem.W.Frag) (C CP CS : Addr) : Sp := fun vs H Q _ => spWebInit K C CP CS vs H Q E0
/-- a web made of good steps -/
theorem web_good {C CP CS x dx : Addr} {G : Hp} {n : Int} {u : V} {ss : List St5} {xs : List V} {a : Addr} {Q : VK} (nx : G x = none) (ndx : G dx = none) (hn : 1 ≤ n) (hu : u = .ref a) (hs : SqA K G a xs) (hr : RdAll K n G xs ss) (nd : ss.Nodup) (hz : ss.length ≤ 1000000)
    (k : ∀ (G' : Hp) (lw : Addr) (ts : List St5), Ex G G' → WebL K C G' x lw n ts → G lw = none → ts.Perm ss → SrS ts → Q .non G') :
    spWebI0 K C CP CS [.ref x, .int n, u] (upd (upd G dx (.own x)) x (.ins C dx [])) Q E0 := by
  have me := made_ex (o := .ins C dx []) nx ndx
  refine ⟨x, dx, .int n, u, rfl, upd_same, .inr ⟨n, rfl, hn, .inr ⟨a, xs, ss, hu, hs.ex me, nd, hz, .inl ⟨hr.ex me, fun G' ts dy lw kd ys e fx fl0 fl hys p so => ?_⟩⟩⟩⟩
  obtain ⟨e1, w1, l0⟩ := made_web nx ndx e fx fl0 fl hys
  exact k G' lw ts e1 w1 l0 p so
end
end AA

set_option Elab.async false
set_option linter.all false
set_option maxRecDepth 100000
set_option maxHeartbeats 4000000
/-! read_fraction, checked_fraction; the error of fractions. -/
namespace AA
open PySem PySem.Spec PyProof.Rows L2 Evl
section
variable {P : Program} {w : World} {K : PySem.W.Frag} {mg : Str → Option Value} {base : Heap}
theorem scBadFr : FnScope ["self", "thing"] ["self", "thing"] (defScope sBadFrInit) := ⟨rfl, rfl, rfl, by decide +kernel, rfl, by decide +kernel, by decide +kernel⟩
theorem ok_badFr {CB f fI : Addr} {fd : FuncData} (F : L2.Fun K "__init__" "BadFraction.__init__" sBadFrInit f fd) (T : ExT K mg "BadFraction" "thing" CB fI) : FnOk P w K mg base CX0 1 f fd ["self", "thing"] (spExI CB "thing") := by
  refine F.ok scBadFr (fun vs H Q E h => ?_) (fun cdv A outer s H vs Q E hr h => ?_)
  · obtain ⟨a, v, rfl, _⟩ := h
    rfl
  · obtain ⟨a, v, rfl, ha, k⟩ := h
    exact ⟨_, pss_one (ps_ost (pv 0) (pv 1) rfl), _, rfl, _, rfl, a, CB, rfl, T.ox, T.no, .inl ⟨ha, k⟩⟩
/-- a fraction told as a tuple -/
def spRfr (K : PySem.W.Frag) : Sp := fun vs H Q _ => ∃ (a : Addr) (n d : Int), vs = [.ref a] ∧ SqT K H a [.int n, .int d] ∧ 1 ≤ d ∧ d < 1073741824 ∧ ∀ (H' : Hp) (t : Addr), Ex H H' → H t = none → H' t = some (.tup ((low [n, d]).map V.int)) → Q (.ref t) H'
theorem scRfr : FnScope ["thing"] ["thing"] (defScope sReadFraction) := ⟨rfl, rfl, rfl, by decide +kernel, rfl, by decide +kernel, by decide +kernel⟩
theorem ok_rfr {f : Addr} {fd : FuncData} (F : L2.Fun K "read_fraction" "read_fraction" sReadFraction f fd) (cI : C8.Cal P w K mg base 2 "is_integers" (spInts K) []) (cU : C8.Cal P w K mg base 1 "undivided" (spUnd K) []) : FnOk P w K mg base CX0 3 f fd ["thing"] (spRfr K) := by
  refine F.ok scRfr (fun vs H Q E h => ?_) (fun cdv A outer s H vs Q E hr h => ?_)
  · obtain ⟨a, n, d, rfl, _⟩ := h
    rfl
  · obtain ⟨a, n, d, rfl, ha, d1, d2, k⟩ := h
    refine ⟨_, pss_cons (ps_if (PW.pt (pw_or (pt_not (pt_val (C8.pe_c cI hr (by decide) (by rfl) (pa_cons (pv 0) (pa_cons pe_int pa_nil))))) (pw_or1 (pt_cmpR op_lt (pe_ix (r := rIx K) ix_seq (pv 0) pe_int (fun _ _ => rfl)) pe_int (nomark _)))))
        (pss_one (ps_ret pe_non)) pss_nil)
      (pss_one (ps_ret (C8.pe_c cU hr (by decide) (by rfl) (pa_cons (pv 0) pa_nil)))), ?_⟩
    refine ⟨_, rfl, .ref a, 2, rfl, .inr ⟨a, [n, d], rfl, .inr ha, rfl, fun H1 e1 => ⟨_, rfl, iteF ?_⟩⟩⟩
    have h1 := ex_t e1 ha
    refine ⟨_, rfl, .inr (.inl ⟨a, _, 1, .int d, rfl, rfl, h1, rfl, _, _, rfl, rfl, _, rfl, ?_⟩)⟩
    refine dec_ite (fun z => by omega) (fun _ => ?_)
    have hg : gcs [n, d] ≤ d.natAbs ∧ 0 < gcs [n, d] := by
      rw [gcs_two]
      exact ⟨Nat.gcd_le_right _ (by omega), Nat.gcd_pos_of_pos_right _ (by omega)⟩
    exact ⟨_, rfl, a, [n, d], rfl, h1, by show 2 ≤ 1000; decide, hg.2, by omega, fun H2 q e2 q0 hq => k H2 q (e1.trans e2) (fresh_back e1 q0) hq⟩
abbrev nmCf : List Str := ["thing", "found"]
theorem scCfr : FnScope nmCf ["thing"] (defScope sCheckedFraction) := ⟨rfl, rfl, rfl, by decide +kernel, rfl, by decide +kernel, by decide +kernel⟩
theorem ok_cfr {f CP fP : Addr} {fd fdP : FuncData} (F : L2.Fun K "checked_fraction" "checked_fraction" sCheckedFraction f fd) (TB : ExT K mg "BadFraction" "thing" CP fP) (GB : FnOk P w K mg base CX0 1 fP fdP ["self", "thing"] (spExI CP "thing")) (bB : Binds K fdP ["self", "thing"] []) (cR : C8.Cal P w K mg base 3 "read_fraction" (spRfr K) []) : FnOk P w K mg base (L2.CX P w) 4 f fd ["thing"] (spRfr K) := by
  refine F.okX scCfr (fun vs H Q E h => ?_) (fun cdv A outer s H vs Q E hr h => ?_)
  · obtain ⟨a, n, d, rfl, _⟩ := h
    rfl
  · obtain ⟨a, n, d, rfl, ha, d1, d2, k⟩ := h
    refine ⟨_, pss_cons (ps_set (i := 1) scCfr.nd rfl (Or.inl rfl) (C8.pe_c cR hr (by decide) (by rfl) (pa_cons (pv 0) pa_nil)))
      (pss_cons (ps_if (pt_cmp (pc_isN (pv 1))) (pss_one (ps_raise rfl (takes_of rfl rfl rfl rfl) (pmk_oex TB.ox TB.iC TB.tC GB (hr.mono (by decide)) bB .nil pass0 (by rfl) TB.gC (pa_cons (pv 0) pa_nil)))) pss_nil)
      (pss_one (ps_ret (pv 1)))), ?_⟩
    exact ⟨_, rfl, a, n, d, rfl, ha, d1, d2, fun H1 t e1 t0 ht => ⟨_, rfl, _, rfl, iteF ⟨_, rfl, k H1 t e1 t0 ht⟩⟩⟩
end
end AA

set_option Elab.async false
set_option linter.all false
set_option maxRecDepth 100000
set_option maxHeartbeats 4000000
/-! list(d.values()). -/
namespace AA
open PySem PySem.Spec PyProof.Rows L2 Evl
theorem kvv_get {K : Type} {kvs : List (K × V)} {vs : List (K × Value)} (r : KV kvs vs) {i : Nat} {k : K} {v : Value} (h : vs[i]? = some (k, v)) : ∃ x, kvs[i]? = some (k, x) ∧ RelV x v := KV.at' r h
theorem vals_at {xs : List V} {vs : List Value} (hl : xs.length = vs.length) (h : ∀ (i : Nat) (v : Value), vs[i]? = some v → ∃ x, xs[i]? = some x ∧ RelV x v) : Vals xs vs := by
  induction xs generalizing vs with
  | nil =>
    cases vs with
    | nil => exact .nil
    | cons v vs => cases hl
  | cons x xs ih =>
    cases vs with
    | nil => cases hl
    | cons v vs =>
      obtain ⟨y, h1, h2⟩ := h 0 v rfl
      cases (Option.some.inj h1)
      exact .cons h2 (ih (Nat.succ.inj hl) fun i v hv => h (i + 1) v hv)
def tListVals (te : TE) : TE := fun σ H Q => te σ H fun x H1 => ∃ (d : Addr) (kvs : List (Key × V)), x = .ref d ∧ H1 d = some (.dK kvs) ∧ ∀ q, H1 q = none → Q (.ref q) (upd H1 q (.lst (kvs.map (·.2))))
section
variable {X : Cx} {o : Expr} {p pos apos mpos : Pos} {td : TE}
theorem pe_listVals (hc : X.calm = true) (hg : Gl X "list") (hm : X.mg "list" = none) (hd : PE X o td) (hbase : attributeBase o "values" X.env (eval o X.env) = eval o X.env := by rfl) (hline : (apos.endLine == mpos.line) = true := by rfl)
    (hse : starEach [Expr.Call (.Attribute o "values" apos) [] [] mpos] X.env = [(false, eval (Expr.Call (.Attribute o "values" apos) [] [] mpos) X.env)] := by rfl) :
    PE X (.Call (.Name "list" p) [.Call (.Attribute o "values" apos) [] [] mpos] [] pos) (tListVals td) := by
  refine ⟨fun pins s σ H Q I hq => ?_⟩
  refine wpAny_Call_Name_kw (ld_blt I hg hm boot_list ?_)
  refine PyProof.Rows.callWith_type1 ?_ hse rfl
  rw [hse]
  show wpAny _ _ (spliced ((false, eval (Expr.Call (.Attribute o "values" apos) [] [] mpos) X.env) :: backTo pos (starEach [] X.env))) _ _ s
  refine Calls.spliced_cons ?_
  refine wpAny_Call_method (T := "dict") (id := "dict.values") hbase rfl hline F.plainAttrs_dict F.slot_dict_values F.type_dict_values (thn (hd.run pins s σ H _ I hq) fun u s1 ⟨x, H1, I1, rx, d, kvs, ex, hd, q⟩ => ?_)
  subst ex
  obtain rfl : u = Value.ref d := rx
  obtain ⟨hz, hs0, vs, kv, hdo⟩ := I1.hok d _ hd
  obtain ⟨ep, hat⟩ := hdo.dictAt
  have lk : kvs.length = vs.length := Paired.length kv
  refine ⟨hdo.typeIs, hdo.mapOf.noDict, ?_⟩
  show wpAny _ _ (callWith mpos (.builtin "dict.values") [.ref d] [] []) _ X.xe s1
  refine method_meetsIn F.slot_dict_values F.entry_dict_values rfl (PySem.evalArgs_none ⟨rfl, hdo.typeIs, F.args_dict_values_1 _, _, meets_dict_values (mixKind X.prog X.w) d hs0, ⟨vs, hdo⟩, ?_⟩)
  refine Calls.spliced_nil ?_
  have eS : (s1.heap.push { cls := .type "dict_values", data := .fields #[.ref d] }).objs.size = s1.heap.objs.size + 1 := Heap.size_push ..
  refine PySem.W.kdl_call (s := { s1 with heap := s1.heap.push { cls := .type "dict_values", data := .fields #[.ref d] } }) (PySem.W.kdl_values (knd := mixKind X.prog X.w) (kvs := vs) (ep := ep) (r := s1.heap.objs.size) (d := d)) (I1.ok.hd hc) ⟨⟨_, Heap.get?_push_size _ rfl, rfl, rfl⟩, hat.push _⟩ (by omega) fun h' tk acc c hk hS hacc => ?_
  have rv : Vals (kvs.map (·.2)) acc.toList := by
    refine vals_at ?_ fun i v hv => ?_
    · have h1 : acc.size = vs.length := hacc.1
      have h2 : acc.toList.length = vs.length := by
        rw [← h1]
        rfl
      rw [List.length_map, h2]
      exact lk
    · have hv' : acc[i]? = some v := by rw [← Array.getElem?_toList]; exact hv
      obtain ⟨k, hk2⟩ := hacc.2 i v hv'
      obtain ⟨x, h1, h2⟩ := kvv_get kv hk2
      exact ⟨x, by rw [List.getElem?_map, h1]; rfl, h2⟩
  have hS' : h'.get? (s1.heap.objs.size + 1) = some { cls := .type "list", dict := none, data := .seq acc c, slots := #[] } := by rw [← eS]; exact hS
  have hn : H1 (s1.heap.objs.size + 1) = none := I1.hok.fresh (Nat.le_succ _)
  refine ⟨.ref (s1.heap.objs.size + 1), upd H1 (s1.heap.objs.size + 1) (.lst (kvs.map (·.2))), I1.laid (t' := tk) (fun b o e => hk b o (Heap.get?_push_of_some _ e)) (Nat.le_succ _) ⟨by rw [List.length_map]; omega, acc.toList, c, rv, ?_⟩, ?_, q _ hn⟩
  · rw [Array.toArray_toList]
    exact hS'
  · show Value.ref _ = Value.ref _
    rw [← eS]
end
end AA

set_option Elab.async false
set_option linter.all false
set_option maxRecDepth 100000
set_option maxHeartbeats 4000000
/-! heights_or_ring, heights, credit. -/
namespace AA
open PySem PySem.Spec PyProof.Rows L2 Evl
section
variable {P : Program} {w : World} {K : PySem.W.Frag} {mg : Str → Option Value} {base : Heap}
/-- a web, a place of it, prices and a fraction, all as they should be -/
structure AskF (K : PySem.W.Frag) (CW : Addr) (H : Hp) (x : Addr) (n i : Int) (a q : Addr) (ss : List St5) (pr rt : Int × Int) : Prop where
  web : WebAt K CW H x n ss
  sm : WebSm n ss
  i0 : 0 ≤ i
  i1 : i < n
  ap : SqA K H a [.int pr.1, .int pr.2]
  p1 : 1 ≤ pr.1
  p2 : 1 ≤ pr.2
  s1 : S64 pr.1
  s2 : S64 pr.2
  ar : SqT K H q [.int rt.1, .int rt.2]
  r1 : 1 ≤ rt.2
  r2 : rt.2 < 1073741824
  low : low [rt.1, rt.2] = [rt.1, rt.2]
def spHor (K : PySem.W.Frag) (CW : Addr) : Sp := fun vs H Q _ => ∃ (x : Addr) (n i : Int) (a q : Addr) (ss : List St5) (pr rt : Int × Int), vs = [.ref x, .int i, .ref a, .ref q] ∧ AskF K CW H x n i a q ss pr rt ∧
  ∀ (H' : Hp) (t : Addr), Ex H H' → H t = none → SorR K H H' t (sorT (wAb pr rt) ss [(i, 0)]) → Q (.ref t) H'
abbrev nmHo : List Str := ["web", "place", "prices", "rate", "pair", "steps"]
theorem scHo : FnScope nmHo ["web", "place", "prices", "rate"] (defScope sHeightsOrRing) := ⟨rfl, rfl, rfl, by decide +kernel, rfl, by decide +kernel, by decide +kernel⟩
theorem ok_hor {f CW CB CP fP fC fF gS : Addr} {fd fdP fdC fdF ddS : FuncData} (F : L2.Fun K "heights_or_ring" "heights_or_ring" sHeightsOrRing f fd) (T : WebTxt K mg CW) (GPl : FnOk P w K mg base (L2.CX P w) 3 fP fdP ["web", "place"] (spPlc K CW CB)) (mPl : mg "check_place" = some (.ref fP)) (kPl : PySem.W.keepIn K (.ref fP) = true) (bPl : Binds K fdP ["web", "place"] [])
    (GC : FnOk P w K mg base (L2.CX P w) 3 fC fdC ["thing"] (spCPr K CP)) (mC : mg "checked_prices" = some (.ref fC)) (kC : PySem.W.keepIn K (.ref fC) = true) (bC : Binds K fdC ["thing"] [])
    (GF : FnOk P w K mg base (L2.CX P w) 4 fF fdF ["thing"] (spRfr K)) (mF : mg "checked_fraction" = some (.ref fF)) (kF : PySem.W.keepIn K (.ref fF) = true) (bF : Binds K fdF ["thing"] [])
    (GS : FnOk P w K mg base CX0 1 gS ddS ["self"] (spSteps K CW)) (bS : Binds K ddS ["self"] []) (mS : Meth K CW "steps" gS) (cW : C8.Cal P w K mg base 1 "weights_above" (spWab K) []) (cL : C8.Cal P w K mg base 3 "least_sums" (spLs K) []) : FnOk P w K mg base (L2.CX P w) 5 f fd ["web", "place", "prices", "rate"] (spHor K CW) := by
  refine F.okX scHo (fun vs H Q E h => ?_) (fun cdv A outer s H vs Q E hr h => ?_)
  · obtain ⟨x, n, i, a, q, ss, pr, rt, rfl, _⟩ := h
    rfl
  · obtain ⟨x, n, i, a, q, ss, pr, rt, rfl, ha, k⟩ := h
    have hr1 : Room 1 _ := hr.mono (by decide)
    have hr3 : Room 3 _ := hr.mono (by decide)
    have hr4 : Room 4 _ := hr.mono (by decide)
    refine ⟨_, pss_cons (ps_expr (pe_callS (E := WE fun cls d _ H => E cls d H) GPl hr3 (by rfl) mPl kPl bPl (fun σ => passAt (takes_of rfl rfl rfl rfl) σ) (pa_cons (pv 0) (pa_cons (pv 1) pa_nil))))
      (pss_cons (ps_set (i := 4) scHo.nd rfl (Or.inl rfl) (pe_callS (E := WE fun cls d _ H => E cls d H) GC hr3 (by rfl) mC kC bC (fun σ => passAt (takes_of rfl rfl rfl rfl) σ) (pa_cons (pv 2) pa_nil)))
      (pss_cons (ps_set (i := 5) scHo.nd rfl (Or.inl rfl) (pe_meth0 (pv 0) T.cl mS GS hr1 bS .nil pass0))
      (pss_one (ps_ret (C8.pe_c cL hr (by decide) (by rfl) (pa_cons (pv 5) (pa_cons (C8.pe_c cW hr (by decide) (by rfl) (pa_cons (pv 5) (pa_cons (pv 4) (pa_cons (pe_callS (E := WE fun cls d _ H => E cls d H) GF hr4 (by rfl) mF kF bF (fun σ => passAt (takes_of rfl rfl rfl rfl) σ) (pa_cons (pv 3) pa_nil)) pa_nil)))) (pa_cons (pv 1) pa_nil)))))))), ?_⟩
    obtain ⟨dx, l, kd, ys, hx, h2, h3⟩ := id ha.web
    have no : (wf n l kd).lookup ("steps" : Str) = none := wf_no _ _ _ (by decide +kernel) (by decide +kernel) (by decide +kernel)
    refine ⟨_, rfl, _, rfl, x, n, ss, _, rfl, ha.web, .inr ⟨i, rfl, ha.i0, ha.i1, ?_⟩⟩
    refine ⟨_, rfl, .ref a, rfl, .inr ⟨a, pr.1, pr.2, rfl, ha.ap, ha.p1, ha.p2, fun G1 t e1 t0 ht => ?_⟩⟩
    refine ⟨_, rfl, x, dx, _, rfl, e1 _ _ hx, no, x, n, ss, rfl, ha.web.ex e1, fun p zs hp hzs => ?_⟩
    have y1 := Ex.new (o := .lst zs) hp
    have j1 : upd G1 p (.lst zs) p = some (.lst zs) := upd_same
    generalize upd G1 p (.lst zs) = G2 at y1 j1 ⊢
    have e12 := e1.trans y1
    refine ⟨_, rfl, _, rfl, _, rfl, _, rfl, q, rt.1, rt.2, rfl, ex_t e12 ha.ar, ha.r1, ha.r2, fun G3 b e3 b0 hb => ?_⟩
    rw [ha.low] at hb
    have y23 := y1.trans e3
    have e13 := e12.trans e3
    refine ⟨p, t, b, zs, ss, pr, rt, rfl, SqL.of (e3 _ _ j1), dpa_ex y23 _ _ hzs, ⟨[], .inr (SqT.of (y23 _ _ ht))⟩, SqT.of hb, ha.s1, ha.s2, fun s hs => sm_64 (ha.sm.sm s hs) (ha.sm.ok s hs), by have := ha.sm.len; omega, fun G4 d e4 d0 hd => ?_⟩
    have e14 := e13.trans e4
    refine ⟨_, rfl, p, d, zs, ss, wAb pr rt, i, plcs n, rfl, SqL.of ((e3.trans e4) _ _ j1), dpa_ex (y23.trans e4) _ _ hzs, SqL.of hd, by have := ha.sm.len; omega, plcs_mem.mpr ⟨ha.i0, ha.i1⟩, fun s hs => plcs_mem.mpr ⟨(ha.sm.ok s hs).t0, (ha.sm.ok s hs).t1⟩, by rw [plcs_len]; have := ha.sm.n60; omega, fun H' u e u0 hR => ?_⟩
    exact k H' u (e14.trans e) (fresh_back e14 u0) (hR.back e14)
/-- heights that are told -/
def HtR (H H' : Hp) (v : V) (sm : List (Int × Int)) : Prop := ∃ (dp : Addr) (l : List (Int × Int)), v = .ref dp ∧ H' dp = some (.dK (smK l)) ∧ (l.map (·.1)).Nodup ∧ (∀ v, gt l v = gt sm v) ∧ H dp = none
def spHts (K : PySem.W.Frag) (CW : Addr) : Sp := fun vs H Q _ => ∃ (x : Addr) (n i : Int) (a q : Addr) (ss : List St5) (pr rt : Int × Int), vs = [.ref x, .int i, .ref a, .ref q] ∧ AskF K CW H x n i a q ss pr rt ∧ (sorT (wAb pr rt) ss [(i, 0)]).2 = none ∧
  ∀ (H' : Hp) (v : V), Ex H H' → HtR H H' v (sorT (wAb pr rt) ss [(i, 0)]).1 → Q v H'
abbrev nmHt : List Str := ["web", "place", "prices", "rate", "found", "_"]
theorem scHt : FnScope nmHt ["web", "place", "prices", "rate"] (defScope sHeights) := ⟨rfl, rfl, rfl, by decide +kernel, rfl, by decide +kernel, by decide +kernel⟩
theorem ok_hts {f CW fH : Addr} {fd fdH : FuncData} (F : L2.Fun K "heights" "heights" sHeights f fd) (GH : FnOk P w K mg base (L2.CX P w) 5 fH fdH ["web", "place", "prices", "rate"] (spHor K CW)) (mH : mg "heights_or_ring" = some (.ref fH)) (kH : PySem.W.keepIn K (.ref fH) = true) (bH : Binds K fdH ["web", "place", "prices", "rate"] []) : FnOk P w K mg base (L2.CX P w) 6 f fd ["web", "place", "prices", "rate"] (spHts K CW) := by
  refine F.okX scHt (fun vs H Q E h => ?_) (fun cdv A outer s H vs Q E hr h => ?_)
  · obtain ⟨x, n, i, a, q, ss, pr, rt, rfl, _⟩ := h
    rfl
  · obtain ⟨x, n, i, a, q, ss, pr, rt, rfl, ha, hn, k⟩ := h
    refine ⟨_, pss_cons (ps_asg (pe_callS (E := WE fun cls d _ H => E cls d H) GH hr (by rfl) mH kH bH (fun σ => passAt (takes_of rfl rfl rfl rfl) σ) (pa_cons (pv 0) (pa_cons (pv 1) (pa_cons (pv 2) (pa_cons (pv 3) pa_nil))))) (pg_tup (n := 2) rfl (pgs_cons (pg_name (i := 4) scHt.nd rfl (Or.inl rfl)) (pgs_cons (pg_name (i := 5) scHt.nd rfl (Or.inl rfl)) pgs_nil))))
      (pss_one (ps_ret (pv 4))), ?_⟩
    refine ⟨_, rfl, _, rfl, _, rfl, _, rfl, x, n, i, a, q, ss, pr, rt, rfl, ha, fun H1 t e1 t0 hR => ?_⟩
    unfold SorR at hR
    rw [hn] at hR
    obtain ⟨dp, l, h1, h2, h3, _, h5, h6⟩ := hR
    refine ⟨t, _, rfl, SqT.of h1, rfl, _, _, rfl, _, _, rfl, rfl, ?_⟩
    exact ⟨_, rfl, k H1 (.ref dp) e1 ⟨dp, l, rfl, h2, h3, h5, h6⟩⟩
end
end AA

set_option Elab.async false
set_option linter.all false
set_option maxRecDepth 100000
set_option maxHeartbeats 4000000
/-! The least of all walks, at the least rate. -/
namespace AA
open PySem PySem.Spec PyProof.Rows L2 Evl
def LeastW (W : St5 → Int) (ss : List St5) (i m : Int) : Prop := (∃ L e, Smp ss i L e ∧ (L.map W).sum = m) ∧ ∀ L e, Smp ss i L e → m ≤ (L.map W).sum
theorem LeastW.uniq {W : St5 → Int} {ss : List St5} {i m k : Int} (h : LeastW W ss i m) (h' : LeastW W ss i k) : m = k := by
  obtain ⟨⟨L, e, h1, h2⟩, h3⟩ := h
  obtain ⟨⟨M, f, k1, k2⟩, k3⟩ := h'
  have a := h3 M f k1
  have b := k3 L e h1
  omega
/-- at the least rate no ring is below -/
theorem rate_nn {ss : List St5} {i : Int} {pr : Int × Int} {o : Option (List St5)} (hch : ChOk ss i pr o) (ht : ∀ s ∈ ss, 1 ≤ s.ticks) {w0 : List St5} (ho : o = some w0) {c1 c2 : Int} (hc : low [cSum pr w0, tSum w0] = [c1, c2]) :
    1 ≤ c2 ∧ c2 ≤ tSum w0 ∧ low [c1, c2] = [c1, c2] ∧ (∀ R, RgFrom ss i R → 0 ≤ (R.map (wAb pr (c1, c2))).sum) ∧ (w0.map (wAb pr (c1, c2))).sum = 0 := by
  obtain ⟨h1, h2⟩ := hch.some' w0 ho
  have tpos : ∀ R, RgFrom ss i R → 1 ≤ tSum R := fun R hR => by
    have := tSum_ge R fun s hs => ht s (hR.1.sub s hs)
    have h2 : 1 ≤ R.length := List.length_pos_iff.mpr hR.1.ne
    omega
  obtain ⟨g, x, y, g0, e, hcs, hts, y1, y2⟩ := low_pair (c := cSum pr w0) (t := tSum w0) (tpos w0 h1)
  rw [hc] at e
  obtain ⟨rfl, rfl⟩ : c1 = x ∧ c2 = y := ⟨(List.cons.inj e).1, (List.cons.inj (List.cons.inj e).2).1⟩
  refine ⟨y1, y2, ?_, fun R hR => ?_, ?_⟩
  · have := low_scale (g := g.toNat) (by omega) c1 c2
    have eg : ((g.toNat : Nat) : Int) = g := Int.toNat_of_nonneg (by omega)
    rw [eg, ← hcs, ← hts, hc] at this
    exact this.symm
  · have := h2 R hR
    rw [hcs, hts] at this
    have k1 : g * (c1 * tSum R) ≤ g * (c2 * cSum pr R) := by
      have e1 : g * c1 * tSum R = g * (c1 * tSum R) := Int.mul_assoc ..
      have e2 : cSum pr R * (g * c2) = g * (c2 * cSum pr R) := by simp only [Int.mul_assoc, Int.mul_comm, Int.mul_left_comm]
      omega
    have k2 := Int.le_of_mul_le_mul_left k1 g0
    rw [wAb_sum]
    show 0 ≤ c2 * cSum pr R - c1 * tSum R
    omega
  · rw [wAb_sum]
    show c2 * cSum pr w0 - c1 * tSum w0 = 0
    rw [hcs, hts]
    have e1 : c2 * (g * c1) = c1 * (g * c2) := by simp only [Int.mul_assoc, Int.mul_comm, Int.mul_left_comm]
    omega
theorem no_ring {W : St5 → Int} {ss : List St5} {i : Int} {U : List Int} (h1 : i ∈ U) (h2 : ∀ s ∈ ss, s.other ∈ U) (hz : U.length ≤ 63) (hr : ∀ R, RgFrom ss i R → 0 ≤ (R.map W).sum) : (sorT W ss [(i, 0)]).2 = none := by
  have so := sorT_ok (W := W) (ss := ss) (I := [(i, 0)]) (U := U) (by simp) (fun p hp => by
    have := gt_mem.mp hp
    have e : p = i := by simpa using this
    rw [e]
    exact h1) h2 hz (List.length_pos_of_mem h1)
  cases hq : (sorT W ss [(i, 0)]).2 with
  | none => rfl
  | some ws =>
    obtain ⟨k1, k2, k3⟩ := so.ring ws hq
    have := hr ws ⟨k1, fun s hs => by
      obtain ⟨p, hp, hpr⟩ := k3 s hs
      have hm := gt_mem.mp hp
      have e : p = i := by simpa using hm
      rw [e] at hpr
      exact hpr⟩
    omega
theorem gt_nd {α : Type} : ∀ {l : List (Int × α)}, (l.map (·.1)).Nodup → ∀ e ∈ l, gt l e.1 = some e.2
  | [], _, e, h => absurd h (by simp)
  | x :: l, hn, e, h => by
    have hn' := List.nodup_cons.mp hn
    show (if x.1 = e.1 then some x.2 else gt l e.1) = some e.2
    rcases List.mem_cons.mp h with rfl | h
    · rw [if_pos rfl]
    · rw [if_neg fun z => hn'.1 (List.mem_map.mpr ⟨e, h, z.symm⟩)]
      exact gt_nd hn'.2 e h
theorem gt_in {α : Type} : ∀ {l : List (Int × α)} {v : Int} {x : α}, gt l v = some x → (v, x) ∈ l
  | [], v, x, h => by cases h
  | e :: l, v, x, h => by
    have h' : (if e.1 = v then some e.2 else gt l v) = some x := h
    by_cases q : e.1 = v
    · rw [if_pos q] at h'
      obtain rfl := q
      cases h'
      exact List.mem_cons_self
    · rw [if_neg q] at h'
      exact List.mem_cons_of_mem _ (gt_in h')
theorem least_ok {W : St5 → Int} {ss : List St5} {i : Int} {U : List Int} {l : List (Int × Int)} (h1 : i ∈ U) (h2 : ∀ s ∈ ss, s.other ∈ U) (hz : U.length ≤ 63) (hr : ∀ R, RgFrom ss i R → 0 ≤ (R.map W).sum) (hn : (l.map (·.1)).Nodup) (hl : ∀ v, gt l v = gt (sorT W ss [(i, 0)]).1 v) {m : Int} (hm : m ∈ l.map (·.2)) (hle : ∀ y ∈ l.map (·.2), m ≤ y) : LeastW W ss i m := by
  obtain ⟨d1, d2, d3, _⟩ := dist_ok h1 h2 hz (no_ring h1 h2 hz hr) hr
  have low : ∀ L e, Smp ss i L e → m ≤ (L.map W).sum := fun L e hL => by
    obtain ⟨y, hy, hy2⟩ := feas_walk d2 i L e 0 hL.wk hL.sub d1
    rw [← hl] at hy
    have := hle y (List.mem_map.mpr ⟨_, gt_in hy, rfl⟩)
    omega
  refine ⟨?_, low⟩
  obtain ⟨e, he, rfl⟩ := List.mem_map.mp hm
  have hg := gt_nd hn e he
  rw [hl] at hg
  obtain ⟨L, hL, hle2⟩ := d3 e.1 e.2 hg
  have := low L e.1 hL
  exact ⟨L, e.1, hL, by omega⟩
end AA

set_option Elab.async false
set_option linter.all false
set_option maxRecDepth 100000
set_option maxHeartbeats 4000000
/-! credit. -/
namespace AA
open PySem PySem.Spec PyProof.Rows L2 Evl
/-- what credit tells -/
def CrdR (H H' : Hp) (r : V) (ss : List St5) (i : Int) (pr : Int × Int) : Option (List St5) → Prop
  | none => r = .non
  | some w0 => ∃ (c1 c2 m : Int) (q : Addr), low [cSum pr w0, tSum w0] = [c1, c2] ∧ LeastW (wAb pr (c1, c2)) ss i m ∧ r = .ref q ∧ H q = none ∧ H' q = some (.tup ((low [0 - m, c2]).map V.int))
section
variable {P : Program} {w : World} {K : PySem.W.Frag} {mg : Str → Option Value} {base : Heap}
def spCrd (K : PySem.W.Frag) (CW CB CP : Addr) : Sp := fun vs H Q E => ∃ (x : Addr) (n : Int) (ss : List St5) (v u : V), vs = [.ref x, v, u] ∧ WebAt K CW H x n ss ∧ WebSm n ss ∧
  Ask K CW CB CP H v u n E fun i _ pr => ∀ (H' : Hp) (r : V), Ex H H' → CrdR H H' r ss i pr (cheap ss i pr (t0F ss pr)) → Q r H'
abbrev nmCr : List Str := ["web", "place", "prices", "rate", "least"]
theorem scCrd : FnScope nmCr ["web", "place", "prices"] (defScope sCredit) := ⟨rfl, rfl, rfl, by decide +kernel, rfl, by decide +kernel, by decide +kernel⟩
theorem ok_crd {f CW CB CP fR fT : Addr} {fd fdR fdT : FuncData} (F : L2.Fun K "credit" "credit" sCredit f fd) (B : Bn mg) (hmin : mg "min" = none) (GR : FnOk P w K mg base (L2.CX P w) 6 fR fdR ["web", "place", "prices"] (spRate K CW CB CP)) (mR : mg "rate_at" = some (.ref fR)) (kR : PySem.W.keepIn K (.ref fR) = true) (bR : Binds K fdR ["web", "place", "prices"] [])
    (GH : FnOk P w K mg base (L2.CX P w) 6 fT fdT ["web", "place", "prices", "rate"] (spHts K CW)) (mH : mg "heights" = some (.ref fT)) (kH : PySem.W.keepIn K (.ref fT) = true) (bH : Binds K fdT ["web", "place", "prices", "rate"] [])
    (cU : C8.Cal P w K mg base 1 "undivided" (spUnd K) []) : FnOk P w K mg base (L2.CX P w) 7 f fd ["web", "place", "prices"] (spCrd K CW CB CP) := by
  refine F.okX scCrd (fun vs H Q E h => ?_) (fun cdv A outer s H vs Q E hr h => ?_)
  · obtain ⟨x, n, ss, v, u, rfl, _⟩ := h
    rfl
  · obtain ⟨x, n, ss, v, u, rfl, hw, wsm, h⟩ := h
    refine ⟨_, pss_cons (ps_set (i := 3) scCrd.nd rfl (Or.inl rfl) (pe_callS (E := WE fun cls d _ H => E cls d H) GR hr (by rfl) mR kR bR (fun σ => passAt (takes_of rfl rfl rfl rfl) σ) (pa_cons (pv 0) (pa_cons (pv 1) (pa_cons (pv 2) pa_nil)))))
      (pss_cons (ps_if (pt_cmp (pc_isN (pv 3))) (pss_one (ps_ret pe_non)) pss_nil)
      (pss_cons (ps_set (i := 4) scCrd.nd rfl (Or.inl rfl) (pe_callB (r := rMin K) (cr_min (by rfl)) (by rfl) hmin boot_min (pa_cons (pe_listVals (by rfl) (by rfl) B.list (pe_callS (E := WE fun cls d _ H => E cls d H) GH hr (by rfl) mH kH bH (fun σ => passAt (takes_of rfl rfl rfl rfl) σ) (pa_cons (pv 0) (pa_cons (pv 1) (pa_cons (pv 2) (pa_cons (pv 3) pa_nil)))))) pa_nil)))
      (pss_one (ps_ret (C8.pe_c cU hr (by decide) (by rfl) (pa_cons (pe_tup (pa_cons (pe_op op_sub pe_int (pv 4)) (pa_cons (pe_ix (r := rIxT K) ix_tup (pv 3) pe_int (fun _ _ => rfl)) pa_nil))) pa_nil)))))), ?_⟩
    refine ⟨_, rfl, _, rfl, _, rfl, x, n, ss, v, u, rfl, hw, wsm, ?_⟩
    rcases h with h | ⟨i, rfl, i0, i1, h⟩
    · exact .inl h
    refine .inr ⟨i, rfl, i0, i1, ?_⟩
    rcases h with h | ⟨a, pr, rfl, hs, p1, q1, s1, s2, k⟩
    · exact .inl h
    refine .inr ⟨a, pr, rfl, hs, p1, q1, s1, s2, fun H1 r e1 hR => ?_⟩
    have hU : i ∈ plcs n := plcs_mem.mpr ⟨i0, i1⟩
    have hUs : ∀ s ∈ ss, s.other ∈ plcs n := fun s hs => plcs_mem.mpr ⟨(wsm.ok s hs).t0, (wsm.ok s hs).t1⟩
    have hUz : (plcs n).length ≤ 63 := by rw [plcs_len]; have := wsm.n60; omega
    have ht : ∀ s ∈ ss, 1 ≤ s.ticks := fun s hs => (wsm.ok s hs).k
    have hch := cheap_ok (ss := ss) (p := i) (pr := pr) (U := plcs n) (t0F ss pr) ht t0F_dear t0F_nn hU hUs hUz
    cases hc : cheap ss i pr (t0F ss pr) with
    | none =>
      rw [hc] at hR k
      obtain rfl : r = .non := hR
      exact ⟨_, rfl, _, rfl, iteT (k H1 .non e1 rfl)⟩
    | some w0 =>
      rw [hc] at hR k hch
      obtain ⟨c1, c2, hcc⟩ : ∃ c1 c2, low [cSum pr w0, tSum w0] = [c1, c2] := ⟨_, _, rfl⟩
      obtain ⟨b1, b2, b3, b4, b5⟩ := rate_nn hch ht rfl hcc
      obtain ⟨q, rfl, q0, hq⟩ := hR
      rw [hcc] at hq
      have hwl := (hch.some' w0 rfl).1.len
      have htl := tSum_le w0 fun s hs => (wsm.sm s ((hch.some' w0 rfl).1.1.sub s hs)).k1
      have hssl := wsm.len
      refine ⟨_, rfl, _, rfl, iteF ?_⟩
      refine ⟨_, rfl, _, rfl, _, rfl, _, rfl, x, n, i, a, q, ss, pr, (c1, c2), rfl, ⟨hw.ex e1, wsm, i0, i1, hs.ex e1, p1, q1, s1, s2, SqT.of hq, b1, by show c2 < 1073741824; omega, b3⟩, no_ring hU hUs hUz b4, fun H2 v2 e2 hH => ?_⟩
      obtain ⟨dp, l, rfl, hdp, hnd, hgt, dp0⟩ := hH
      refine ⟨dp, _, rfl, hdp, fun L hL => ?_⟩
      have y3 := Ex.new (o := .lst ((smK l).map (·.2))) hL
      have j3 : upd H2 L (.lst ((smK l).map (·.2))) L = some (.lst ((smK l).map (·.2))) := upd_same
      generalize upd H2 L (.lst ((smK l).map (·.2))) = H3 at y3 j3 ⊢
      have hv : (smK l).map (·.2) = (l.map (·.2)).map V.int := by
        unfold smK
        rw [List.map_map, List.map_map]
        rfl
      rw [hv] at j3
      have hlen : 0 < (l.map (·.2)).length := by
        rw [List.length_map]
        refine List.length_pos_iff.mpr fun z => ?_
        have d1 := (dist_ok hU hUs hUz (no_ring hU hUs hUz b4) b4).1
        rw [← hgt, z] at d1
        cases d1
      refine ⟨L, l.map (·.2), rfl, SqL.of j3, hlen, fun m hm hle => ?_⟩
      have lw := least_ok hU hUs hUz b4 hnd hgt hm hle
      have e13 := e2.trans y3
      refine ⟨_, rfl, _, _, rfl, rfl, _, rfl, q, _, 1, .int c2, rfl, rfl, SqT.of (e13 _ _ hq), rfl, by show 2 ≤ sizeLine; decide, fun tb htb => ?_⟩
      have y4 := Ex.new (o := .tup [V.int (0 - m), V.int c2]) htb
      have f4 : upd H3 tb (.tup [V.int (0 - m), V.int c2]) tb = some (.tup [V.int (0 - m), V.int c2]) := upd_same
      generalize upd H3 tb (.tup [V.int (0 - m), V.int c2]) = H4 at y4 f4 ⊢
      have hg : gcs [0 - m, c2] ≤ c2.natAbs ∧ 0 < gcs [0 - m, c2] := by
        rw [gcs_two]
        exact ⟨Nat.gcd_le_right _ (by omega), Nat.gcd_pos_of_pos_right _ (by omega)⟩
      refine ⟨tb, [0 - m, c2], rfl, SqT.of f4, by show 2 ≤ 1000; decide, hg.2, by omega, fun H5 z e5 z0 hz => ?_⟩
      have e15 := e13.trans (y4.trans e5)
      exact k H5 (.ref z) (e1.trans e15) ⟨c1, c2, m, z, hcc, lw, rfl, fresh_back (e1.trans (e13.trans y4)) z0, hz⟩
end
end AA

set_option Elab.async false
set_option linter.all false
set_option maxRecDepth 100000
set_option maxHeartbeats 4000000
/-! The law's _law_place_right. -/
namespace AA
open PySem PySem.Spec PyProof.Rows L2 Evl
section
variable {P : Program} {w : World} {K : PySem.W.Frag} {mg : Str → Option Value} {base : Heap}
/-- rate_at, best_ring, credit where nothing is refused -/
def spRateY (K : PySem.W.Frag) (CW : Addr) : Sp := fun vs H Q _ => ∃ (x a : Addr) (n i : Int) (ss : List St5) (pr : Int × Int), vs = [.ref x, .int i, .ref a] ∧ WebAt K CW H x n ss ∧ WebSm n ss ∧ 0 ≤ i ∧ i < n ∧ SqA K H a [.int pr.1, .int pr.2] ∧ 1 ≤ pr.1 ∧ 1 ≤ pr.2 ∧ S64 pr.1 ∧ S64 pr.2 ∧
  ∀ (H' : Hp) (r : V), Ex H H' → RtR H H' r (rtR pr (cheap ss i pr (t0F ss pr))) → Q r H'
theorem rateY {CW CB CP : Addr} : ∀ vs H Q E, spRateY K CW vs H Q E → spRate K CW CB CP vs H Q E0 := fun vs H Q E ⟨x, a, n, i, ss, pr, e, h1, h2, h3, h4, h5, h6, h7, h8, h9, k⟩ => ⟨x, n, ss, .int i, .ref a, e, h1, h2, .inr ⟨i, rfl, h3, h4, .inr ⟨a, pr, rfl, h5, h6, h7, h8, h9, k⟩⟩⟩
def spBestY (K : PySem.W.Frag) (CW : Addr) : Sp := fun vs H Q _ => ∃ (x a : Addr) (n i : Int) (ss : List St5) (pr : Int × Int), vs = [.ref x, .int i, .ref a] ∧ WebAt K CW H x n ss ∧ WebSm n ss ∧ 0 ≤ i ∧ i < n ∧ SqA K H a [.int pr.1, .int pr.2] ∧ 1 ≤ pr.1 ∧ 1 ≤ pr.2 ∧ S64 pr.1 ∧ S64 pr.2 ∧
  ∀ (H' : Hp) (r : V), Ex H H' → RgR K H H' r (cheap ss i pr (t0F ss pr)) → Q r H'
theorem bestY {CW CB CP : Addr} : ∀ vs H Q E, spBestY K CW vs H Q E → spBest K CW CB CP vs H Q E0 := fun vs H Q E ⟨x, a, n, i, ss, pr, e, h1, h2, h3, h4, h5, h6, h7, h8, h9, k⟩ => ⟨x, n, ss, .int i, .ref a, e, h1, h2, .inr ⟨i, rfl, h3, h4, .inr ⟨a, pr, rfl, h5, h6, h7, h8, h9, k⟩⟩⟩
def spCrdY (K : PySem.W.Frag) (CW : Addr) : Sp := fun vs H Q _ => ∃ (x a : Addr) (n i : Int) (ss : List St5) (pr : Int × Int), vs = [.ref x, .int i, .ref a] ∧ WebAt K CW H x n ss ∧ WebSm n ss ∧ 0 ≤ i ∧ i < n ∧ SqA K H a [.int pr.1, .int pr.2] ∧ 1 ≤ pr.1 ∧ 1 ≤ pr.2 ∧ S64 pr.1 ∧ S64 pr.2 ∧
  ∀ (H' : Hp) (r : V), Ex H H' → CrdR H H' r ss i pr (cheap ss i pr (t0F ss pr)) → Q r H'
theorem crdY {CW CB CP : Addr} : ∀ vs H Q E, spCrdY K CW vs H Q E → spCrd K CW CB CP vs H Q E0 := fun vs H Q E ⟨x, a, n, i, ss, pr, e, h1, h2, h3, h4, h5, h6, h7, h8, h9, k⟩ => ⟨x, n, ss, .int i, .ref a, e, h1, h2, .inr ⟨i, rfl, h3, h4, .inr ⟨a, pr, rfl, h5, h6, h7, h8, h9, k⟩⟩⟩
theorem eqv_sts_nil : ∀ ws : List St5, PyData.eqv (.list (ws.map stD)) (.list []) = ws.isEmpty
  | [] => rfl
  | _ :: _ => rfl
theorem eqv_pair (i j : Int) : PyData.eqv (.tuple [.int i, .int j]) (.tuple [.int i, .int j]) = true := by
  have : PyData.eqv (.tuple [.int i, .int j]) (.tuple [.int i, .int j]) = ((i == i) && ((j == j) && true)) := rfl
  rw [this]
  simp
theorem smp_ahd {ss ts : List St5} {i : Int} {zs : List Int} (hm : ∀ s, s ∈ ts ↔ s ∈ ss) (hzs : ∀ v, v ∈ zs ↔ Rch (edg ss) [i] v) {L : List St5} {e : Int} : Smp (ahd ss zs) i L e ↔ Smp ts i L e := by
  have hmem : ∀ s, s ∈ ahd ss zs ↔ s ∈ ss ∧ s.one ∈ zs := fun s => by
    unfold ahd
    rw [List.mem_filter, decide_eq_true_eq]
  constructor
  · exact fun h => ⟨h.wk, fun s hs => (hm s).mpr ((hmem s).mp (h.sub s hs)).1, h.nd⟩
  · intro h
    have hss : ∀ s ∈ L, s ∈ ss := fun s hs => (hm s).mp (h.sub s hs)
    have hr := (walk_rch i L e h.wk hss i (.base (List.mem_singleton.mpr rfl))).1
    exact ⟨h.wk, fun s hs => (hmem s).mpr ⟨hss s hs, (hzs s.one).mpr (hr s hs)⟩, h.nd⟩
theorem flat_dp {K : PySem.W.Frag} {G : Hp} {ys : List V} {ws : List St5} (h : DpAll K G ys (ws.map stD)) : ∀ n : Nat, DpAll K G (List.replicate n ys).flatten ((List.replicate n ws).flatten.map stD)
  | 0 => .nil
  | n + 1 => by
    rw [List.replicate_succ, List.replicate_succ, List.flatten_cons, List.flatten_cons, List.map_append]
    exact dpa_app h (flat_dp h n)
theorem flat_sum {ws : List St5} (W : St5 → Int) (h : (ws.map W).sum = 0) : ∀ n : Nat, ((List.replicate n ws).flatten.map W).sum = 0
  | 0 => rfl
  | n + 1 => by
    rw [List.replicate_succ, List.flatten_cons, List.map_append, List.sum_append, h, flat_sum W h n]
    rfl
theorem flat_len {α : Type} {ws : List α} : ∀ n : Nat, (List.replicate n ws).flatten.length = n * ws.length
  | 0 => by simp
  | n + 1 => by
    rw [List.replicate_succ, List.flatten_cons, List.length_append, flat_len n, Nat.succ_mul]
    omega
theorem flat_mem {α : Type} {ws : List α} {n : Nat} {x : α} (h : x ∈ (List.replicate n ws).flatten) : x ∈ ws := by
  obtain ⟨l, h1, h2⟩ := List.mem_flatten.mp h
  rw [(List.mem_replicate.mp h1).2] at h2
  exact h2
def spPlR (K : PySem.W.Frag) (CW : Addr) : Sp := fun vs H Q _ => ∃ (a b : Addr) (m : Nat) (x g : Addr) (n i : Int) (us : List V) (ss ts : List St5), vs = [.ref a, .ref x, .ref g, .int i] ∧ SAt H a b m ∧ m < 700000000 ∧ WebAt K CW (hid a b H) x n ts ∧ WebSm n ts ∧ n ≤ 6 ∧ (∀ s, s ∈ ts ↔ s ∈ ss) ∧ SqL K (hid a b H) g us ∧ DpAll K (hid a b H) us (ss.map stD) ∧ ss.length ≤ 14 ∧ ts.length ≤ 14 ∧ 0 ≤ i ∧ i < n ∧
  ∀ H', ExS a b H H' → SAt H' a b (m + 1000) → Q (.bl true) H'
abbrev nmPl : List Str := ["_law_stream_here", "_law_web_here", "_law_steps", "_law_place", "_law_prices", "_law_ahead_here", "_law_rate", "_law_told", "_law_walk", "_law_least", "_law_tall", "_law_k", "_law_left_here", "_law_end"]
theorem scPl : FnScope nmPl ["_law_stream_here", "_law_web_here", "_law_steps", "_law_place"] (defScope sPlaceRight) := ⟨rfl, rfl, rfl, by decide +kernel, rfl, by decide +kernel, by decide +kernel⟩
theorem ok_plR {f fC CW C : Addr} {R : Addr → Addr → Hp → Prop} {fd ddC : FuncData} (F : L2.Fun K "_law_place_right" "_law_place_right" sPlaceRight f fd) (B : Bn mg) (hmin : mg "min" = none)
    (GC : FnOk P w K mg base CX0 7 fC ddC ["web", "place", "prices"] (spCrdY K CW)) (mC : mg "credit" = some (.ref fC)) (kC : PySem.W.keepIn K (.ref fC) = true) (kbC : KBinds K ddC ["web", "place", "prices"] ["prices", "place", "web"] revK revK)
    (cRt : C8.Cal P w K mg base 6 "rate_at" (spRateY K CW) []) (cCr : C8.Cal P w K mg base 7 "credit" (spCrdY K CW) []) (cBs : C8.Cal P w K mg base 5 "best_ring" (spBestY K CW) []) (cHt : C8.Cal P w K mg base 6 "heights" (spHts K CW) [])
    (cD : C8.Cal P w K mg base 1 "_law_draw" spDraw []) (cPk : C8.Cal P w K mg base 2 "_law_pick" (spPick K) []) (cAh : C8.Cal P w K mg base 2 "_law_ahead" (spLAh K) []) (cSi : C8.Cal P w K mg base 1 "_law_simple" (spLSim K) []) (cLf : C8.Cal P w K mg base 2 "_law_left" (spLLf K) [])
    (cLo : C8.Cal P w K mg base 2 "_law_low" (spUnd K) []) (cLg : C8.Cal P w K mg base 3 "_law_long_walk" (spLLg K) []) (cS : C8.Cal P w K mg base 10 "_law_same" (spSame K C R 7) []) : FnOk P w K mg base CX0 11 f fd ["_law_stream_here", "_law_web_here", "_law_steps", "_law_place"] (spPlR K CW) := by
  refine F.ok scPl (fun vs H Q E h => ?_) (fun cdv A outer s H vs Q E hr h => ?_)
  · obtain ⟨a, b, m, x, g, n, i, us, ss, ts, rfl, _⟩ := h
    rfl
  · obtain ⟨a, b, m, x, g, n, i, us, ss, ts, rfl, hS, hm, hX, wsm, hn, hmm, hg, hD, hsz, htz, i0, i1, k⟩ := h
    have hr7 : Room 7 (A.deeper (envOfC "_law_place_right" (defScope sPlaceRight) s.heap.objs.size f cdv)) := hr.mono (by decide)
    have hu1 : (A.deeper (envOfC "_law_place_right" (defScope sPlaceRight) s.heap.objs.size f cdv)).units + 1 < cLine := by have := hr.un; omega
    refine ⟨_, pss_cons (ps_set (i := 4) scPl.nd rfl (Or.inr rfl) (pe_tup (pa_cons (pe_op op_add pe_int (C8.pe_c cD hr (by decide) (by rfl) (pa_cons (pv 0) (pa_cons pe_int pa_nil)))) (pa_cons (pe_op op_add pe_int (C8.pe_c cD hr (by decide) (by rfl) (pa_cons (pv 0) (pa_cons pe_int pa_nil)))) pa_nil))))
      (pss_cons (ps_set (i := 5) scPl.nd rfl (Or.inl rfl) (C8.pe_c cAh hr (by decide) (by rfl) (pa_cons (pv 2) (pa_cons (pv 3) pa_nil))))
      (pss_cons (ps_asg (pe_tup (pa_cons (C8.pe_c cRt hr (by decide) (by rfl) (pa_cons (pv 1) (pa_cons (pv 3) (pa_cons (pv 4) pa_nil)))) (pa_cons (C8.pe_c cCr hr (by decide) (by rfl) (pa_cons (pv 1) (pa_cons (pv 3) (pa_cons (C8.pe_c cPk hr (by decide) (by rfl) (pa_cons (pv 0) (pa_cons (pe_lst (pa_cons (pv 4) (pa_cons (pe_callTy call_list_of (by rfl) B.list boot_list (pa_cons (pv 4) pa_nil)) pa_nil))) pa_nil))) pa_nil)))) pa_nil)))
          (pg_tup (n := 2) rfl (pgs_cons (pg_name (i := 6) scPl.nd rfl (Or.inr rfl)) (pgs_cons (pg_name (i := 7) scPl.nd rfl (Or.inl rfl)) pgs_nil))))
      (pss_cons (ps_if (pt_cmp (pc_isN (pv 6))) (pss_one (ps_ret (pe_and (pe_cmp (pc_isN (pv 7))) (pe_one (pe_cmp (pc_isN (pe_callK0 GC hr7 (by rfl) mC kC kbC pass0 (pk_cons (pv 4) (pk_cons (pv 3) (pk_cons (pv 1) pk_nil))))))))))
          pss_nil)
      (pss_cons (ps_set (i := 9) scPl.nd rfl (Or.inl rfl) (pe_callB (r := rMin K) (cr_min (by rfl)) (by rfl) hmin boot_min (pa_cons (pe_lc (own := [("_law_walk", 8)]) (g := gName 8) (tt := tYes) (by rfl) scPl.nd (pi_list (C8.pe_c cSi hr (by decide) (by rfl) (pa_cons (pv 5) (pa_cons (pv 3) pa_nil)))) (blkOk_by (N := nmPl) (sc := defScope sPlaceRight) (by decide +kernel))
          (fun _ _ _ _ _ => pg_name (i := 8) scPl.nd rfl (Or.inl rfl)) (fun _ _ _ _ _ => pts_nil) (fun _ _ _ _ _ => C8.pe_c cLf hr (by decide) (by rfl) (pa_cons (pv 8) (pa_cons (pv 4) (pa_cons (pv 6) pa_nil))))) pa_nil)))
      (Evl.pss_cut (ps_if (pt_not (pt_val (C8.pe_c cS hr (by decide) (by rfl) (pa_cons (pv 7) (pa_cons (pe_ifExp (pt_cmpR op_ne (pv 9) pe_int (nomark _)) (C8.pe_c cLo hr (by decide) (by rfl) (pa_cons (pe_tup (pa_cons (pe_op op_sub pe_int (pv 9)) (pa_cons (pe_ix (r := rIxT K) ix_tup (pv 6) pe_int (fun _ _ => rfl)) pa_nil))) pa_nil)) (pe_tup (pa_cons pe_int (pa_cons pe_int pa_nil)))) pa_nil))))) (pss_one (ps_ret pe_bl)) pss_nil)
      (pss_cons (ps_set (i := 10) scPl.nd rfl (Or.inl rfl) (C8.pe_c cHt hr (by decide) (by rfl) (pa_cons (pv 1) (pa_cons (pv 3) (pa_cons (pv 4) (pa_cons (pv 6) pa_nil))))))
      (Evl.pss_cut (ps_for PassesOwn.never rfl (pi_range1 (by rfl) B.range (pa_cons pe_int pa_nil)) (pg_name (i := 11) scPl.nd rfl (Or.inl rfl))
          (pss_cons (ps_set (i := 8) scPl.nd rfl (Or.inl rfl) (C8.pe_c cLg hr (by decide) (by rfl) (pa_cons (pv 0) (pa_cons (pv 5) (pa_cons (pv 3) (pa_cons (C8.pe_c cD hr (by decide) (by rfl) (pa_cons (pv 0) (pa_cons pe_int pa_nil))) (pa_cons (pv 11) pa_nil)))))))
          (Evl.pss_cut (ps_par (i := 12) (j := 13) (by rfl) scPl.nd rfl rfl (by decide) rfl rfl (pa_cons (C8.pe_c cLf hr (by decide) (by rfl) (pa_cons (pv 8) (pa_cons (pv 4) (pa_cons (pv 6) pa_nil)))) (pa_cons (pe_ifExp (pt_cmpR (op_neD hr.units) (pv 8) (pe_lst pa_nil) (nomark _)) (pe_ix (r := rIxT K) ix_tup (pe_ix (r := rIxL K) ix_list (pv 8) (pe_un un_neg pe_int) (fun _ _ => rfl)) pe_int (fun _ _ => rfl)) (pv 3)) pa_nil)) (by rfl))
          (pss_one (ps_if (PW.pt (pw_or (pt_cmpR op_lt (pe_op op_mul (pv 12) (pe_ix (r := rIxT K) ix_tup (pv 7) pe_int (fun _ _ => rfl))) (pe_op op_sub pe_int (pe_op op_mul (pe_ix (r := rIxT K) ix_tup (pv 7) pe_int (fun _ _ => rfl)) (pe_ix (r := rIxT K) ix_tup (pv 6) pe_int (fun _ _ => rfl)))) (nomark _))
              (pw_or1 (pt_cmpR op_lt (pv 12) (pe_op op_sub (pe_dget hu1 (pv 10) (pv 13) (fun _ _ => rfl)) (pe_dget hu1 (pv 10) (pv 3) (fun _ _ => rfl))) (nomark _))))) (pss_one (ps_ret pe_bl)) pss_nil)))))
      (pss_one (ps_ret (pe_cmpR op_eq (C8.pe_c cLf hr (by decide) (by rfl) (pa_cons (pe_op op_rep (C8.pe_c cBs hr (by decide) (by rfl) (pa_cons (pv 1) (pa_cons (pv 3) (pa_cons (pv 4) pa_nil)))) pe_int) (pa_cons (pv 4) (pa_cons (pv 6) pa_nil)))) pe_int (nomark _))))))))))), ?_⟩
    have i64 : ∀ z : Int, -100000 ≤ z → z ≤ 100000 → S64 z := fun z h1 h2 => by unfold S64; omega
    have wX : ∀ {G' : Hp}, ExS a b H G' → WebAt K CW G' x n ts := fun e => (hX.ex e).ex hid_ex
    have gG : ∀ {G' : Hp}, ExS a b H G' → SqL K G' g us := fun e => ex_l (Ex.trans e hid_ex) hg
    have dG : ∀ {G' : Hp}, ExS a b H G' → DpAll K G' us (ss.map stD) := fun e => dpa_ex (Ex.trans e hid_ex) _ _ hD
    -- prices
    refine ⟨_, rfl, a, b, m, 9, rfl, hS, by omega, by decide, by decide, fun H1 X e1 s1 X0 X1 => ?_⟩
    refine ⟨_, _, rfl, rfl, _, rfl, a, b, m + 1, 9, rfl, s1, by omega, by decide, by decide, fun H2 Y e2 s2 Y0 Y1 => ?_⟩
    refine ⟨_, _, rfl, rfl, by show 2 ≤ sizeLine; decide, fun p hp0 => ?_⟩
    have E2 : ExS a b H H2 := Ex.trans e1 e2
    have y3 := Ex.new (o := .tup [V.int (1 + X), V.int (1 + Y)]) hp0
    have hp : upd H2 p (.tup [V.int (1 + X), V.int (1 + Y)]) p = some (.tup [V.int (1 + X), V.int (1 + Y)]) := upd_same
    generalize upd H2 p (.tup [V.int (1 + X), V.int (1 + Y)]) = H3 at y3 hp ⊢
    have E3 : ExS a b H H3 := Ex.trans E2 (hid_mono y3)
    have s3 := s2.ex y3
    generalize hPX : 1 + X = PX at hp ⊢
    generalize hPY : 1 + Y = PY at hp ⊢
    have sX := i64 PX (by omega) (by omega)
    have sY := i64 PY (by omega) (by omega)
    have x1 : 1 ≤ PX := by omega
    have y1 : 1 ≤ PY := by omega
    have hU : i ∈ plcs n := plcs_mem.mpr ⟨i0, i1⟩
    have hUt : ∀ s ∈ ts, s.other ∈ plcs n := fun s hs => plcs_mem.mpr ⟨(wsm.ok s hs).t0, (wsm.ok s hs).t1⟩
    have hUz : (plcs n).length ≤ 63 := by rw [plcs_len]; omega
    have hssok : ∀ s ∈ ss, StOk n s := fun s hs => wsm.ok s ((hmm s).mpr hs)
    have hsssm : ∀ s ∈ ss, StSm s := fun s hs => wsm.sm s ((hmm s).mpr hs)
    -- ahead
    refine ⟨_, rfl, _, rfl, g, i, us, ss, plcs n, rfl, gG E3, dG E3, by omega, hU, fun s hs => hUt s ((hmm s).mpr hs), by omega, fun H4 pa ua zs e4 pa0 hpa hua hzs => ?_⟩
    have E4 : ExS a b H H4 := Ex.trans E3 (hid_mono e4)
    have s4 := s3.ex e4
    have hp4 := e4 _ _ hp
    -- the rate
    have hch := cheap_ok (ss := ts) (p := i) (pr := (PX, PY)) (U := plcs n) (t0F ts (PX, PY)) (fun s hs => (wsm.ok s hs).k) t0F_dear t0F_nn hU hUt hUz
    refine ⟨_, rfl, _, rfl, _, rfl, x, p, n, i, ts, (PX, PY), rfl, wX E4, wsm, i0, i1, .inr (SqT.of hp4), x1, y1, sX, sY, fun H5 r e5 hr5 => ?_⟩
    have E5 : ExS a b H H5 := Ex.trans E4 (hid_mono e5)
    have s5 := s4.ex e5
    have hp5 := e5 _ _ hp4
    -- the credit
    refine ⟨_, rfl, _, rfl, _, rfl, _, rfl, _, rfl, p, _, rfl, .inr (SqT.of hp5), fun pl hpl => ⟨by show 2 ≤ sizeLine; decide, fun L hL => ?_⟩⟩
    have z6 := Ex.new (o := .lst [V.int PX, V.int PY]) hpl
    have j6 : upd H5 pl (.lst [V.int PX, V.int PY]) pl = some (.lst [V.int PX, V.int PY]) := upd_same
    have pla := s5.nea hpl
    have plb := s5.neb hpl
    generalize upd H5 pl (.lst [V.int PX, V.int PY]) = H6 at z6 j6 hL ⊢
    have s6 := s5.ex z6
    have z7 := Ex.new (o := .lst [V.ref p, V.ref pl]) hL
    have j7 : upd H6 L (.lst [V.ref p, V.ref pl]) L = some (.lst [V.ref p, V.ref pl]) := upd_same
    have La := s6.nea hL
    have Lb := s6.neb hL
    generalize upd H6 L (.lst [V.ref p, V.ref pl]) = H7 at z7 j7 ⊢
    have s7 := s6.ex z7
    have z57 := z6.trans z7
    have E7 : ExS a b H H7 := Ex.trans E5 (hid_mono z57)
    refine ⟨a, b, _, L, [V.ref p, V.ref pl], rfl, s7, by omega, SqL.of (by rw [hid_ne La Lb]; exact j7), by show 0 < 2; decide, by show 2 < 1000000; decide, fun H8 ix z e8 s8 hix => ?_⟩
    have E8 : ExS a b H H8 := Ex.trans E7 e8
    have tup8 : ∀ {q : Addr} {xs : List V}, H5 q = some (.tup xs) → H8 q = some (.tup xs) := fun h => tps_le _ _ (tps_hid e8 s7 _ _ (tps_of (z57 _ _ h)))
    have hp8 := tup8 hp5
    obtain ⟨h, rfl, hh⟩ : ∃ h, z = V.ref h ∧ SqA K H8 h [V.int PX, V.int PY] := by
      match ix, hix with
      | 0, hix => exact ⟨p, (Option.some.inj hix).symm, .inr (SqT.of hp8)⟩
      | 1, hix => exact ⟨pl, (Option.some.inj hix).symm, .inl (SqL.of (e8.at (z7 _ _ j6) pla plb))⟩
      | ix + 2, hix => simp at hix
    refine ⟨x, h, n, i, ts, (PX, PY), rfl, wX E8, wsm, i0, i1, hh, x1, y1, sX, sY, fun H9 c e9 hc => ?_⟩
    have E9 : ExS a b H H9 := Ex.trans E8 (hid_mono e9)
    have s9 := s8.ex e9
    have hp9 := e9 _ _ hp8
    refine ⟨by show 2 ≤ sizeLine; decide, fun T hT => ⟨T, _, rfl, SqT.of upd_same, rfl, _, _, rfl, _, _, rfl, rfl, ?_⟩⟩
    have y10 := Ex.new (o := .tup [r, c]) hT
    generalize upd H9 T (.tup [r, c]) = HA at y10 ⊢
    have EA : ExS a b H HA := Ex.trans E9 (hid_mono y10)
    have sA := s9.ex y10
    have hpA := y10 _ _ hp9
    cases ho : cheap ts i (PX, PY) (t0F ts (PX, PY)) with
    | none =>
      rw [ho] at hr5 hc
      obtain rfl : r = .non := hr5
      obtain rfl : c = .non := hc
      refine ⟨_, rfl, _, rfl, iteT ?_⟩
      refine ⟨_, rfl, _, rfl, iteT ⟨_, rfl, _, rfl, _, rfl, x, p, n, i, ts, (PX, PY), rfl, wX EA, wsm, i0, i1, .inr (SqT.of hpA), x1, y1, sX, sY, fun HB v eB hv => ?_⟩⟩
      rw [ho] at hv
      obtain rfl : v = .non := hv
      exact k HB (Ex.trans EA (hid_mono eB)) ((sA.ex eB).mono (by omega))
    | some w0 =>
      rw [ho] at hr5 hc hch
      obtain ⟨c1, c2, mm, q, hcc, lw, rfl, q0, hq⟩ := hc
      obtain ⟨rq, rfl, rq0, hrq⟩ := hr5
      have hrqA : HA rq = some (.tup [V.int c1, V.int c2]) := by
        have h5 : H5 rq = some (.tup ((low [cSum (PX, PY) w0, tSum w0]).map V.int)) := hrq
        rw [hcc] at h5
        exact y10 _ _ (e9 _ _ (tup8 h5))
      have hqA := y10 _ _ hq
      obtain ⟨b1, b2, b3, b4, b5⟩ := rate_nn hch (fun s hs => (wsm.ok s hs).k) rfl hcc
      have hrf := (hch.some' w0 rfl).1
      have htl := tSum_le w0 fun s hs => (wsm.sm s (hrf.1.sub s hs)).k1
      have hwl := hrf.len
      have c2b : c2 ≤ 84 := by omega
      refine ⟨_, rfl, _, rfl, iteF ?_⟩
      -- the ahead steps stand
      have paH4 : hid a b H4 pa = some (.lst ua) := by
        rw [hid_ne (s3.nea pa0) (s3.neb pa0)]
        exact hpa
      have eA : ExS a b H4 HA := Ex.trans (hid_mono (e5.trans z57)) (Ex.trans e8 (hid_mono (e9.trans y10)))
      have hua4 : DpAll K (hid a b H4) ua ((ahd ss zs).map stD) := sts_hid s4 (dpa_ex e4 _ _ hua)
      have paS : ∀ {G : Hp}, ExS a b H4 G → hid a b G pa = some (.lst ua) := fun e => e _ _ paH4
      have uaS : ∀ {G : Hp}, ExS a b H4 G → DpAll K (hid a b G) ua ((ahd ss zs).map stD) := fun e => dpa_ex e _ _ hua4
      have asub : ∀ s ∈ ahd ss zs, s ∈ ss := fun s hs => by
        unfold ahd at hs
        exact (List.mem_filter.mp hs).1
      have alen : (ahd ss zs).length ≤ 14 := by
        unfold ahd
        exact Nat.le_trans (List.length_filter_le _ _) hsz
      -- all simple walks
      refine ⟨_, rfl, _, rfl, pa, i, ua, ahd ss zs, n, rfl, SqL.of (hid_ex _ _ (paS eA)), dpa_ex hid_ex _ _ (uaS eA), hn, fun s hs => hssok s (asub s hs), alen, fun HB Fo os ws eB Fo0 hFo hwy hfo hall hwl2 => ?_⟩
      have EB : ExS a b H HB := Ex.trans EA (hid_mono eB)
      have hos : DpAll K HB os (ws.map wkD) := WyL.dpa eB hwy
      have hol : os.length = ws.length := hwy.len
      refine ⟨Fo, rfl, ⟨_, SqL.of hFo⟩, fun D hD0 => ?_⟩
      refine lc_list (xs := os) (fun j G => Ex HB G ∧ G D = some (.lst (((ws.take j).map fun u => (u.map (wAb (PX, PY) (c1, c2))).sum).map V.int))) ⟨Ex.new hD0, upd_same⟩ (fun j G _ z => SqL.of (z.1 _ _ hFo)) ?_ ?_
      · rintro j v G hv ⟨q1, q2⟩
        obtain ⟨d, hd, hdx⟩ := dpa_get hos hv
        rw [List.getElem?_map] at hd
        obtain ⟨u, hu, rfl⟩ : ∃ u, ws[j]? = some u ∧ wkD u = d := by
          cases hw : ws[j]? with
          | none =>
            rw [hw] at hd
            cases hd
          | some u =>
            rw [hw] at hd
            exact ⟨u, rfl, Option.some.inj hd⟩
        have jl := (List.getElem?_eq_some_iff.mp hu).1
        have sf := hfo u (mem_of_get hu)
        have ul := sf.1.len
        have hut := tSum_le u fun s hs => (hsssm s (asub s (sf.1.sub s hs))).k1
        have hug := tSum_ge u fun s hs => (hssok s (asub s (sf.1.sub s hs))).k
        have hdx' := dp_ex q1 _ _ hdx
        unfold wkD at hdx'
        cases hdx' with
        | lst h1 h2 =>
        rename_i qd xd
        refine ⟨rfl, _, rfl, _, rfl, _, rfl, qd, p, rq, xd, u, (PX, PY), (c1, c2), rfl, h1, h2, by omega, ⟨[], .inr (SqT.of ((eB.trans q1) _ _ hpA))⟩, sX, sY, SqT.of ((eB.trans q1) _ _ hrqA), i64 _ (by show -100000 ≤ c2; omega) (by show c2 ≤ 100000; omega), i64 _ (by omega) (by omega), fun G2 e2' => ?_⟩
        refine ⟨_, e2' _ _ q2, by rw [List.length_map, List.length_map, List.length_take]; exact sz_m (by omega), (q1.trans e2').mut hD0, ?_⟩
        rw [upd_same, List.take_add_one, hu, List.map_append, List.map_append]
        rfl
      rintro HC ⟨eC, hDC⟩
      rw [hol, List.take_length] at hDC
      have EC : ExS a b H HC := Ex.trans EB (hid_mono eC)
      have eAC := eB.trans eC
      have sC := sA.ex eAC
      have hpC := eAC _ _ hpA
      have hrqC := eAC _ _ hrqA
      have hqC := eAC _ _ hqA
      have hnil : [] ∈ ws := hall [] i ⟨rfl, (fun s h => absurd h (by simp)), by simp⟩
      have hsa : ∀ {L : List St5} {e : Int}, Smp (ahd ss zs) i L e ↔ Smp ts i L e := fun {L e} => smp_ahd hmm hzs
      refine ⟨D, ws.map fun u => (u.map (wAb (PX, PY) (c1, c2))).sum, rfl, SqL.of hDC, by rw [List.length_map]; exact List.length_pos_of_mem hnil, fun m' hm' hle' => ?_⟩
      have lw' : LeastW (wAb (PX, PY) (c1, c2)) ts i m' := by
        obtain ⟨u, hu, hue⟩ := List.mem_map.mp hm'
        obtain ⟨_, e, he⟩ := hfo u hu
        refine ⟨⟨u, e, hsa.mp he, hue⟩, fun L e hL => hle' _ (List.mem_map.mpr ⟨L, hall L e (hsa.mpr hL), rfl⟩)⟩
      obtain rfl : mm = m' := lw.uniq lw'
      have c2pos : 1 ≤ c2 := b1
      -- the same
      refine ⟨fun σ G => σ = [some (.ref a), some (.ref x), some (.ref g), some (.int i), some (.ref p), some (.ref pa), some (.ref rq), some (.ref q), none, some (.int mm), none, none, none, none] ∧ Ex HC G, ?_, ?_⟩
      · refine ⟨_, rfl, _, rfl, rfl, _, rfl, ?_⟩
        rw [dec_int]
        by_cases hm0 : mm = 0
        · rw [decide_eq_true hm0]
          refine iteF ⟨by show 2 ≤ sizeLine; decide, fun t2 ht2 => ?_⟩
          have z := Ex.new (o := .tup [V.int 0, V.int 1]) ht2
          have e0 : low [0 - mm, c2] = [0, 1] := by rw [hm0]; exact low_zero b1
          have hq2 := z _ _ hqC
          rw [e0] at hq2
          exact ⟨.ref q, .ref t2, rfl, .inr (.inr (.inl ⟨q, t2, _, _, rfl, rfl, SqT.of hq2, SqT.of upd_same, .cons (.inl ⟨rfl, rfl⟩) (.cons (.inl ⟨rfl, rfl⟩) .nil), by show 2 ≤ 1000000; decide⟩)), fun HD eD => ⟨_, rfl, iteF ⟨rfl, z.trans eD⟩⟩⟩
        · rw [decide_eq_false hm0]
          refine iteT ⟨_, rfl, _, _, rfl, rfl, _, rfl, rq, _, 1, .int c2, rfl, rfl, SqT.of hrqC, rfl, by show 2 ≤ sizeLine; decide, fun t2 ht2 => ?_⟩
          have z := Ex.new (o := .tup [V.int (0 - mm), V.int c2]) ht2
          have f2 : upd HC t2 (.tup [V.int (0 - mm), V.int c2]) t2 = some (.tup [V.int (0 - mm), V.int c2]) := upd_same
          generalize upd HC t2 (.tup [V.int (0 - mm), V.int c2]) = HD at z f2 ⊢
          have hg2 : gcs [0 - mm, c2] ≤ c2.natAbs ∧ 0 < gcs [0 - mm, c2] := by
            rw [gcs_two]
            exact ⟨Nat.gcd_le_right _ (by omega), Nat.gcd_pos_of_pos_right _ (by omega)⟩
          refine ⟨t2, [0 - mm, c2], rfl, SqT.of f2, by show 2 ≤ 1000; decide, hg2.2, by omega, fun HE zz eE z0 hz => ?_⟩
          have hq2 := (z.trans eE) _ _ hqC
          obtain ⟨l1, l2, hll⟩ : ∃ l1 l2, low [0 - mm, c2] = [l1, l2] := ⟨_, _, rfl⟩
          rw [hll] at hq2 hz
          exact ⟨.ref q, .ref zz, rfl, .inr (.inr (.inl ⟨q, zz, _, _, rfl, rfl, SqT.of hq2, SqT.of hz, .cons (.inl ⟨rfl, rfl⟩) (.cons (.inl ⟨rfl, rfl⟩) .nil), by show 2 ≤ 1000000; decide⟩)), fun HF eF => ⟨_, rfl, iteF ⟨rfl, z.trans (eE.trans eF)⟩⟩⟩
      rintro σ HD ⟨rfl, eCD⟩
      have ED : ExS a b H HD := Ex.trans EC (hid_mono eCD)
      have sD := sC.ex eCD
      have hpD := eCD _ _ hpC
      have hrqD := eCD _ _ hrqC
      have hqD := eCD _ _ hqC
      have nr := no_ring hU hUt hUz b4
      obtain ⟨d1, d2, d3, _⟩ := dist_ok hU hUt hUz nr b4
      -- heights
      refine ⟨_, rfl, _, rfl, _, rfl, _, rfl, x, n, i, p, rq, ts, (PX, PY), (c1, c2), rfl, ⟨wX ED, wsm, i0, i1, .inr (SqT.of hpD), x1, y1, sX, sY, SqT.of hrqD, b1, by show c2 < 1073741824; omega, b3⟩, nr, fun HE v eE hH => ?_⟩
      obtain ⟨dp, l, rfl, hdp, hnd, hgt, dp0⟩ := hH
      have EE : ExS a b H HE := Ex.trans ED (hid_mono eE)
      have sE := sD.ex eE
      have hpE := eE _ _ hpD
      have hrqE := eE _ _ hrqD
      have hqE := eE _ _ hqD
      have dpa' := sD.nea dp0
      have dpb' := sD.neb dp0
      obtain ⟨gg, n', d', gg0, hnd', hn1, hn2, hd1, hd2⟩ := low_pair (c := 0 - mm) (t := c2) b1
      rw [hnd'] at hqE
      have eAE : Ex HA HE := eAC.trans (eCD.trans eE)
      refine ⟨fun σ G => ∃ (x8 x11 x12 x13 : Option V), σ = [some (.ref a), some (.ref x), some (.ref g), some (.int i), some (.ref p), some (.ref pa), some (.ref rq), some (.ref q), x8, some (.int mm), some (.ref dp), x11, x12, x13] ∧ ExS a b HE G ∧ SAt G a b (m + 1000), ?_, ?_⟩
      · refine ⟨(4 : Int), rfl, by decide, by decide, for_range (lo := 0) (n := ((4 : Int)).toNat) (fun j σ G => ∃ (x8 x11 x12 x13 : Option V), σ = [some (.ref a), some (.ref x), some (.ref g), some (.int i), some (.ref p), some (.ref pa), some (.ref rq), some (.ref q), x8, some (.int mm), some (.ref dp), x11, x12, x13] ∧ ExS a b HE G ∧ SAt G a b (m + 10 + 130 * j)) ⟨_, _, _, _, rfl, ExS.rfl, sE.mono (by omega)⟩ ?_ (fun σ G ⟨x8, x11, x12, x13, h1, h2, h3⟩ => ⟨x8, x11, x12, x13, h1, h2, h3.mono (by show m + 10 + 130 * 4 ≤ m + 1000; omega)⟩)⟩
        rintro j σ G hj ⟨x8, x11, x12, x13, rfl, eG, sG⟩
        have hj4 : j < 4 := hj
        refine ⟨_, rfl, _, rfl, _, rfl, _, rfl, a, b, m + 10 + 130 * j, 61, rfl, sG, by omega, by decide, by decide, fun G1 cc e1' s1' cc0 cc1 => ?_⟩
        have eG1 : ExS a b HE G1 := Ex.trans eG e1'
        have e4G1 : ExS a b H4 G1 := Ex.trans eA (Ex.trans (hid_mono eAE) eG1)
        refine ⟨_, rfl, a, b, m + 10 + 130 * j + 1, pa, i, cc, 0 + (j : Int), ua, ahd ss zs, rfl, s1', by omega, SqL.of (paS e4G1), uaS e4G1, alen, fun s hs => ⟨(sm_64 (hsssm s (asub s hs)) (hssok s (asub s hs))).1, (sm_64 (hsssm s (asub s hs)) (hssok s (asub s hs))).2.1⟩, cc0, by omega, fun G2 pw yw wk e2' s2' pw0 hpw hyw hwk hsub hwl => ?_⟩
        have eG2 : ExS a b HE G2 := Ex.trans eG1 e2'
        have tupG : ∀ {G : Hp} {z : Addr} {xs : List V}, ExS a b HE G → HE z = some (.tup xs) → G z = some (.tup xs) := fun e h => tps_le _ _ (tps_hid e sE _ _ (tps_of h))
        have wkt : ∀ s ∈ wk, s ∈ ts := fun s hs => (hmm s).mpr (asub s (hsub s hs))
        have hut := tSum_le wk fun s hs => (wsm.sm s (wkt s hs)).k1
        have hug := tSum_ge wk fun s hs => (wsm.ok s (wkt s hs)).k
        have c2s : S64 c2 := i64 _ (by omega) (by omega)
        -- what is left
        refine ⟨fun σ G' => ∃ (ev : Int), σ = [some (.ref a), some (.ref x), some (.ref g), some (.int i), some (.ref p), some (.ref pa), some (.ref rq), some (.ref q), some (.ref pw), some (.int mm), some (.ref dp), some (.int (0 + (j : Int))), some (.int (wk.map (wAb (PX, PY) (c1, c2))).sum), some (.int ev)] ∧ Wlk5 i wk ev ∧ Ex G2 G', ?_, ?_⟩
        · refine ⟨_, rfl, _, rfl, _, rfl, pw, p, rq, yw, wk, (PX, PY), (c1, c2), rfl, SqL.of hpw, hyw, by omega, ⟨[], .inr (SqT.of (tupG eG2 hpE))⟩, sX, sY, SqT.of (tupG eG2 hrqE), c2s, i64 _ (by omega) (by omega), fun G3 e3' => ?_⟩
          refine ⟨_, rfl, Nat.zero_le _, fun l1 hl1 => ?_⟩
          have z := Ex.new (o := .lst []) hl1
          have hyw4 := dpa_ex (e3'.trans z) _ _ hyw
          refine ⟨.list (wk.map stD), .list [], .lst (SqL.of ((e3'.trans z) _ _ hpw)) hyw4, .lst (SqL.of upd_same) .nil, stDs_shaped _, rfl, _, rfl, ?_⟩
          rw [eqv_sts_nil]
          obtain ⟨ev, hev⟩ := hwk
          by_cases hwe : wk = []
          · have hwi : wk.isEmpty = true := by rw [hwe]; rfl
            rw [hwi]
            refine iteF ⟨_, rfl, ?_⟩
            refine ⟨_, _, rfl, i, rfl, by rw [hwe]; rfl, e3'.trans z⟩
          · obtain ⟨wk0, t, rfl⟩ : ∃ wk0 t, wk = wk0 ++ [t] := by
              rcases List.eq_nil_or_concat wk with h | ⟨L0, s, h⟩
              · exact absurd h hwe
              · exact ⟨L0, s, by rw [h, List.concat_eq_append]⟩
            have hwi : (wk0 ++ [t]).isEmpty = false := by simp
            rw [hwi]
            refine iteT ?_
            obtain ⟨tb, htb, htD⟩ := last_at hyw4 (t := t) (by rw [List.getLast?_append]; rfl)
            obtain ⟨_, tu, et, htu, _⟩ := stD_inv htD
            cases et
            refine ⟨_, rfl, _, rfl, pw, _, (-1 : Int), _, rfl, rfl, SqL.of ((e3'.trans z) _ _ hpw), htb, tb, _, 1, .int t.other, rfl, rfl, htu, rfl, ?_⟩
            obtain ⟨bb, k1, k2⟩ := (wlk5_app i wk0 [t] ev).mp hev
            have hto : t.other = ev := k2.2
            refine ⟨_, _, rfl, t.other, rfl, by rw [hto]; exact hev, e3'.trans z⟩
        rintro σ G4 ⟨ev, rfl, hev, e24⟩
        have eG4 : ExS a b HE G4 := Ex.trans eG2 (hid_mono e24)
        have hq4 := tupG eG4 hqE
        have hrq4 := tupG eG4 hrqE
        have hdp4 := eG4.at hdp dpa' dpb'
        obtain ⟨y, hy, hyl⟩ := feas_walk d2 i wk ev 0 hev wkt d1
        generalize hSS : (wk.map (wAb (PX, PY) (c1, c2))).sum = SS at hyl ⊢
        have hms : mm ≤ SS := by
          obtain ⟨M, hM, hle⟩ := smp_le b4 wk.length wk ev rfl hev wkt
          have := lw.2 M ev hM
          omega
        refine ⟨_, rfl, _, rfl, q, _, 1, .int d', rfl, rfl, SqT.of hq4, rfl, _, _, rfl, rfl, .inr ⟨by omega, by omega⟩, ?_⟩
        refine ⟨_, rfl, q, _, 0, .int n', rfl, rfl, SqT.of hq4, rfl, _, rfl, rq, _, 1, .int c2, rfl, rfl, SqT.of hrq4, rfl, _, _, rfl, rfl, .inr c2s, ?_⟩
        refine ⟨_, _, rfl, rfl, _, _, rfl, rfl, _, rfl, ?_⟩
        have key : ¬ (SS * d' < 0 - n' * c2) := by
          have h1 : n' * c2 = (0 - mm) * d' := by
            rw [hn1, hn2]
            simp only [Int.mul_assoc, Int.mul_comm, Int.mul_left_comm]
          have h2 : mm * d' ≤ SS * d' := Int.mul_le_mul_of_nonneg_right hms (by omega)
          have h3 : (0 - mm) * d' = 0 - mm * d' := by rw [Int.sub_mul, Int.zero_mul]
          omega
        refine dec_ite (fun z => absurd z key) (fun _ => ?_)
        have gy : DGet G4 dp (.int ev) (some (.int y)) := by
          have := DGet.k (k := Sum.inl ev) hdp4
          rw [smK_val, hgt, hy] at this
          exact this
        have g0 : DGet G4 dp (.int i) (some (.int 0)) := by
          have := DGet.k (k := Sum.inl i) hdp4
          rw [smK_val, hgt, d1] at this
          exact this
        refine ⟨_, rfl, _, rfl, _, rfl, dp, .int y, rfl, gy, _, rfl, _, rfl, dp, .int 0, rfl, g0, _, _, rfl, rfl, _, _, rfl, rfl, _, rfl, ?_⟩
        refine dec_ite (fun z => by omega) (fun _ => ?_)
        exact ⟨_, _, _, _, rfl, eG4, (s2'.ex e24).mono (by omega)⟩
      rintro σ HF ⟨x8, x11, x12, x13, rfl, eEF, sF⟩
      have EF : ExS a b H HF := Ex.trans EE eEF
      have tupF : ∀ {z : Addr} {xs : List V}, HE z = some (.tup xs) → HF z = some (.tup xs) := fun h => tps_le _ _ (tps_hid eEF sE _ _ (tps_of h))
      have hpF := tupF hpE
      have hrqF := tupF hrqE
      refine ⟨_, rfl, _, rfl, _, rfl, x, p, n, i, ts, (PX, PY), rfl, wX EF, wsm, i0, i1, .inr (SqT.of hpF), x1, y1, sX, sY, fun HG v eG hv => ?_⟩
      rw [ho] at hv
      obtain ⟨rp, yr, rfl, rp0, hrp, hyr⟩ := hv
      have yrl := sts_len hyr
      refine ⟨rp, 7, yr, rfl, rfl, hrp, by decide, by decide, sz_le (by show yr.length * 7 ≤ 1000000; omega), fun R7 hR7 => ?_⟩
      have z7' := Ex.new (o := .lst (List.replicate (7 : Int).toNat yr).flatten) hR7
      have j7' : upd HG R7 (.lst (List.replicate (7 : Int).toNat yr).flatten) R7 = some (.lst (List.replicate (7 : Int).toNat yr).flatten) := upd_same
      generalize upd HG R7 (.lst (List.replicate (7 : Int).toNat yr).flatten) = HI at z7' j7' ⊢
      have eFI := eG.trans z7'
      have hl7 : (List.replicate 7 w0).flatten.length = 7 * w0.length := flat_len 7
      have ht7 := tSum_le (List.replicate 7 w0).flatten fun s hs => (wsm.sm s (hrf.1.sub s (flat_mem hs))).k1
      have ht7' := tSum_ge (List.replicate 7 w0).flatten fun s hs => (wsm.ok s (hrf.1.sub s (flat_mem hs))).k
      refine ⟨_, rfl, _, rfl, R7, p, rq, _, (List.replicate 7 w0).flatten, (PX, PY), (c1, c2), rfl, SqL.of j7', flat_dp (dpa_ex z7' _ _ hyr) 7, by omega, ⟨[], .inr (SqT.of (eFI _ _ hpF))⟩, sX, sY, SqT.of (eFI _ _ hrqF), i64 _ (by show -100000 ≤ c2; omega) (by show c2 ≤ 100000; omega), i64 _ (by omega) (by omega), fun HJ eJ => ?_⟩
      rw [flat_sum (wAb (PX, PY) (c1, c2)) b5 7]
      refine ⟨rfl, ?_⟩
      exact k HJ (Ex.trans EF (hid_mono (eFI.trans eJ))) (sF.ex (eFI.trans eJ))
end
end AA

set_option Elab.async false
set_option linter.all false
set_option maxRecDepth 100000
set_option maxHeartbeats 4000000
/-! law. -/
namespace AA
open PySem PySem.Spec PyProof.Rows L2 Evl
section
variable {P : Program} {w : World} {K : PySem.W.Frag} {mg : Str → Option Value} {base : Heap}
def spLaw05 (K : PySem.W.Frag) (T : List (Addr × Str)) : Sp := fun vs H Q _ => ∃ (s : Addr) (ns : List Int), vs = [.ref s] ∧ SqL K H s (ns.map V.int) ∧ ns.length ≤ 63 ∧ LamX.Tabs T H ∧ ∀ H', Q (.bl true) H'
abbrev nmL : List Str := ["_law_script", "_law_stream_here", "_law_turn", "_law_places", "_law_steps", "_law_web_here", "_law_odd", "_law_place"]
theorem scL : FnScope nmL ["_law_script"] (defScope sLaw) := ⟨rfl, rfl, rfl, by decide +kernel, rfl, by decide +kernel, by decide +kernel⟩
theorem ok_law05 {f fD fI fC C CP CS CD CY g fd_ fy_ c PT : Addr} {fd fdI ddC fdg : FuncData} {T : List (Addr × Str)} (F : FunC K "law" sLaw f fd c) (B : Bn mg) (TB : LamX.TabB base mg c PT) (hT : (PT, (("law" : Str) ++ ".<locals>.") ++ "<lambda>") ∈ T) (hu : ∀ p ∈ T, p.1 = PT → p.2 = (("law" : Str) ++ ".<locals>.") ++ "<lambda>")
    (TR : TrP K mg CD CY g fd_ fy_ fdg) (TW : WebTxt K mg C) (M : Mk K C fI) (GI : FnOk P w K mg base CX0 5 fI fdI ["self", "places", "steps"] (spWebI0 K C CP CS)) (bI : Binds K fdI ["self", "places", "steps"] [])
    (IC : InsK K C) (hCi : PySem.W.kitOne K (.ref C) (.type "int") = some false)
    (GC : FnOk P w K mg base (L2.CX P w) 7 fC ddC ["web", "place", "prices"] (spCrd K C CD CY)) (mC : mg "credit" = some (.ref fC)) (kC : PySem.W.keepIn K (.ref fC) = true) (bC : Binds K ddC ["web", "place", "prices"] [])
    (mD : mg "_law_draw" = some (.ref fD)) (vD : FnV K fD)
    (cSt : C8.Cal P w K mg base 1 "_law_stream" (spStream K) []) (cWb : C8.Cal P w K mg base 5 "_law_web" (spWeb K) []) (cP : C8.Cal P w K mg base 11 "_law_place_right" (spPlR K C) []) (cS : C8.Cal P w K mg base 10 "_law_same" (spSame K C (WbR K C) 7) []) :
    FnOk P w K mg base CX0 12 f fd ["_law_script"] (spLaw05 K T) := by
  obtain ⟨oc, od, kV, doc, pm, an, ct, osl, rfl, lk, hcd⟩ := F.ex
  refine fn_of lk hcd scL (fun vs H Q E h => ?_) fun A outer s H vs Q E hr h => ?_
  · obtain ⟨s, ns, rfl, _⟩ := h
    rfl
  suffices go : ∃ t, PSs (cxOf CX0 P w K mg base nmL "law" (defScope sLaw) f (.ref c) A outer s H E).nox (defBody sLaw) t ∧ t { nx := fun _ H' => Q .non H', rt := Q } (L2.start nmL vs) H from let ⟨t, h1, h2⟩ := go; ⟨t, h1.nox, h2⟩
  · obtain ⟨s0, ns, rfl, hS0, hns, hT0, k⟩ := h
    have hr6 : Room 6 (A.deeper (envOfC "law" (defScope sLaw) s.heap.objs.size f (.ref c))) := hr.mono (by decide)
    have hr9 : Room 9 (A.deeper (envOfC "law" (defScope sLaw) s.heap.objs.size f (.ref c))) := hr.mono (by decide)
    refine ⟨_, pss_cons (ps_set (i := 1) scL.nd rfl (Or.inr rfl) (C8.pe_c cSt hr (by decide) (by rfl) (pa_cons (pv 0) pa_nil)))
      (pss_cons (ps_for PassesOwn.never rfl (pi_range1 (by rfl) B.range (pa_cons pe_int pa_nil)) (pg_name (i := 2) scL.nd rfl (Or.inl rfl))
        (pss_cons (ps_asg (C8.pe_c cWb hr (by decide) (by rfl) (pa_cons (pv 1) (pa_cons pe_int (pa_cons pe_int pa_nil)))) (pg_tup (n := 2) rfl (pgs_cons (pg_name (i := 3) scL.nd rfl (Or.inl rfl)) (pgs_cons (pg_name (i := 4) scL.nd rfl (Or.inr rfl)) pgs_nil))))
        (pss_cons (ps_set (i := 5) scL.nd rfl (Or.inr rfl) (pe_make M GI hr6 (by rfl) TW.mgC bI .nil pass0 (pa_cons (pv 3) (pa_cons (pv 4) pa_nil))))
        (Evl.pss_cut (ps_if (pt_not (pt_val (pe_callB (r := rAll K) (cr_all (by rfl)) (by rfl) B.all boot_all (pa_cons (pe_lc (own := [("_law_place", 7)]) (g := gName 7) (tt := tYes) (by rfl) scL.nd (pi_range1 (by rfl) B.range (pa_cons (pv 3) pa_nil)) (blkOk_by (N := nmL) (sc := defScope sLaw) (by decide +kernel)) (fun _ _ _ _ _ => pg_name (i := 7) scL.nd rfl (Or.inl rfl)) (fun _ _ _ _ _ => pts_nil)
              (fun _ _ _ _ _ => C8.pe_c cP hr (by decide) (by rfl) (pa_cons (pv 1) (pa_cons (pv 5) (pa_cons (pv 4) (pa_cons (pv 7) pa_nil)))))) pa_nil)))) (pss_one (ps_ret pe_bl)) pss_nil)
        (Evl.pss_cut (ps_for PassesOwn.never rfl (pi_list (pe_lst (pa_cons pe_non (pa_cons pe_int (pa_cons pe_str (pa_cons (pe_tup (pa_cons pe_int pa_nil)) (pa_cons (pe_tup (pa_cons pe_int (pa_cons pe_int pa_nil))) (pa_cons (pe_tup (pa_cons pe_bl (pa_cons pe_int pa_nil)))
            (pa_cons (pe_tup (pa_cons pe_int (pa_cons pe_int (pa_cons pe_int pa_nil)))) (pa_cons pe_dnewK (pa_cons (pe_glob (v := .ref fD) (by rfl) mD rfl) (pa_cons (pv 5) pa_nil)))))))))))) (pg_name (i := 6) scL.nd rfl (Or.inr rfl))
            (pss_one (ps_if (pt_not (pt_val (C8.pe_c cS hr (by decide) (by rfl) (pa_cons (pe_triedB (q0 := ("law" : Str) ++ ".<locals>.") (k := 7) rfl rfl rfl TR TB hT hu (by rfl) rfl rfl hr9 (LamX.lamS_by (by rfl)) rfl (fun _ _ _ _ _ => rfl) (fun _ _ _ _ _ _ _ hr' => pe_call GC hr' (by rfl) mC kC bC .nil (passes_call (takes_of rfl rfl rfl rfl) fun _ _ _ _ z => z) (pa_cons (pv 5) (pa_cons pe_int (pa_cons (pv 6) pa_nil)))))
              (pa_cons (pe_tup (pa_cons pe_str (pa_cons (pv 6) pa_nil))) pa_nil))))) (pss_one (ps_ret pe_bl)) pss_nil)))
        (pss_one (ps_for PassesOwn.never rfl (pi_list (pe_lst (pa_cons pe_non (pa_cons (pe_un un_neg pe_int) (pa_cons (pv 3) (pa_cons pe_bl (pa_cons pe_str (pa_cons (pe_tup (pa_cons pe_int pa_nil)) (pa_cons (pe_lst pa_nil) (pa_cons pe_dnewK (pa_cons (pv 5) pa_nil))))))))))) (pg_name (i := 6) scL.nd rfl (Or.inr rfl))
            (pss_one (ps_if (pt_not (pt_val (C8.pe_c cS hr (by decide) (by rfl) (pa_cons (pe_triedB (q0 := ("law" : Str) ++ ".<locals>.") (k := 7) rfl rfl rfl TR TB hT hu (by rfl) rfl rfl hr9 (LamX.lamS_by (by rfl)) rfl (fun _ _ _ _ _ => rfl) (fun _ _ _ _ _ _ _ hr' => pe_call GC hr' (by rfl) mC kC bC .nil (passes_call (takes_of rfl rfl rfl rfl) fun _ _ _ _ z => z) (pa_cons (pv 5) (pa_cons (pv 6) (pa_cons pe_non pa_nil)))))
              (pa_cons (pe_tup (pa_cons pe_str (pa_cons (pv 6) pa_nil))) pa_nil))))) (pss_one (ps_ret pe_bl)) pss_nil)))))))))
      (pss_one (ps_ret pe_bl))), ?_⟩
    refine ⟨_, rfl, s0, ns, rfl, hS0, hns, fun H0 a b e0 ha hb hst => ?_⟩
    refine ⟨(5 : Int), rfl, by decide, by decide, for_range (lo := 0) (n := ((5 : Int)).toNat) (fun i σ G => ∃ (x2 x3 x4 x5 x6 : Option V), σ = [some (.ref s0), some (.ref a), x2, x3, x4, x5, x6, none] ∧ ∃ m, m ≤ 1000000 * i ∧ SAt G a b m ∧ LamX.Tabs T G) ?_ ?_ ?_⟩
    · exact ⟨none, none, none, none, none, rfl, 0, Nat.le_refl _, hst, hT0.ext e0⟩
    case refine_3 =>
      rintro σ G ⟨x2, x3, x4, x5, x6, rfl, m, hm, hSG, hTG⟩
      exact k G
    rintro i σ G hi ⟨x2, x3, x4, x5, x6, rfl, m, hm, hSG, hTG⟩
    have hi5 : i < 5 := hi
    -- the web's steps
    refine ⟨_, rfl, a, b, m, 6, 14, rfl, hSG, by omega, by decide, by decide, by decide, by decide, fun H2 p l kk vs ss e2 s2 hp0 hl0 hp hl hD hWb hk6 hlen => ?_⟩
    refine ⟨p, _, rfl, SqT.of hp, rfl, _, _, rfl, _, _, rfl, rfl, ?_⟩
    have t2 := tabs_S hTG hSG e2
    have hsz : ss.length ≤ 14 := by omega
    -- the web
    refine ⟨_, rfl, _, rfl, fun x dx x0 dx0 ne => web_good x0 dx0 hWb.n1 rfl (.inl (SqL.of hl)) (rdall_st (dpa_ex tps_le _ _ hD) hWb.ok) hWb.nd (by omega) fun H6 lw ts e6 hW lw0 pm srs => ⟨rfl, ?_⟩⟩
    have s6 := s2.ex e6
    have t6 := t2.ext e6
    have hWS := hW.hidS s6 (s2.nea x0) (s2.neb x0) (s2.nea lw0) (s2.neb lw0)
    have lA : l ≠ a := hSG.nea hl0
    have lB : l ≠ b := hSG.neb hl0
    have bX : WebL K C (nt (hid a b H6)) x lw kk ts := hWS.nt
    have bl : nt (hid a b H6) l = some (.lst vs) := nt_of (by rw [hid_ne lA lB]; exact e6 _ _ hl) fun ps z => nomatch z
    have bD : DpAll K (nt (hid a b H6)) vs (ss.map stD) := dpa_nt _ _ (dpa_ex ((tps_in s2).trans (hid_mono e6)) _ _ hD)
    have tmem : ∀ s, s ∈ ts ↔ s ∈ ss := fun s => pm.mem_iff
    have htok : ∀ s ∈ ts, StOk kk s := fun s hs => hWb.ok s ((tmem s).mp hs)
    have htsm : ∀ s ∈ ts, StSm s := fun s hs => hWb.sm s ((tmem s).mp hs)
    have htz : ts.length ≤ 14 := by rw [pm.length_eq]; exact hsz
    have wsm : WebSm kk ts := ⟨by omega, htok, htsm, by omega⟩
    have hk0 : 0 < kk := by have := hWb.n1; omega
    have r0 : RS T a b H6 (m + 20000) H6 := ⟨Ex.refl _, s6, t6⟩
    have Wat : ∀ {k : Nat} {G : Hp}, RS T a b H6 k G → WebAt K C G x kk ts := fun r => (bX.ex r.at).at
    -- the places
    refine ⟨fun σ G => ∃ (m7 : Nat), σ = [some (.ref s0), some (.ref a), some (.int (0 + (i : Int))), some (.int kk), some (.ref l), some (.ref x), x6, none] ∧ m7 ≤ m + 30000 ∧ RS T a b H6 m7 G, ?_, ?_⟩
    · refine ⟨_, rfl, kk, rfl, by omega, by omega, fun D hD0 => ?_⟩
      have Da := s6.nea hD0
      have Db := s6.neb hD0
      refine lc_range (lo := 0) (n := kk.toNat) (fun j G => ExS a b H6 G ∧ SAt G a b (m + 20000 + 1000 * j) ∧ G D = some (.lst ((List.replicate j true).map V.bl))) ⟨ExS.own ExS.rfl hD0 Da Db, s6.upd Da Db, upd_same⟩ ?_ ?_
      · rintro j G hj ⟨q1, q2, q3⟩
        have rj := r0.go q1 q2
        have eS : Ex (nt (hid a b H6)) (hid a b G) := Ex.trans rj.e nt_le
        refine ⟨rfl, _, rfl, _, rfl, _, rfl, _, rfl, a, b, m + 20000 + 1000 * j, x, l, kk, 0 + (j : Int), vs, ss, ts, rfl, q2, by omega, (bX.ex eS).at, wsm, hk6, tmem, SqL.of (eS _ _ bl), dpa_ex eS _ _ bD, hsz, htz, by omega, by omega, fun G' e' s' => ?_⟩
        refine ⟨_, e'.at q3 Da Db, by rw [List.length_map, List.length_replicate]; exact sz_m (by omega), ExS.own (Ex.trans q1 e') hD0 Da Db, (s'.upd Da Db), ?_⟩
        rw [upd_same, List.replicate_succ', List.map_append]
        rfl
      · rintro G1 ⟨q1, q2, q3⟩
        refine ⟨D, _, rfl, SqL.of q3, _, rfl, ?_⟩
        rw [show (List.replicate kk.toNat true).all id = true from List.all_eq_true.mpr fun z hz => by rw [List.eq_of_mem_replicate hz]; rfl]
        refine iteF ⟨_, rfl, ?_, r0.go q1 q2⟩
        have : kk.toNat ≤ 6 := by omega
        omega
    rintro σ G7 ⟨m7, rfl, hm7, r7⟩
    -- what is no prices
    refine ⟨fun σ G => ∃ (x6 : Option V), σ = [some (.ref s0), some (.ref a), some (.int (0 + (i : Int))), some (.int kk), some (.ref l), some (.ref x), x6, none] ∧ RS T a b H6 m7 G, ?_, ?_⟩
    case refine_1 =>
      refine ⟨by show 1 ≤ sizeLine; decide, fun tb htb => ?_⟩
      have ytb := Ex.new (o := .tup [V.int 1]) htb
      have jtb : upd G7 tb (.tup [V.int 1]) tb = some (.tup [V.int 1]) := upd_same
      generalize upd G7 tb (.tup [V.int 1]) = AG71 at ytb jtb ⊢
      have ctb := ytb
      refine ⟨by show 2 ≤ sizeLine; decide, fun tc htc => ?_⟩
      have ytc := Ex.new (o := .tup [V.int 1, V.int 0]) htc
      have jtc : upd AG71 tc (.tup [V.int 1, V.int 0]) tc = some (.tup [V.int 1, V.int 0]) := upd_same
      generalize upd AG71 tc (.tup [V.int 1, V.int 0]) = AG72 at ytc jtc ⊢
      have ctc := ctb.trans ytc
      refine ⟨by show 2 ≤ sizeLine; decide, fun tf htf => ?_⟩
      have ytf := Ex.new (o := .tup [V.bl true, V.int 1]) htf
      have jtf : upd AG72 tf (.tup [V.bl true, V.int 1]) tf = some (.tup [V.bl true, V.int 1]) := upd_same
      generalize upd AG72 tf (.tup [V.bl true, V.int 1]) = AG73 at ytf jtf ⊢
      have ctf := ctc.trans ytf
      refine ⟨by show 3 ≤ sizeLine; decide, fun th hth => ?_⟩
      have yth := Ex.new (o := .tup [V.int 1, V.int 2, V.int 3]) hth
      have jth : upd AG73 th (.tup [V.int 1, V.int 2, V.int 3]) th = some (.tup [V.int 1, V.int 2, V.int 3]) := upd_same
      generalize upd AG73 th (.tup [V.int 1, V.int 2, V.int 3]) = AG74 at yth jth ⊢
      have cth := ctf.trans yth
      refine fun ti hti => ?_
      have yti := Ex.new (o := .dK []) hti
      have jti : upd AG74 ti (.dK []) ti = some (.dK []) := upd_same
      generalize upd AG74 ti (.dK []) = AG75 at yti jti ⊢
      have cti := cth.trans yti
      refine ⟨_, rfl, by show 10 ≤ sizeLine; decide, fun tj htj => ?_⟩
      generalize hLs : ([V.non, V.int 5, V.str "12", V.ref tb, V.ref tc, V.ref tf, V.ref th, V.ref ti, V.ref fD, V.ref x] : List V) = Ls
      have ytj := Ex.new (o := .lst Ls) htj
      have jtj : upd AG75 tj (.lst Ls) tj = some (.lst Ls) := upd_same
      generalize upd AG75 tj (.lst Ls) = AG76 at ytj jtj ⊢
      have ctj := cti.trans ytj
      have stj : Ex AG76 AG76 := Ex.refl _
      have sti := ytj.trans stj
      have sth := yti.trans sti
      have stf := yth.trans sth
      have stc := ytf.trans stf
      have stb := ytc.trans stc
      have btb : nt (hid a b AG76) tb = some (.tup [V.int 1]) := nt_of (by rw [hid_ne (r7.s.nea htb) (r7.s.neb htb)]; exact stb _ _ jtb) fun ps z => nomatch z
      have btc : nt (hid a b AG76) tc = some (.tup [V.int 1, V.int 0]) := nt_of (by rw [hid_ne (r7.s.nea (fresh_back ctb htc)) (r7.s.neb (fresh_back ctb htc))]; exact stc _ _ jtc) fun ps z => nomatch z
      have btf : nt (hid a b AG76) tf = some (.tup [V.bl true, V.int 1]) := nt_of (by rw [hid_ne (r7.s.nea (fresh_back ctc htf)) (r7.s.neb (fresh_back ctc htf))]; exact stf _ _ jtf) fun ps z => nomatch z
      have bth : nt (hid a b AG76) th = some (.tup [V.int 1, V.int 2, V.int 3]) := nt_of (by rw [hid_ne (r7.s.nea (fresh_back ctf hth)) (r7.s.neb (fresh_back ctf hth))]; exact sth _ _ jth) fun ps z => nomatch z
      have bti : nt (hid a b AG76) ti = some (.dK []) := nt_of (by rw [hid_ne (r7.s.nea (fresh_back cth hti)) (r7.s.neb (fresh_back cth hti))]; exact sti _ _ jti) fun ps z => nomatch z
      have btj : nt (hid a b AG76) tj = some (.lst Ls) := nt_of (by rw [hid_ne (r7.s.nea (fresh_back cti htj)) (r7.s.neb (fresh_back cti htj))]; exact stj _ _ jtj) fun ps z => nomatch z
      have ruA := r7.ex ctj
      have odd : ∀ o ∈ Ls, NoPr K (nt (hid a b AG76)) o ∧ Self6 K C (nt (hid a b AG76)) o := fun o ho => by
        rw [← hLs] at ho
        simp only [List.mem_cons, List.not_mem_nil, or_false] at ho
        rcases ho with rfl | rfl | rfl | rfl | rfl | rfl | rfl | rfl | rfl | rfl
        · exact ⟨nopr_dp (d := .none) .non rfl, self_dp (d := .none) .non rfl (by decide)⟩
        · exact ⟨nopr_dp (d := .int 5) (.int 5) rfl, self_int⟩
        · exact ⟨nopr_dp (d := .str _) (.str _) rfl, self_dp (d := .str _) (.str _) (by decide +kernel) (by show 0 < 6; decide)⟩
        · exact ⟨nopr_len (.inr (SqT.of btb)) (by decide), self_dp (d := .tuple [.int 1]) (.tup (SqT.of btb) (.cons (.int 1) .nil)) rfl (by decide)⟩
        · exact ⟨nopr_low (.inr (SqT.of btc)) (by decide), self_dp (d := .tuple [.int 1, .int 0]) (.tup (SqT.of btc) (.cons (.int 1) (.cons (.int 0) .nil))) rfl (by decide)⟩
        · exact ⟨nopr_0 (.inr (SqT.of btf)) (ni_dp (d := .bool true) (.bl true) rfl), self_dp (d := .tuple [.bool true, .int 1]) (.tup (SqT.of btf) (.cons (.bl true) (.cons (.int 1) .nil))) rfl (by decide)⟩
        · exact ⟨nopr_len (.inr (SqT.of bth)) (by decide), self_dp (d := .tuple [.int 1, .int 2, .int 3]) (.tup (SqT.of bth) (.cons (.int 1) (.cons (.int 2) (.cons (.int 3) .nil)))) rfl (by decide)⟩
        · exact ⟨nopr_lk (lk_dict bti), self_dict bti⟩
        · exact ⟨nopr_lk (lk_fnv vD), self_fn vD⟩
        · exact ⟨nopr_lk (let ⟨_, _, _, h1, _, _⟩ := bX.ex ruA.e; lk_ins IC h1), self_web (bX.ex ruA.e)⟩
      have rA : RS T a b AG76 m7 AG76 := ⟨Ex.refl _, ruA.s, ruA.t⟩
      have up : ∀ {k : Nat} {G : Hp}, RS T a b AG76 k G → RS T a b H6 k G := fun r => ⟨Ex.trans ruA.e r.e, r.s, r.t⟩
      refine ⟨tj, rfl, ⟨_, SqL.of jtj⟩, ?_⟩
      refine for_list (K := K) (a := tj) (xs := Ls) (fun j σ G => ∃ (x6 : Option V), σ = [some (.ref s0), some (.ref a), some (.int (0 + (i : Int))), some (.int kk), some (.ref l), some (.ref x), x6, none] ∧ RS T a b AG76 m7 G) ⟨_, rfl, rA⟩ (fun j σ G _ ⟨_, _, r⟩ => SqL.of (r.at _ _ btj)) ?_ ?_
      · rintro j o σ G ho ⟨x6', rfl, rG⟩
        obtain ⟨ob, oS⟩ := odd o (mem_of_get ho)
        refine ⟨rG.t, fun B1 eN1 t1 => ?_⟩
        have r1 := rG.N eN1 t1
        refine ⟨_, rfl, _, rfl, x, kk, ts, .int 0, o, rfl, Wat (up r1), wsm, .inr ⟨0, rfl, by omega, by omega, .inl ⟨NoPr.ex ob r1.at, fun B2 dd e2 h0 h1 => .inr ⟨rfl, dd, o, rfl, h1, fun q1 hq1 => ?_⟩⟩⟩⟩
        have v3 := Ex.new (o := .tup [V.str "prices", o]) hq1
        have i3 : upd B2 q1 (.tup [V.str "prices", o]) q1 = some (.tup [V.str "prices", o]) := upd_same
        generalize upd B2 q1 (.tup [V.str "prices", o]) = B3 at v3 i3 ⊢
        have r3 := r1.ex (e2.trans v3)
        refine ⟨_, rfl, by show 2 ≤ sizeLine; decide, fun w1 hw1 => ?_⟩
        have v9 := Ex.new (o := .tup [V.str "prices", o]) hw1
        have i9 : upd B3 w1 (.tup [V.str "prices", o]) w1 = some (.tup [V.str "prices", o]) := upd_same
        generalize upd B3 w1 (.tup [V.str "prices", o]) = B9 at v9 i9 ⊢
        have r9 := r3.ex v9
        have sS : Sm K C (WbR K C) B9 6 (.str "prices") (.str "prices") := .inl ⟨rfl, by decide +kernel⟩
        refine ⟨.ref q1, .ref w1, rfl, .inr (.inr (.inl ⟨q1, w1, _, _, rfl, rfl, SqT.of (v9 _ _ i3), SqT.of i9, .cons sS (.cons (oS _ r9.at) .nil), by show 2 ≤ 1000000; decide⟩)), fun B12 e12 => ⟨_, rfl, iteF ?_⟩⟩
        exact ⟨_, rfl, r9.ex e12⟩
      · rintro σ G ⟨x6', rfl, rG⟩
        exact ⟨_, rfl, up rG⟩
    rintro σ G8 ⟨x6', rfl, r8⟩
    refine ⟨_, rfl, _, rfl, by show 1 ≤ sizeLine; decide, fun pa hpa => ?_⟩
    have ypa := Ex.new (o := .tup [V.int 0]) hpa
    have jpa : upd G8 pa (.tup [V.int 0]) pa = some (.tup [V.int 0]) := upd_same
    generalize upd G8 pa (.tup [V.int 0]) = AG81 at ypa jpa ⊢
    have cpa := ypa
    refine ⟨Nat.zero_le _, fun pb hpb => ?_⟩
    have ypb := Ex.new (o := .lst []) hpb
    have jpb : upd AG81 pb (.lst []) pb = some (.lst []) := upd_same
    generalize upd AG81 pb (.lst []) = AG82 at ypb jpb ⊢
    have cpb := cpa.trans ypb
    refine fun pc hpc => ?_
    have ypc := Ex.new (o := .dK []) hpc
    have jpc : upd AG82 pc (.dK []) pc = some (.dK []) := upd_same
    generalize upd AG82 pc (.dK []) = AG83 at ypc jpc ⊢
    have cpc := cpb.trans ypc
    refine ⟨_, rfl, by show 9 ≤ sizeLine; decide, fun pd hpd => ?_⟩
    generalize hLp : ([V.non, V.int (-1), V.int kk, V.bl true, V.str "0", V.ref pa, V.ref pb, V.ref pc, V.ref x] : List V) = Lp
    have ypd := Ex.new (o := .lst Lp) hpd
    have jpd : upd AG83 pd (.lst Lp) pd = some (.lst Lp) := upd_same
    generalize upd AG83 pd (.lst Lp) = AG84 at ypd jpd ⊢
    have cpd := cpc.trans ypd
    have spd : Ex AG84 AG84 := Ex.refl _
    have spc := ypd.trans spd
    have spb := ypc.trans spc
    have spa := ypb.trans spb
    have bpa : nt (hid a b AG84) pa = some (.tup [V.int 0]) := nt_of (by rw [hid_ne (r8.s.nea hpa) (r8.s.neb hpa)]; exact spa _ _ jpa) fun ps z => nomatch z
    have bpb : nt (hid a b AG84) pb = some (.lst []) := nt_of (by rw [hid_ne (r8.s.nea (fresh_back cpa hpb)) (r8.s.neb (fresh_back cpa hpb))]; exact spb _ _ jpb) fun ps z => nomatch z
    have bpc : nt (hid a b AG84) pc = some (.dK []) := nt_of (by rw [hid_ne (r8.s.nea (fresh_back cpb hpc)) (r8.s.neb (fresh_back cpb hpc))]; exact spc _ _ jpc) fun ps z => nomatch z
    have bpd : nt (hid a b AG84) pd = some (.lst Lp) := nt_of (by rw [hid_ne (r8.s.nea (fresh_back cpc hpd)) (r8.s.neb (fresh_back cpc hpd))]; exact spd _ _ jpd) fun ps z => nomatch z
    have ruB := r8.ex cpd
    have oddp : ∀ o ∈ Lp, NoPlc K (nt (hid a b AG84)) kk o ∧ Self6 K C (nt (hid a b AG84)) o := fun o ho => by
      rw [← hLp] at ho
      simp only [List.mem_cons, List.not_mem_nil, or_false] at ho
      rcases ho with rfl | rfl | rfl | rfl | rfl | rfl | rfl | rfl | rfl
      · exact ⟨.inl (ni_dp (d := .none) .non rfl), self_dp (d := .none) .non rfl (by decide)⟩
      · exact ⟨.inr ⟨_, rfl, .inl (by decide)⟩, self_int⟩
      · exact ⟨.inr ⟨_, rfl, .inr (Int.le_refl _)⟩, self_int⟩
      · exact ⟨.inl (ni_dp (d := .bool true) (.bl true) rfl), self_dp (d := .bool true) (.bl true) rfl (by decide)⟩
      · exact ⟨.inl (ni_dp (d := .str _) (.str _) rfl), self_dp (d := .str _) (.str _) (by decide +kernel) (by show 0 < 6; decide)⟩
      · exact ⟨.inl (ni_dp (d := .tuple [.int 0]) (.tup (SqT.of bpa) (.cons (.int 0) .nil)) rfl), self_dp (d := .tuple [.int 0]) (.tup (SqT.of bpa) (.cons (.int 0) .nil)) rfl (by decide)⟩
      · exact ⟨.inl (ni_dp (d := .list []) (.lst (SqL.of bpb) .nil) rfl), self_dp (d := .list []) (.lst (SqL.of bpb) .nil) rfl (by decide)⟩
      · exact ⟨.inl (ni_dict bpc), self_dict bpc⟩
      · exact ⟨.inl (let ⟨_, _, _, h1, _, _⟩ := bX.ex ruB.e; ni_ins IC hCi h1), self_web (bX.ex ruB.e)⟩
    have rB : RS T a b AG84 m7 AG84 := ⟨Ex.refl _, ruB.s, ruB.t⟩
    have upB : ∀ {k : Nat} {G : Hp}, RS T a b AG84 k G → RS T a b H6 k G := fun r => ⟨Ex.trans ruB.e r.e, r.s, r.t⟩
    refine ⟨pd, rfl, ⟨_, SqL.of jpd⟩, ?_⟩
    refine for_list (K := K) (a := pd) (xs := Lp) (fun j σ G => ∃ (x6 : Option V), σ = [some (.ref s0), some (.ref a), some (.int (0 + (i : Int))), some (.int kk), some (.ref l), some (.ref x), x6, none] ∧ RS T a b AG84 m7 G) ⟨_, rfl, rB⟩ (fun j σ G _ ⟨_, _, r⟩ => SqL.of (r.at _ _ bpd)) ?_ ?_
    · rintro j o σ G ho ⟨x6', rfl, rG⟩
      obtain ⟨ob, oS⟩ := oddp o (mem_of_get ho)
      refine ⟨rG.t, fun B1 eN1 t1 => ?_⟩
      have r1 := rG.N eN1 t1
      refine ⟨_, rfl, _, rfl, x, kk, ts, o, .non, rfl, Wat (upB r1), wsm, .inl ⟨NoPlc.ex ob r1.at, fun B2 dd e2 h0 h1 => .inl ⟨rfl, dd, o, rfl, h1, fun q1 hq1 => ?_⟩⟩⟩
      have v3 := Ex.new (o := .tup [V.str "place", o]) hq1
      have i3 : upd B2 q1 (.tup [V.str "place", o]) q1 = some (.tup [V.str "place", o]) := upd_same
      generalize upd B2 q1 (.tup [V.str "place", o]) = B3 at v3 i3 ⊢
      have r3 := r1.ex (e2.trans v3)
      refine ⟨_, rfl, by show 2 ≤ sizeLine; decide, fun w1 hw1 => ?_⟩
      have v9 := Ex.new (o := .tup [V.str "place", o]) hw1
      have i9 : upd B3 w1 (.tup [V.str "place", o]) w1 = some (.tup [V.str "place", o]) := upd_same
      generalize upd B3 w1 (.tup [V.str "place", o]) = B9 at v9 i9 ⊢
      have r9 := r3.ex v9
      have sS : Sm K C (WbR K C) B9 6 (.str "place") (.str "place") := .inl ⟨rfl, by decide +kernel⟩
      refine ⟨.ref q1, .ref w1, rfl, .inr (.inr (.inl ⟨q1, w1, _, _, rfl, rfl, SqT.of (v9 _ _ i3), SqT.of i9, .cons sS (.cons (oS _ r9.at) .nil), by show 2 ≤ 1000000; decide⟩)), fun B12 e12 => ⟨_, rfl, iteF ?_⟩⟩
      exact ⟨_, rfl, r9.ex e12⟩
    · rintro σ G ⟨x6', rfl, rG⟩
      exact ⟨_, _, _, _, _, rfl, m7, by omega, rG.s, rG.t⟩
end
end AA

set_option Elab.async false
set_option linter.all false
set_option maxRecDepth 100000
set_option maxHeartbeats 4000000
/-! All that stands behind the top. -/
namespace AA
open PySem PySem.Spec PyProof.Rows L2 Evl
/-- a def of the module as it stands behind the top -/
structure GFn (K : PySem.W.Frag) (x : Str) (st : Stmt) (f : Addr) (fd : FuncData) : Prop where
  a : PySem.W.nsIn K mainGlobals x = some (some (.ref f))
  F : L2.Fun K x x st f fd
theorem gfn {K : PySem.W.Frag} {x : Str} {st : Stmt} {f : Addr} {oc : Value} {od an : Option Addr} {osl : Array (Option Value)} {kV doc pm cdv ct : Value} (a : PySem.W.nsIn K mainGlobals x = some (some (.ref f)))
    (l : K.lookup f = some ⟨oc, od, .func (PySem.W.fnOf x x (defArgs st) (defBody st) (defScope st) .none kV doc pm an cdv ct), osl⟩) (c : PySem.W.codeIn K cdv x = true) (k : PySem.W.keepIn K (.ref f) = true) : ∃ f fd, GFn K x st f fd := ⟨_, _, a, fun_mk (st := st) l c k⟩
theorem gfnc {K : PySem.W.Frag} {x : Str} {st : Stmt} {f : Addr} {od an : Option Addr} {osl : Array (Option Value)} {kV doc pm cdv ct : Value} (a : PySem.W.nsIn K mainGlobals x = some (some (.ref f)))
    (l : K.lookup f = some ⟨.type "function", od, .func (PySem.W.fnOf x x (defArgs st) (defBody st) (defScope st) .none kV doc pm an cdv ct), osl⟩) (c : PySem.W.codeIn K cdv x = true) (k : PySem.W.keepIn K (.ref f) = true) : ∃ f fd, GFn K x st f fd ∧ FnV K f := ⟨_, _, ⟨a, fun_mk (st := st) l c k⟩, _, _, _, l⟩
structure MFn (K : PySem.W.Frag) (C : Addr) (x q : Str) (st : Stmt) (f : Addr) (fd : FuncData) : Prop where
  a : PySem.W.findIn K (.ref C) x = some (some (.ref f))
  i : PySem.W.isFn K (.ref f) = true
  F : L2.Fun K x q st f fd
theorem mfn {K : PySem.W.Frag} {C : Addr} {x q : Str} {st : Stmt} {f : Addr} {oc : Value} {od an : Option Addr} {osl : Array (Option Value)} {kV doc pm cdv ct : Value} (a : PySem.W.findIn K (.ref C) x = some (some (.ref f))) (i : PySem.W.isFn K (.ref f) = true)
    (l : K.lookup f = some ⟨oc, od, .func (PySem.W.fnOf x q (defArgs st) (defBody st) (defScope st) .none kV doc pm an cdv ct), osl⟩) (c : PySem.W.codeIn K cdv q = true) (k : PySem.W.keepIn K (.ref f) = true) : ∃ f fd, MFn K C x q st f fd := ⟨_, _, a, i, fun_mk (st := st) l c k⟩
structure BnK (K : PySem.W.Frag) : Prop where
  abs : PySem.W.nsIn K mainGlobals "abs" = some none
  int : PySem.W.nsIn K mainGlobals "int" = some none
  len : PySem.W.nsIn K mainGlobals "len" = some none
  list : PySem.W.nsIn K mainGlobals "list" = some none
  tuple : PySem.W.nsIn K mainGlobals "tuple" = some none
  dict : PySem.W.nsIn K mainGlobals "dict" = some none
  bool : PySem.W.nsIn K mainGlobals "bool" = some none
  range : PySem.W.nsIn K mainGlobals "range" = some none
  enumerate : PySem.W.nsIn K mainGlobals "enumerate" = some none
  isinstance : PySem.W.nsIn K mainGlobals "isinstance" = some none
  all : PySem.W.nsIn K mainGlobals "all" = some none
  zip : PySem.W.nsIn K mainGlobals "zip" = some none
  sorted : PySem.W.nsIn K mainGlobals "sorted" = some none
  max : PySem.W.nsIn K mainGlobals "max" = some none
  sum : PySem.W.nsIn K mainGlobals "sum" = some none
  repr : PySem.W.nsIn K mainGlobals "repr" = some none
  min : PySem.W.nsIn K mainGlobals "min" = some none
  st : PySem.W.nsIn K mainGlobals "set" = some none
  rev : PySem.W.nsIn K mainGlobals "reversed" = some none
  gcd : PySem.W.nsIn K mainGlobals "gcd" = some (some (.builtin "math.gcd"))
/-- what stands of a class of the program -/
structure ClsK (K : PySem.W.Frag) (C : Addr) (nm : Str) : Prop where
  aC : PySem.W.nsIn K mainGlobals nm = some (some (.ref C))
  pg : PySem.W.plainGet K C Str.empty = true
  hd : PySem.W.hasDictIn K C = true
  po : PySem.W.plainOver K C = true
  sa : PySem.W.findIn K (.ref C) "__setattr__" = some (some (.builtin "object.__setattr__"))
  mkc : PySem.W.makesIn K C = true
  kc : PySem.W.keepIn K (.ref C) = true
  ha : PySem.W.findIn K (.ref C) "__class__" = some (some (.builtin "object.__class__"))
  hn : PySem.W.specialIn K (.builtin "object.__class__") "__get__" = some (some (.builtin "getset_descriptor.__get__"))
  ht : PySem.W.takesIn K (.builtin "object.__class__") = some true
  hm : PySem.W.mroIn K C (.type "object") = some true
  n1 : PySem.W.kitAny K (.ref C) [.type "list", .type "tuple"] = some false
  n2 : PySem.W.kitOne K (.ref C) (.type "dict") = some false
  n3 : PySem.W.kitOne K (.ref C) (.type "bool") = some false
  n4 : PySem.W.kitAny K (.ref C) [.type "list", .type "tuple", .type "dict"] = some false
  cc : PySem.W.kitOne K (.ref C) (.ref C) = some true
  ne : PySem.W.findIn K (.ref C) "__ne__" = some (some (.builtin "object.__ne__"))
  ni : PySem.W.kitOne K (.ref C) (.type "int") = some false
structure WebN (K : PySem.W.Frag) (C : Addr) : Prop where
  nP : PySem.W.findIn K (.ref C) "_places" = some none
  nS : PySem.W.findIn K (.ref C) "_steps" = some none
  nK : PySem.W.findIn K (.ref C) "known" = some none
structure BadK (K : PySem.W.Frag) (x m : Str) (CB fI : Addr) : Prop where
  gC : PySem.W.nsIn K mainGlobals x = some (some (.ref CB))
  ox : OexC K CB
  xf : XfC K CB
  no : PySem.W.findIn K (.ref CB) m = some none
  tC : PySem.W.typeIn K (.ref fI) = some (.type "function")
/-- a def that makes lambdas -/
structure LFn (K : PySem.W.Frag) (x : Str) (st : Stmt) (f : Addr) (fd : FuncData) (c PT : Addr) : Prop where
  a : PySem.W.nsIn K mainGlobals x = some (some (.ref f))
  L : FunC K x st f fd c
  F : L2.Fun K x x st f fd
  hd : PySem.W.codeHdIn K c PT = true
theorem lfn {K : PySem.W.Frag} {x : Str} {st : Stmt} {f c PT : Addr} {oc : Value} {od an : Option Addr} {osl : Array (Option Value)} {kV doc pm ct : Value} (a : PySem.W.nsIn K mainGlobals x = some (some (.ref f)))
    (l : K.lookup f = some ⟨oc, od, .func (PySem.W.fnOf x x (defArgs st) (defBody st) (defScope st) .none kV doc pm an (.ref c) ct), osl⟩) (hc : PySem.W.codeIn K (.ref c) x = true) (k : PySem.W.keepIn K (.ref f) = true) (hd : PySem.W.codeHdIn K c PT = true) :
    ∃ f fd c, LFn K x st f fd c PT := ⟨_, _, _, a, ⟨⟨_, _, _, _, _, _, _, _, rfl, l, hc⟩, k⟩, fun_mk (st := st) l hc k, hd⟩
/-- less is promised than is kept -/
theorem fn_imp {P : Program} {w : World} {K : PySem.W.Frag} {mg : Str → Option Value} {base : Heap} {CX : CXT} {k : Nat} {f : Addr} {fd : FuncData} {ps : List Str} {sp sp' : Sp} (G : FnOk P w K mg base CX k f fd ps sp) (h : ∀ vs H Q E, sp' vs H Q E → sp vs H Q E) : FnOk P w K mg base CX k f fd ps sp' :=
  ⟨fun vs H Q E z => G.len vs H Q E (h _ _ _ _ z), fun A outer s H args us vs Q E hr e0 hb r z => G.run A outer s H args us vs Q E hr e0 hb r (h _ _ _ _ z)⟩
theorem eq_web {P : Program} {w : World} {K : PySem.W.Frag} {mg : Str → Option Value} {base : Heap} {f C : Addr} {fd : FuncData} (GE : FnOk P w K mg base CX0 1 f fd ["self", "other"] (spEqV K C)) : FnOk P w K mg base CX0 2 f fd ["self", "other"] (spEq (WbR K C)) :=
  fn_imp (GE.mono (by decide)) fun vs H Q E h => by
    obtain ⟨a, b, rfl, ⟨rfl, n, ss, hp⟩, k⟩ := h
    refine ⟨a, .ref a, n, ss, rfl, hp, .inr ⟨a, n, ss, rfl, hp, fun H' e => ?_⟩⟩
    rw [decide_eq_true (rfl : n = n), decide_eq_true (rfl : ss = ss)]
    exact k H' e
theorem all_mk {l : PySem.W.OpenLaw} {w : World} {K : PySem.W.Frag} {h : Heap} {mg : Str → Option Value} {fa C CP CS CD CY CF P2 : Addr} (X : K.In h) (G : h.Ns mainGlobals mg) (hfa : mg "law" = some (.ref fa)) (t2 : h.get? P2 = some { cls := .none, data := .fields #[] }) (n2 : K.lookup P2 = none)
    (bk : BnK K) (cw : ClsK K C "Web") (wn : WebN K C) (ex : ExmK K CD CY)
    (hsIsInteger : ∃ f fd, GFn K "is_integer" sIsInteger f fd)
    (hsIsList : ∃ f fd, GFn K "is_list" sIsList f fd)
    (hsIsIntegers : ∃ f fd, GFn K "is_integers" sIsIntegers f fd)
    (hsUndivided : ∃ f fd, GFn K "undivided" sUndivided f fd)
    (hsReadFraction : ∃ f fd, GFn K "read_fraction" sReadFraction f fd)
    (hsCheckedFraction : ∃ f fd, GFn K "checked_fraction" sCheckedFraction f fd)
    (hsCheckedPrices : ∃ f fd, GFn K "checked_prices" sCheckedPrices f fd)
    (hsCheckPlace : ∃ f fd, GFn K "check_place" sCheckPlace f fd)
    (hsRingBack : ∃ f fd, GFn K "ring_back" sRingBack f fd)
    (hsLowered : ∃ f fd, GFn K "lowered" sLowered f fd)
    (hsLeastSums : ∃ f fd, GFn K "least_sums" sLeastSums f fd)
    (hsSumsOrRing : ∃ f fd, GFn K "sums_or_ring" sSumsOrRing f fd)
    (hsCostOf : ∃ f fd, GFn K "cost_of" sCostOf f fd)
    (hsWeightsAbove : ∃ f fd, GFn K "weights_above" sWeightsAbove f fd)
    (hsRowAlong : ∃ f fd, GFn K "row_along" sRowAlong f fd)
    (hsCheapestRing : ∃ f fd, GFn K "cheapest_ring" sCheapestRing f fd)
    (hsReadStep : ∃ f fd, GFn K "read_step" sReadStep f fd)
    (hsReadSteps : ∃ f fd, GFn K "read_steps" sReadSteps f fd)
    (hsRateAt : ∃ f fd, GFn K "rate_at" sRateAt f fd)
    (hsBestRing : ∃ f fd, GFn K "best_ring" sBestRing f fd)
    (hsHeightsOrRing : ∃ f fd, GFn K "heights_or_ring" sHeightsOrRing f fd)
    (hsHeights : ∃ f fd, GFn K "heights" sHeights f fd)
    (hsCredit : ∃ f fd, GFn K "credit" sCredit f fd)
    (hsStream : ∃ f fd, GFn K "_law_stream" sStream f fd)
    (hsDraw : ∃ f fd, GFn K "_law_draw" sDraw f fd ∧ FnV K f)
    (hsPick : ∃ f fd, GFn K "_law_pick" sPick f fd)
    (hsMixed : ∃ f fd, GFn K "_law_mixed" sMixed f fd)
    (hsSame : ∃ f fd, GFn K "_law_same" sSame f fd)
    (hsAmounts : ∃ f fd, GFn K "_law_amounts" sAmounts f fd)
    (hsStep : ∃ f fd, GFn K "_law_step" sStep f fd)
    (hsWeb : ∃ f fd, GFn K "_law_web" sWeb f fd)
    (hsLReached : ∃ f fd, GFn K "_law_reached" sLReached f fd)
    (hsLAhead : ∃ f fd, GFn K "_law_ahead" sLAhead f fd)
    (hsLSum : ∃ f fd, GFn K "_law_sum" sLSum f fd)
    (hsLCommon : ∃ f fd, GFn K "_law_common" sLCommon f fd)
    (hsLLow : ∃ f fd, GFn K "_law_low" sLLow f fd)
    (hsLCost : ∃ f fd, GFn K "_law_cost" sLCost f fd)
    (hsTried : ∃ f fd, GFn K "_law_tried" sTried f fd)
    (hsLSimple : ∃ f fd, GFn K "_law_simple" sLSimple f fd)
    (hsLLeft : ∃ f fd, GFn K "_law_left" sLLeft f fd)
    (hsLLongWalk : ∃ f fd, GFn K "_law_long_walk" sLLongWalk f fd)
    (hsPlaceRight : ∃ f fd, GFn K "_law_place_right" sPlaceRight f fd)
    (hLW : ∃ f fd c, LFn K "law" sLaw f fd c P2)
    (h_wi : ∃ f fd, MFn K C "__init__" "Web.__init__" sWebInit f fd)
    (h_wp : ∃ f fd, MFn K C "places" "Web.places" sWebPlaces f fd)
    (h_ws : ∃ f fd, MFn K C "steps" "Web.steps" sWebSteps f fd)
    (h_we : ∃ f fd, MFn K C "__eq__" "Web.__eq__" sWebEq f fd)
    (h_bp : ∃ f fd, MFn K CP "__init__" "BadPlaces.__init__" sBadPlInit f fd ∧ BadK K "BadPlaces" "places" CP f)
    (h_bs : ∃ f fd, MFn K CS "__init__" "BadSteps.__init__" sBadStInit f fd ∧ BadK K "BadSteps" "index" CS f)
    (h_bc : ∃ f fd, MFn K CD "__init__" "BadPlace.__init__" sBadPcInit f fd ∧ BadK K "BadPlace" "place" CD f)
    (h_br : ∃ f fd, MFn K CY "__init__" "BadPrices.__init__" sBadPrInit f fd ∧ BadK K "BadPrices" "thing" CY f)
    (h_bf : ∃ f fd, MFn K CF "__init__" "BadFraction.__init__" sBadFrInit f fd ∧ BadK K "BadFraction" "thing" CF f)
    : LamX.LawAtS l w K C8.CX0 12 63 "_law_script" mg fa h := by
  obtain ⟨f_sIsInteger, d_sIsInteger, g_sIsInteger⟩ := hsIsInteger
  have m_sIsInteger := PySem.W.mg_of X G g_sIsInteger.a
  have b_sIsInteger : Binds K d_sIsInteger ["thing"] [] := g_sIsInteger.F.binds fun _ _ _ _ _ _ us hl => match us, hl with | [_], _ => rfl
  obtain ⟨f_sIsList, d_sIsList, g_sIsList⟩ := hsIsList
  have m_sIsList := PySem.W.mg_of X G g_sIsList.a
  have b_sIsList : Binds K d_sIsList ["thing"] [] := g_sIsList.F.binds fun _ _ _ _ _ _ us hl => match us, hl with | [_], _ => rfl
  obtain ⟨f_sIsIntegers, d_sIsIntegers, g_sIsIntegers⟩ := hsIsIntegers
  have m_sIsIntegers := PySem.W.mg_of X G g_sIsIntegers.a
  have b_sIsIntegers : Binds K d_sIsIntegers ["thing", "many"] [] := g_sIsIntegers.F.binds fun _ _ _ _ _ _ us hl => match us, hl with | [_, _], _ => rfl
  obtain ⟨f_sUndivided, d_sUndivided, g_sUndivided⟩ := hsUndivided
  have m_sUndivided := PySem.W.mg_of X G g_sUndivided.a
  have b_sUndivided : Binds K d_sUndivided ["integers"] [] := g_sUndivided.F.binds fun _ _ _ _ _ _ us hl => match us, hl with | [_], _ => rfl
  obtain ⟨f_sReadFraction, d_sReadFraction, g_sReadFraction⟩ := hsReadFraction
  have m_sReadFraction := PySem.W.mg_of X G g_sReadFraction.a
  have b_sReadFraction : Binds K d_sReadFraction ["thing"] [] := g_sReadFraction.F.binds fun _ _ _ _ _ _ us hl => match us, hl with | [_], _ => rfl
  obtain ⟨f_sCheckedFraction, d_sCheckedFraction, g_sCheckedFraction⟩ := hsCheckedFraction
  have m_sCheckedFraction := PySem.W.mg_of X G g_sCheckedFraction.a
  have b_sCheckedFraction : Binds K d_sCheckedFraction ["thing"] [] := g_sCheckedFraction.F.binds fun _ _ _ _ _ _ us hl => match us, hl with | [_], _ => rfl
  obtain ⟨f_sCheckedPrices, d_sCheckedPrices, g_sCheckedPrices⟩ := hsCheckedPrices
  have m_sCheckedPrices := PySem.W.mg_of X G g_sCheckedPrices.a
  have b_sCheckedPrices : Binds K d_sCheckedPrices ["thing"] [] := g_sCheckedPrices.F.binds fun _ _ _ _ _ _ us hl => match us, hl with | [_], _ => rfl
  obtain ⟨f_sCheckPlace, d_sCheckPlace, g_sCheckPlace⟩ := hsCheckPlace
  have m_sCheckPlace := PySem.W.mg_of X G g_sCheckPlace.a
  have b_sCheckPlace : Binds K d_sCheckPlace ["web", "place"] [] := g_sCheckPlace.F.binds fun _ _ _ _ _ _ us hl => match us, hl with | [_, _], _ => rfl
  obtain ⟨f_sRingBack, d_sRingBack, g_sRingBack⟩ := hsRingBack
  have m_sRingBack := PySem.W.mg_of X G g_sRingBack.a
  have b_sRingBack : Binds K d_sRingBack ["came", "place"] [] := g_sRingBack.F.binds fun _ _ _ _ _ _ us hl => match us, hl with | [_, _], _ => rfl
  obtain ⟨f_sLowered, d_sLowered, g_sLowered⟩ := hsLowered
  have m_sLowered := PySem.W.mg_of X G g_sLowered.a
  have b_sLowered : Binds K d_sLowered ["steps", "weights", "sums", "came"] [] := g_sLowered.F.binds fun _ _ _ _ _ _ us hl => match us, hl with | [_, _, _, _], _ => rfl
  obtain ⟨f_sLeastSums, d_sLeastSums, g_sLeastSums⟩ := hsLeastSums
  have m_sLeastSums := PySem.W.mg_of X G g_sLeastSums.a
  have b_sLeastSums : Binds K d_sLeastSums ["steps", "weights", "place"] [] := g_sLeastSums.F.binds fun _ _ _ _ _ _ us hl => match us, hl with | [_, _, _], _ => rfl
  obtain ⟨f_sSumsOrRing, d_sSumsOrRing, g_sSumsOrRing⟩ := hsSumsOrRing
  have m_sSumsOrRing := PySem.W.mg_of X G g_sSumsOrRing.a
  have b_sSumsOrRing : Binds K d_sSumsOrRing ["steps", "weights", "sums"] [] := g_sSumsOrRing.F.binds fun _ _ _ _ _ _ us hl => match us, hl with | [_, _, _], _ => rfl
  obtain ⟨f_sCostOf, d_sCostOf, g_sCostOf⟩ := hsCostOf
  have m_sCostOf := PySem.W.mg_of X G g_sCostOf.a
  have b_sCostOf : Binds K d_sCostOf ["prices", "amounts"] [] := g_sCostOf.F.binds fun _ _ _ _ _ _ us hl => match us, hl with | [_, _], _ => rfl
  obtain ⟨f_sWeightsAbove, d_sWeightsAbove, g_sWeightsAbove⟩ := hsWeightsAbove
  have m_sWeightsAbove := PySem.W.mg_of X G g_sWeightsAbove.a
  have b_sWeightsAbove : Binds K d_sWeightsAbove ["steps", "prices", "rate"] [] := g_sWeightsAbove.F.binds fun _ _ _ _ _ _ us hl => match us, hl with | [_, _, _], _ => rfl
  obtain ⟨f_sRowAlong, d_sRowAlong, g_sRowAlong⟩ := hsRowAlong
  have m_sRowAlong := PySem.W.mg_of X G g_sRowAlong.a
  have b_sRowAlong : Binds K d_sRowAlong ["walk"] [] := g_sRowAlong.F.binds fun _ _ _ _ _ _ us hl => match us, hl with | [_], _ => rfl
  obtain ⟨f_sCheapestRing, d_sCheapestRing, g_sCheapestRing⟩ := hsCheapestRing
  have m_sCheapestRing := PySem.W.mg_of X G g_sCheapestRing.a
  have b_sCheapestRing : Binds K d_sCheapestRing ["steps", "place", "prices"] [] := g_sCheapestRing.F.binds fun _ _ _ _ _ _ us hl => match us, hl with | [_, _, _], _ => rfl
  obtain ⟨f_sReadStep, d_sReadStep, g_sReadStep⟩ := hsReadStep
  have m_sReadStep := PySem.W.mg_of X G g_sReadStep.a
  have b_sReadStep : Binds K d_sReadStep ["places", "thing"] [] := g_sReadStep.F.binds fun _ _ _ _ _ _ us hl => match us, hl with | [_, _], _ => rfl
  obtain ⟨f_sReadSteps, d_sReadSteps, g_sReadSteps⟩ := hsReadSteps
  have m_sReadSteps := PySem.W.mg_of X G g_sReadSteps.a
  have b_sReadSteps : Binds K d_sReadSteps ["places", "things"] [] := g_sReadSteps.F.binds fun _ _ _ _ _ _ us hl => match us, hl with | [_, _], _ => rfl
  obtain ⟨f_sRateAt, d_sRateAt, g_sRateAt⟩ := hsRateAt
  have m_sRateAt := PySem.W.mg_of X G g_sRateAt.a
  have b_sRateAt : Binds K d_sRateAt ["web", "place", "prices"] [] := g_sRateAt.F.binds fun _ _ _ _ _ _ us hl => match us, hl with | [_, _, _], _ => rfl
  obtain ⟨f_sBestRing, d_sBestRing, g_sBestRing⟩ := hsBestRing
  have m_sBestRing := PySem.W.mg_of X G g_sBestRing.a
  have b_sBestRing : Binds K d_sBestRing ["web", "place", "prices"] [] := g_sBestRing.F.binds fun _ _ _ _ _ _ us hl => match us, hl with | [_, _, _], _ => rfl
  obtain ⟨f_sHeightsOrRing, d_sHeightsOrRing, g_sHeightsOrRing⟩ := hsHeightsOrRing
  have m_sHeightsOrRing := PySem.W.mg_of X G g_sHeightsOrRing.a
  have b_sHeightsOrRing : Binds K d_sHeightsOrRing ["web", "place", "prices", "rate"] [] := g_sHeightsOrRing.F.binds fun _ _ _ _ _ _ us hl => match us, hl with | [_, _, _, _], _ => rfl
  obtain ⟨f_sHeights, d_sHeights, g_sHeights⟩ := hsHeights
  have m_sHeights := PySem.W.mg_of X G g_sHeights.a
  have b_sHeights : Binds K d_sHeights ["web", "place", "prices", "rate"] [] := g_sHeights.F.binds fun _ _ _ _ _ _ us hl => match us, hl with | [_, _, _, _], _ => rfl
  obtain ⟨f_sCredit, d_sCredit, g_sCredit⟩ := hsCredit
  have m_sCredit := PySem.W.mg_of X G g_sCredit.a
  have b_sCredit : Binds K d_sCredit ["web", "place", "prices"] [] := g_sCredit.F.binds fun _ _ _ _ _ _ us hl => match us, hl with | [_, _, _], _ => rfl
  obtain ⟨f_sStream, d_sStream, g_sStream⟩ := hsStream
  have m_sStream := PySem.W.mg_of X G g_sStream.a
  have b_sStream : Binds K d_sStream ["_law_script"] [] := g_sStream.F.binds fun _ _ _ _ _ _ us hl => match us, hl with | [_], _ => rfl
  obtain ⟨f_sDraw, d_sDraw, g_sDraw, vD⟩ := hsDraw
  have m_sDraw := PySem.W.mg_of X G g_sDraw.a
  have b_sDraw : Binds K d_sDraw ["_law_stream_here", "_law_many"] [] := g_sDraw.F.binds fun _ _ _ _ _ _ us hl => match us, hl with | [_, _], _ => rfl
  obtain ⟨f_sPick, d_sPick, g_sPick⟩ := hsPick
  have m_sPick := PySem.W.mg_of X G g_sPick.a
  have b_sPick : Binds K d_sPick ["_law_stream_here", "_law_things"] [] := g_sPick.F.binds fun _ _ _ _ _ _ us hl => match us, hl with | [_, _], _ => rfl
  obtain ⟨f_sMixed, d_sMixed, g_sMixed⟩ := hsMixed
  have m_sMixed := PySem.W.mg_of X G g_sMixed.a
  have b_sMixed : Binds K d_sMixed ["_law_stream_here", "_law_things"] [] := g_sMixed.F.binds fun _ _ _ _ _ _ us hl => match us, hl with | [_, _], _ => rfl
  obtain ⟨f_sSame, d_sSame, g_sSame⟩ := hsSame
  have m_sSame := PySem.W.mg_of X G g_sSame.a
  have b_sSame : Binds K d_sSame ["_law_found", "_law_due"] [] := g_sSame.F.binds fun _ _ _ _ _ _ us hl => match us, hl with | [_, _], _ => rfl
  obtain ⟨f_sAmounts, d_sAmounts, g_sAmounts⟩ := hsAmounts
  have m_sAmounts := PySem.W.mg_of X G g_sAmounts.a
  have b_sAmounts : Binds K d_sAmounts ["_law_stream_here", "_law_way"] [] := g_sAmounts.F.binds fun _ _ _ _ _ _ us hl => match us, hl with | [_, _], _ => rfl
  obtain ⟨f_sStep, d_sStep, g_sStep⟩ := hsStep
  have m_sStep := PySem.W.mg_of X G g_sStep.a
  have b_sStep : Binds K d_sStep ["_law_stream_here", "_law_one", "_law_other", "_law_way"] [] := g_sStep.F.binds fun _ _ _ _ _ _ us hl => match us, hl with | [_, _, _, _], _ => rfl
  obtain ⟨f_sWeb, d_sWeb, g_sWeb⟩ := hsWeb
  have m_sWeb := PySem.W.mg_of X G g_sWeb.a
  have b_sWeb : Binds K d_sWeb ["_law_stream_here", "_law_most", "_law_many"] [] := g_sWeb.F.binds fun _ _ _ _ _ _ us hl => match us, hl with | [_, _, _], _ => rfl
  obtain ⟨f_sLReached, d_sLReached, g_sLReached⟩ := hsLReached
  have m_sLReached := PySem.W.mg_of X G g_sLReached.a
  have b_sLReached : Binds K d_sLReached ["_law_steps", "_law_place"] [] := g_sLReached.F.binds fun _ _ _ _ _ _ us hl => match us, hl with | [_, _], _ => rfl
  obtain ⟨f_sLAhead, d_sLAhead, g_sLAhead⟩ := hsLAhead
  have m_sLAhead := PySem.W.mg_of X G g_sLAhead.a
  have b_sLAhead : Binds K d_sLAhead ["_law_steps", "_law_place"] [] := g_sLAhead.F.binds fun _ _ _ _ _ _ us hl => match us, hl with | [_, _], _ => rfl
  obtain ⟨f_sLSum, d_sLSum, g_sLSum⟩ := hsLSum
  have m_sLSum := PySem.W.mg_of X G g_sLSum.a
  have b_sLSum : Binds K d_sLSum ["_law_walk"] [] := g_sLSum.F.binds fun _ _ _ _ _ _ us hl => match us, hl with | [_], _ => rfl
  obtain ⟨f_sLCommon, d_sLCommon, g_sLCommon⟩ := hsLCommon
  have m_sLCommon := PySem.W.mg_of X G g_sLCommon.a
  have b_sLCommon : Binds K d_sLCommon ["_law_one", "_law_other"] [] := g_sLCommon.F.binds fun _ _ _ _ _ _ us hl => match us, hl with | [_, _], _ => rfl
  obtain ⟨f_sLLow, d_sLLow, g_sLLow⟩ := hsLLow
  have m_sLLow := PySem.W.mg_of X G g_sLLow.a
  have b_sLLow : Binds K d_sLLow ["_law_numbers"] [] := g_sLLow.F.binds fun _ _ _ _ _ _ us hl => match us, hl with | [_], _ => rfl
  obtain ⟨f_sLCost, d_sLCost, g_sLCost⟩ := hsLCost
  have m_sLCost := PySem.W.mg_of X G g_sLCost.a
  have b_sLCost : Binds K d_sLCost ["_law_prices", "_law_amounts_here"] [] := g_sLCost.F.binds fun _ _ _ _ _ _ us hl => match us, hl with | [_, _], _ => rfl
  obtain ⟨f_sTried, d_sTried, g_sTried⟩ := hsTried
  have m_sTried := PySem.W.mg_of X G g_sTried.a
  have b_sTried : Binds K d_sTried ["_law_ask"] [] := g_sTried.F.binds fun _ _ _ _ _ _ us hl => match us, hl with | [_], _ => rfl
  obtain ⟨f_sLSimple, d_sLSimple, g_sLSimple⟩ := hsLSimple
  have m_sLSimple := PySem.W.mg_of X G g_sLSimple.a
  have b_sLSimple : Binds K d_sLSimple ["_law_steps", "_law_begin"] [] := g_sLSimple.F.binds fun _ _ _ _ _ _ us hl => match us, hl with | [_, _], _ => rfl
  obtain ⟨f_sLLeft, d_sLLeft, g_sLLeft⟩ := hsLLeft
  have m_sLLeft := PySem.W.mg_of X G g_sLLeft.a
  have b_sLLeft : Binds K d_sLLeft ["_law_walk", "_law_prices", "_law_rate"] [] := g_sLLeft.F.binds fun _ _ _ _ _ _ us hl => match us, hl with | [_, _, _], _ => rfl
  obtain ⟨f_sLLongWalk, d_sLLongWalk, g_sLLongWalk⟩ := hsLLongWalk
  have m_sLLongWalk := PySem.W.mg_of X G g_sLLongWalk.a
  have b_sLLongWalk : Binds K d_sLLongWalk ["_law_stream_here", "_law_steps", "_law_begin", "_law_many", "_law_lean"] [] := g_sLLongWalk.F.binds fun _ _ _ _ _ _ us hl => match us, hl with | [_, _, _, _, _], _ => rfl
  obtain ⟨f_sPlaceRight, d_sPlaceRight, g_sPlaceRight⟩ := hsPlaceRight
  have m_sPlaceRight := PySem.W.mg_of X G g_sPlaceRight.a
  have b_sPlaceRight : Binds K d_sPlaceRight ["_law_stream_here", "_law_web_here", "_law_steps", "_law_place"] [] := g_sPlaceRight.F.binds fun _ _ _ _ _ _ us hl => match us, hl with | [_, _, _, _], _ => rfl
  obtain ⟨f_LW, d_LW, c2, g_LW⟩ := hLW
  have m_LW := PySem.W.mg_of X G g_LW.a
  obtain ⟨f_wi, d_wi, g_wi⟩ := h_wi
  have b_wi : Binds K d_wi ["self", "places", "steps"] [] := g_wi.F.binds fun _ _ _ _ _ _ us hl => match us, hl with | [_, _, _], _ => rfl
  obtain ⟨f_wp, d_wp, g_wp⟩ := h_wp
  have b_wp : Binds K d_wp ["self"] [] := g_wp.F.binds fun _ _ _ _ _ _ us hl => match us, hl with | [_], _ => rfl
  obtain ⟨f_ws, d_ws, g_ws⟩ := h_ws
  have b_ws : Binds K d_ws ["self"] [] := g_ws.F.binds fun _ _ _ _ _ _ us hl => match us, hl with | [_], _ => rfl
  obtain ⟨f_we, d_we, g_we⟩ := h_we
  have b_we : Binds K d_we ["self", "other"] [] := g_we.F.binds fun _ _ _ _ _ _ us hl => match us, hl with | [_, _], _ => rfl
  obtain ⟨f_bp, d_bp, g_bp, k_bp⟩ := h_bp
  have b_bp : Binds K d_bp ["self", "places"] [] := g_bp.F.binds fun _ _ _ _ _ _ us hl => match us, hl with | [_, _], _ => rfl
  have T_bp : ExT K mg "BadPlaces" "places" CP f_bp := ⟨k_bp.ox, k_bp.xf, k_bp.no, PySem.W.mg_of X G k_bp.gC, g_bp.a, k_bp.tC⟩
  obtain ⟨f_bs, d_bs, g_bs, k_bs⟩ := h_bs
  have b_bs : Binds K d_bs ["self", "index"] [] := g_bs.F.binds fun _ _ _ _ _ _ us hl => match us, hl with | [_, _], _ => rfl
  have T_bs : ExT K mg "BadSteps" "index" CS f_bs := ⟨k_bs.ox, k_bs.xf, k_bs.no, PySem.W.mg_of X G k_bs.gC, g_bs.a, k_bs.tC⟩
  obtain ⟨f_bc, d_bc, g_bc, k_bc⟩ := h_bc
  have b_bc : Binds K d_bc ["self", "place"] [] := g_bc.F.binds fun _ _ _ _ _ _ us hl => match us, hl with | [_, _], _ => rfl
  have T_bc : ExT K mg "BadPlace" "place" CD f_bc := ⟨k_bc.ox, k_bc.xf, k_bc.no, PySem.W.mg_of X G k_bc.gC, g_bc.a, k_bc.tC⟩
  obtain ⟨f_br, d_br, g_br, k_br⟩ := h_br
  have b_br : Binds K d_br ["self", "thing"] [] := g_br.F.binds fun _ _ _ _ _ _ us hl => match us, hl with | [_, _], _ => rfl
  have T_br : ExT K mg "BadPrices" "thing" CY f_br := ⟨k_br.ox, k_br.xf, k_br.no, PySem.W.mg_of X G k_br.gC, g_br.a, k_br.tC⟩
  obtain ⟨f_bf, d_bf, g_bf, k_bf⟩ := h_bf
  have b_bf : Binds K d_bf ["self", "thing"] [] := g_bf.F.binds fun _ _ _ _ _ _ us hl => match us, hl with | [_, _], _ => rfl
  have T_bf : ExT K mg "BadFraction" "thing" CF f_bf := ⟨k_bf.ox, k_bf.xf, k_bf.no, PySem.W.mg_of X G k_bf.gC, g_bf.a, k_bf.tC⟩
  have e := hfa.symm.trans m_LW
  cases e
  have B : Bn mg := { abs := PySem.W.mg_none_of X G bk.abs, int := PySem.W.mg_none_of X G bk.int, len := PySem.W.mg_none_of X G bk.len, list := PySem.W.mg_none_of X G bk.list, tuple := PySem.W.mg_none_of X G bk.tuple, dict := PySem.W.mg_none_of X G bk.dict, bool := PySem.W.mg_none_of X G bk.bool, range := PySem.W.mg_none_of X G bk.range, enumerate := PySem.W.mg_none_of X G bk.enumerate, isinstance := PySem.W.mg_none_of X G bk.isinstance, all := PySem.W.mg_none_of X G bk.all, zip := PySem.W.mg_none_of X G bk.zip, sorted := PySem.W.mg_none_of X G bk.sorted, max := PySem.W.mg_none_of X G bk.max, sum := PySem.W.mg_none_of X G bk.sum, repr := PySem.W.mg_none_of X G bk.repr }
  have cls : Cls K C := ⟨cw.pg, cw.hd, cw.po, cw.sa⟩
  have T : WebTxt K mg C := ⟨cls, wn.nP, wn.nS, wn.nK, PySem.W.mg_of X G cw.aC⟩
  have IC : InsK K C := ⟨cls, cw.ha, cw.hn, cw.ht, cw.hm, cw.n1, cw.n2, cw.n3, cw.n4⟩
  have hset := PySem.W.mg_none_of X G bk.st
  have hmin := PySem.W.mg_none_of X G bk.min
  have hrev := PySem.W.mg_none_of X G bk.rev
  have hgcd := PySem.W.mg_of X G bk.gcd
  have kb_sCredit : KBinds K d_sCredit ["web", "place", "prices"] ["prices", "place", "web"] revK revK := by
    obtain ⟨_, _, _, _, _, _, _, _, _, eL, _, _⟩ := id g_sCredit.F.ex
    refine { to := fun s us ws _ hl => ?_, rel := fun h k => revK_rel h k }
    cases us with
    | cons u us => exact absurd (show (0 : Nat) = 3 from hl) (by decide)
    | nil =>
      have hw : ws.length = 3 := by
        rw [← List.length_reverse]
        exact hl
      match ws, hw with
      | [w1, p1, q1], _ =>
        rw [eL]
        exact .of_eq rfl
  have bl : ∀ (s : Shared) (v : Value), BindsTo s d_LW ⟨[v], []⟩ [("_law_script", v)] := by
    obtain ⟨_, _, _, _, _, _, _, _, _, eL, _, _⟩ := id g_LW.F.ex
    intro s v
    rw [eL]
    exact .of_eq rfl
  have sole : ∀ {Pr : Addr × Addr → Prop}, Pr (c2, P2) → ∀ q ∈ [(c2, P2)], Pr q := fun h2 q hq => by
    rw [List.mem_singleton.mp hq]
    exact h2
  refine ⟨d_LW, [(c2, P2)], spLaw05 K [(P2, qC)], sole t2, sole n2, sole (PySem.W.codeHd_of_K X g_LW.hd), bl, ?_, fun base hb1 hb2 hTB => ?_⟩
  · intro H a ns hl _ hTab hS
    refine ⟨a, ns, rfl, hS, hl, fun p hp => ?_, fun _ => rfl⟩
    rw [List.mem_singleton.mp hp]
    exact LamX.TabS.nil (hTab (c2, P2) (by simp))
  have TB2 := hTB (c2, P2) (by simp)
  have c_sDraw := cal_of (P := l.prog) (w := w) (base := base) g_sDraw.F m_sDraw b_sDraw (ok_draw g_sDraw.F B)
  have c_sStream := cal_of (P := l.prog) (w := w) (base := base) g_sStream.F m_sStream b_sStream (ok_stream g_sStream.F B)
  have c_sPick := cal_of (P := l.prog) (w := w) (base := base) g_sPick.F m_sPick b_sPick (ok_pick g_sPick.F B c_sDraw)
  have c_sMixed := cal_of (P := l.prog) (w := w) (base := base) g_sMixed.F m_sMixed b_sMixed (ok_mixed g_sMixed.F B c_sDraw)
  have c_sAmounts := cal_of (P := l.prog) (w := w) (base := base) g_sAmounts.F m_sAmounts b_sAmounts (ok_amounts g_sAmounts.F B c_sDraw c_sPick)
  have c_sStep := cal_of (P := l.prog) (w := w) (base := base) g_sStep.F m_sStep b_sStep (ok_step g_sStep.F B c_sDraw c_sPick c_sAmounts)
  have c_sWeb := cal_of (P := l.prog) (w := w) (base := base) g_sWeb.F m_sWeb b_sWeb (ok_web g_sWeb.F B c_sDraw c_sMixed c_sStep)
  have c_sIsInteger := cal_of (P := l.prog) (w := w) (base := base) g_sIsInteger.F m_sIsInteger b_sIsInteger (ok_isIntegerV g_sIsInteger.F B)
  have c_sIsList := cal_of (P := l.prog) (w := w) (base := base) g_sIsList.F m_sIsList b_sIsList (ok_isList g_sIsList.F B)
  have c_sReadStep := cal_of (P := l.prog) (w := w) (base := base) g_sReadStep.F m_sReadStep b_sReadStep (ok_readStep g_sReadStep.F B c_sIsList)
  have c_sIsIntegers := cal_of (P := l.prog) (w := w) (base := base) g_sIsIntegers.F m_sIsIntegers b_sIsIntegers (ok_ints g_sIsIntegers.F B c_sIsList)
  have c_sLReached := cal_of (P := l.prog) (w := w) (base := base) g_sLReached.F m_sLReached b_sLReached (ok_lreached g_sLReached.F B hset)
  have c_sLAhead := cal_of (P := l.prog) (w := w) (base := base) g_sLAhead.F m_sLAhead b_sLAhead (ok_lahead g_sLAhead.F c_sLReached)
  have c_sLSum := cal_of (P := l.prog) (w := w) (base := base) g_sLSum.F m_sLSum b_sLSum (ok_lsum g_sLSum.F B)
  have c_sLCommon := cal_of (P := l.prog) (w := w) (base := base) g_sLCommon.F m_sLCommon b_sLCommon (ok_lcommon g_sLCommon.F B)
  have c_sLLow := cal_of (P := l.prog) (w := w) (base := base) g_sLLow.F m_sLLow b_sLLow (ok_llow g_sLLow.F B c_sLCommon)
  have c_sLCost := cal_of (P := l.prog) (w := w) (base := base) g_sLCost.F m_sLCost b_sLCost (ok_lcost g_sLCost.F)
  have c_sLSimple := cal_of (P := l.prog) (w := w) (base := base) g_sLSimple.F m_sLSimple b_sLSimple (ok_lsim g_sLSimple.F B)
  have c_sLLeft := cal_of (P := l.prog) (w := w) (base := base) g_sLLeft.F m_sLLeft b_sLLeft (ok_lleft g_sLLeft.F c_sLSum c_sLCost)
  have c_sLLongWalk := cal_of (P := l.prog) (w := w) (base := base) g_sLLongWalk.F m_sLLongWalk b_sLLongWalk (ok_llong g_sLLongWalk.F B c_sLCost c_sDraw c_sPick)
  have GBP := ok_badPl (P := l.prog) (w := w) (base := base) g_bp.F T_bp
  have GBS := ok_badSt (P := l.prog) (w := w) (base := base) g_bs.F T_bs
  have GBC := ok_badPc (P := l.prog) (w := w) (base := base) g_bc.F T_bc
  have GBR := ok_badPr (P := l.prog) (w := w) (base := base) g_br.F T_br
  have GBF := ok_badFr (P := l.prog) (w := w) (base := base) g_bf.F T_bf
  have GR := ok_readSteps (P := l.prog) (w := w) (base := base) g_sReadSteps.F B T_bs GBS b_bs c_sReadStep c_sIsList
  have GX := ok_webInit (fS := f_bs) (P := l.prog) (w := w) (base := base) g_wi.F B T T_bp GBP b_bp c_sIsInteger GR m_sReadSteps g_sReadSteps.F.kp b_sReadSteps
  have GI0 : FnOk l.prog w K mg base CX0 5 f_wi d_wi ["self", "places", "steps"] (spWebI0 K C CP CS) := fn_calm GX
  have MW : Mk K C f_wi := ⟨cw.mkc, g_wi.a, g_wi.i, cw.kc⟩
  have GP := ok_places (P := l.prog) (w := w) (base := base) g_wp.F T
  have mP : Meth K C "places" f_wp := ⟨g_wp.a, g_wp.i, g_wp.F.kp⟩
  have GS := ok_steps (P := l.prog) (w := w) (base := base) g_ws.F B T
  have mS : Meth K C "steps" f_ws := ⟨g_ws.a, g_ws.i, g_ws.F.kp⟩
  have GE := ok_webEqV (P := l.prog) (w := w) (base := base) g_we.F B T IC cw.cc
  have c_sSame := cal_of (P := l.prog) (w := w) (base := base) g_sSame.F m_sSame b_sSame (ok_same g_sSame.F B m_sSame b_sSame IC wbR_ex (eq_web GE) g_we.a g_we.i b_we 7)
  have GPl := ok_plc (P := l.prog) (w := w) (base := base) g_sCheckPlace.F B T T_bc GBC b_bc GP b_wp mP c_sIsInteger
  have GCP := ok_cpr (P := l.prog) (w := w) (base := base) g_sCheckedPrices.F T_br GBR b_br c_sIsIntegers
  have c_sLowered := cal_of (P := l.prog) (w := w) (base := base) g_sLowered.F m_sLowered b_sLowered (ok_low g_sLowered.F B B.zip)
  have c_sRingBack := cal_of (P := l.prog) (w := w) (base := base) g_sRingBack.F m_sRingBack b_sRingBack (ok_rbk g_sRingBack.F B hrev)
  have c_sSumsOrRing := cal_of (P := l.prog) (w := w) (base := base) g_sSumsOrRing.F m_sSumsOrRing b_sSumsOrRing (ok_sor g_sSumsOrRing.F B c_sLowered c_sRingBack)
  have c_sLeastSums := cal_of (P := l.prog) (w := w) (base := base) g_sLeastSums.F m_sLeastSums b_sLeastSums (ok_ls g_sLeastSums.F c_sSumsOrRing)
  have c_sCostOf := cal_of (P := l.prog) (w := w) (base := base) g_sCostOf.F m_sCostOf b_sCostOf (ok_costOf g_sCostOf.F)
  have c_sWeightsAbove := cal_of (P := l.prog) (w := w) (base := base) g_sWeightsAbove.F m_sWeightsAbove b_sWeightsAbove (ok_wab g_sWeightsAbove.F)
  have c_sRowAlong := cal_of (P := l.prog) (w := w) (base := base) g_sRowAlong.F m_sRowAlong b_sRowAlong (ok_rowA g_sRowAlong.F B)
  have c_sCheapestRing := cal_of (P := l.prog) (w := w) (base := base) g_sCheapestRing.F m_sCheapestRing b_sCheapestRing (ok_ch g_sCheapestRing.F B B.max c_sLeastSums c_sWeightsAbove c_sCostOf c_sRowAlong)
  have c_sUndivided := cal_of (P := l.prog) (w := w) (base := base) g_sUndivided.F m_sUndivided b_sUndivided (ok_und g_sUndivided.F B hgcd)
  have GBt := ok_best (P := l.prog) (w := w) (base := base) g_sBestRing.F T GPl m_sCheckPlace g_sCheckPlace.F.kp b_sCheckPlace GCP m_sCheckedPrices g_sCheckedPrices.F.kp b_sCheckedPrices GS b_ws mS c_sCheapestRing
  have GRt := ok_rate (P := l.prog) (w := w) (base := base) g_sRateAt.F GBt m_sBestRing g_sBestRing.F.kp b_sBestRing c_sRowAlong c_sCostOf c_sUndivided
  have c_sReadFraction := cal_of (P := l.prog) (w := w) (base := base) g_sReadFraction.F m_sReadFraction b_sReadFraction (ok_rfr g_sReadFraction.F c_sIsIntegers c_sUndivided)
  have GCF := ok_cfr (P := l.prog) (w := w) (base := base) g_sCheckedFraction.F T_bf GBF b_bf c_sReadFraction
  have GHo := ok_hor (P := l.prog) (w := w) (base := base) g_sHeightsOrRing.F T GPl m_sCheckPlace g_sCheckPlace.F.kp b_sCheckPlace GCP m_sCheckedPrices g_sCheckedPrices.F.kp b_sCheckedPrices GCF m_sCheckedFraction g_sCheckedFraction.F.kp b_sCheckedFraction GS b_ws mS c_sWeightsAbove c_sLeastSums
  have GHt := ok_hts (P := l.prog) (w := w) (base := base) g_sHeights.F GHo m_sHeightsOrRing g_sHeightsOrRing.F.kp b_sHeightsOrRing
  have GCr := ok_crd (P := l.prog) (w := w) (base := base) g_sCredit.F B hmin GRt m_sRateAt g_sRateAt.F.kp b_sRateAt GHt m_sHeights g_sHeights.F.kp b_sHeights c_sUndivided
  have GBt0 : FnOk l.prog w K mg base CX0 5 f_sBestRing d_sBestRing ["web", "place", "prices"] (spBestY K C) := fn_imp (fn_calm GBt) bestY
  have GRt0 : FnOk l.prog w K mg base CX0 6 f_sRateAt d_sRateAt ["web", "place", "prices"] (spRateY K C) := fn_imp (fn_calm GRt) rateY
  have GCr0 : FnOk l.prog w K mg base CX0 7 f_sCredit d_sCredit ["web", "place", "prices"] (spCrdY K C) := fn_imp (fn_calm GCr) crdY
  have GHt0 : FnOk l.prog w K mg base CX0 6 f_sHeights d_sHeights ["web", "place", "prices", "rate"] (spHts K C) := fn_calm GHt
  have c_sBestRing := cal_of (P := l.prog) (w := w) (base := base) g_sBestRing.F m_sBestRing b_sBestRing (GBt0)
  have c_sRateAt := cal_of (P := l.prog) (w := w) (base := base) g_sRateAt.F m_sRateAt b_sRateAt (GRt0)
  have c_sCredit := cal_of (P := l.prog) (w := w) (base := base) g_sCredit.F m_sCredit b_sCredit (GCr0)
  have c_sHeights := cal_of (P := l.prog) (w := w) (base := base) g_sHeights.F m_sHeights b_sHeights (GHt0)
  have c_sPlaceRight := cal_of (P := l.prog) (w := w) (base := base) g_sPlaceRight.F m_sPlaceRight b_sPlaceRight (ok_plR (R := WbR K C) g_sPlaceRight.F B hmin GCr0 m_sCredit g_sCredit.F.kp kb_sCredit c_sRateAt c_sCredit c_sBestRing c_sHeights c_sDraw c_sPick c_sLAhead c_sLSimple c_sLLeft c_sLLow c_sLLongWalk c_sSame)
  have TR : TrP K mg CD CY f_sTried f_bc f_br d_sTried := ⟨g_sTried.F, m_sTried, b_sTried, T_bc, T_br, ex⟩
  exact ok_law05 (CP := CP) (CS := CS) (T := [(P2, qC)]) g_LW.L B TB2 (List.mem_cons_self ..) (fun p hp e => by rw [List.mem_singleton.mp hp]; rfl) TR T MW GI0 b_wi IC cw.ni GCr m_sCredit g_sCredit.F.kp b_sCredit m_sDraw vD c_sStream c_sWeb c_sPlaceRight c_sSame
end AA

set_option Elab.async false
set_option linter.all false
set_option maxRecDepth 100000
namespace AA
open PySem PySem.Spec PyProof.Rows L2 Evl
theorem bad_mk {K : PySem.W.Frag} {CB : Addr} {y m x q : Str} {st : Stmt} {f : Addr} {oc : Value} {od an : Option Addr} {osl : Array (Option Value)} {kV doc pm cdv ct : Value}
    {nm qn : Str} {N : Addr} {bs bm : List Value} {sn : List Str} {sub : List Value} {ab : Bool} {col : Option Bool} {dd : Option Addr} {k0 k1 k2 k3 k5 : Option Value}
    (a : PySem.W.findIn K (.ref CB) x = some (some (.ref f))) (i : PySem.W.isFn K (.ref f) = true)
    (l : K.lookup f = some ⟨oc, od, .func (PySem.W.fnOf x q (defArgs st) (defBody st) (defScope st) .none kV doc pm an cdv ct), osl⟩) (c : PySem.W.codeIn K cdv q = true) (k : PySem.W.keepIn K (.ref f) = true)
    (gC : PySem.W.nsIn K mainGlobals y = some (some (.ref CB)))
    (xL : K.lookup CB = some (excClassObj nm qn CB N bs bm true sn sub ab col dd k0 k1 k2 k3 k5 "ValueError.__new__")) (rv : PySem.HandSPX.refsVE bm = true)
    (sa : PySem.W.findIn K (.ref CB) "__setattr__" = some (some (.builtin "object.__setattr__")))
    (exC : PySem.W.subIn K (.ref CB) (.type "BaseException") = some true)
    (tyC : PySem.W.typeIn K (.ref CB) = some (.type "type")) (kC : PySem.W.keepIn K (.ref CB) = true)
    (ga : PySem.W.findIn K (.ref CB) "__getattribute__" = some (some (.builtin "BaseException.__getattribute__")))
    (gg : PySem.W.findIn K (.ref CB) "__getattr__" = some none) (hdC : PySem.W.hasDictIn K CB = true)
    (no : PySem.W.findIn K (.ref CB) m = some none) (tC : PySem.W.typeIn K (.ref f) = some (.type "function")) :
    ∃ f fd, MFn K CB x q st f fd ∧ BadK K y m CB f :=
  ⟨_, _, ⟨a, i, fun_mk (st := st) l c k⟩, ⟨gC, ⟨⟨_, _, _, _, _, _, _, _, _, _, _, _, _, _, _, xL, rv⟩, sa, exC, tyC, kC⟩, ⟨ga, gg, exC, hdC⟩, no, tC⟩⟩
end AA
open PySem PySem.W PyProof.Rows in
set_option maxRecDepth 100000 in
set_option maxHeartbeats 0 in
theorem PySem.Challenge.cw_anyaround_k05_whole_credits_holds : PySem.Challenge.rw_anyaround_k05_whole_credits.Holds := by
  w_on; o_law; km_head; (case hw => w_witness2)
  k_fill
  refine LamX.walk_ofTs (l := PySem.Challenge.rw_anyaround_k05_whole_credits) (n := 63) (k := 12) (x := "_law_script") (CX := fun _ => C8.CX0) rfl (by decide) rfl ⟨rfl, by decide, by decide⟩ (fun w h Y => PySem.W.km_in_of Y) ?F (fun _ _ _ _ _ z => z)
  case F =>
    intro w mg fa h Y KX G hmg
    refine' AA.all_mk (CP := ?CP) (CS := ?CS) (CD := ?CD) (CY := ?CY) (CF := ?CF) (C := ?C) (P2 := ?P2) KX G hmg ?t2 ?n2 ?bk ?cw ?wn ?ex ?f1 ?f2 ?f3 ?f4 ?f5 ?f6 ?f7 ?f8 ?f9 ?f10 ?f11 ?f12 ?f13 ?f14 ?f15 ?f16 ?f17 ?f18 ?f19 ?f20 ?f21 ?f22 ?f23 ?f24 ?f25 ?f26 ?f27 ?f28 ?f29 ?f30 ?f31 ?f32 ?f33 ?f34 ?f35 ?f36 ?f37 ?f38 ?f39 ?f40 ?f41 ?f42 ?l2 ?m1 ?m2 ?m3 ?m4 ?x1 ?x2 ?x3 ?x4 ?x5
    (case t2 => exact PySem.W.km_tabs_of Y 467 (by simp))
    (case n2 => kernel_rfl)
    (case bk => refine' ⟨?_, ?_, ?_, ?_, ?_, ?_, ?_, ?_, ?_, ?_, ?_, ?_, ?_, ?_, ?_, ?_, ?_, ?_, ?_, ?_⟩ <;> k_is)
    (case cw => refine' ⟨?cw_aC, ?cw_pg, ?cw_hd, ?cw_po, ?cw_sa, ?cw_mk, ?cw_kc, ?cw_ha, ?cw_hn, ?cw_ht, ?cw_hm, ?cw_n1, ?cw_n2, ?cw_n3, ?cw_n4, ?cw_cc, ?cw_ne, ?cw_ni⟩; (case cw_aC => k_is); (case cw_pg => k_is); (case cw_hd => k_is); (case cw_po => k_is); (case cw_sa => k_is); (case cw_mk => k_is); (case cw_kc => k_is); (case cw_ha => k_is); (case cw_hn => k_is); (case cw_ht => k_is); (case cw_hm => k_is); (case cw_n1 => kit_is); (case cw_n2 => kit_is); (case cw_n3 => kit_is); (case cw_n4 => kit_is); (case cw_cc => kit_is); (case cw_ne => k_is); (case cw_ni => kit_is))
    (case wn => refine' ⟨?wn_nP, ?wn_nS, ?wn_nK⟩; (case wn_nP => k_is); (case wn_nS => k_is); (case wn_nK => k_is))
    (case f1 => refine' AA.gfn ?a ?l ?c ?k; (case a => k_is); (case l => k_is); (case c => k_is); (case k => k_is))
    (case f2 => refine' AA.gfn ?a ?l ?c ?k; (case a => k_is); (case l => k_is); (case c => k_is); (case k => k_is))
    (case f3 => refine' AA.gfn ?a ?l ?c ?k; (case a => k_is); (case l => k_is); (case c => k_is); (case k => k_is))
    (case f4 => refine' AA.gfn ?a ?l ?c ?k; (case a => k_is); (case l => k_is); (case c => k_is); (case k => k_is))
    (case f5 => refine' AA.gfn ?a ?l ?c ?k; (case a => k_is); (case l => k_is); (case c => k_is); (case k => k_is))
    (case f6 => refine' AA.gfn ?a ?l ?c ?k; (case a => k_is); (case l => k_is); (case c => k_is); (case k => k_is))
    (case f7 => refine' AA.gfn ?a ?l ?c ?k; (case a => k_is); (case l => k_is); (case c => k_is); (case k => k_is))
    (case f8 => refine' AA.gfn ?a ?l ?c ?k; (case a => k_is); (case l => k_is); (case c => k_is); (case k => k_is))
    (case f9 => refine' AA.gfn ?a ?l ?c ?k; (case a => k_is); (case l => k_is); (case c => k_is); (case k => k_is))
    (case f10 => refine' AA.gfn ?a ?l ?c ?k; (case a => k_is); (case l => k_is); (case c => k_is); (case k => k_is))
    (case f11 => refine' AA.gfn ?a ?l ?c ?k; (case a => k_is); (case l => k_is); (case c => k_is); (case k => k_is))
    (case f12 => refine' AA.gfn ?a ?l ?c ?k; (case a => k_is); (case l => k_is); (case c => k_is); (case k => k_is))
    (case f13 => refine' AA.gfn ?a ?l ?c ?k; (case a => k_is); (case l => k_is); (case c => k_is); (case k => k_is))
    (case f14 => refine' AA.gfn ?a ?l ?c ?k; (case a => k_is); (case l => k_is); (case c => k_is); (case k => k_is))
    (case f15 => refine' AA.gfn ?a ?l ?c ?k; (case a => k_is); (case l => k_is); (case c => k_is); (case k => k_is))
    (case f16 => refine' AA.gfn ?a ?l ?c ?k; (case a => k_is); (case l => k_is); (case c => k_is); (case k => k_is))
    (case f17 => refine' AA.gfn ?a ?l ?c ?k; (case a => k_is); (case l => k_is); (case c => k_is); (case k => k_is))
    (case f18 => refine' AA.gfn ?a ?l ?c ?k; (case a => k_is); (case l => k_is); (case c => k_is); (case k => k_is))
    (case f19 => refine' AA.gfn ?a ?l ?c ?k; (case a => k_is); (case l => k_is); (case c => k_is); (case k => k_is))
    (case f20 => refine' AA.gfn ?a ?l ?c ?k; (case a => k_is); (case l => k_is); (case c => k_is); (case k => k_is))
    (case f21 => refine' AA.gfn ?a ?l ?c ?k; (case a => k_is); (case l => k_is); (case c => k_is); (case k => k_is))
    (case f22 => refine' AA.gfn ?a ?l ?c ?k; (case a => k_is); (case l => k_is); (case c => k_is); (case k => k_is))
    (case f23 => refine' AA.gfn ?a ?l ?c ?k; (case a => k_is); (case l => k_is); (case c => k_is); (case k => k_is))
    (case f24 => refine' AA.gfn ?a ?l ?c ?k; (case a => k_is); (case l => k_is); (case c => k_is); (case k => k_is))
    (case f25 => refine' AA.gfnc ?a ?l ?c ?k; (case a => k_is); (case l => k_is); (case c => k_is); (case k => k_is))
    (case f26 => refine' AA.gfn ?a ?l ?c ?k; (case a => k_is); (case l => k_is); (case c => k_is); (case k => k_is))
    (case f27 => refine' AA.gfn ?a ?l ?c ?k; (case a => k_is); (case l => k_is); (case c => k_is); (case k => k_is))
    (case f28 => refine' AA.gfn ?a ?l ?c ?k; (case a => k_is); (case l => k_is); (case c => k_is); (case k => k_is))
    (case f29 => refine' AA.gfn ?a ?l ?c ?k; (case a => k_is); (case l => k_is); (case c => k_is); (case k => k_is))
    (case f30 => refine' AA.gfn ?a ?l ?c ?k; (case a => k_is); (case l => k_is); (case c => k_is); (case k => k_is))
    (case f31 => refine' AA.gfn ?a ?l ?c ?k; (case a => k_is); (case l => k_is); (case c => k_is); (case k => k_is))
    (case f32 => refine' AA.gfn ?a ?l ?c ?k; (case a => k_is); (case l => k_is); (case c => k_is); (case k => k_is))
    (case f33 => refine' AA.gfn ?a ?l ?c ?k; (case a => k_is); (case l => k_is); (case c => k_is); (case k => k_is))
    (case f34 => refine' AA.gfn ?a ?l ?c ?k; (case a => k_is); (case l => k_is); (case c => k_is); (case k => k_is))
    (case f35 => refine' AA.gfn ?a ?l ?c ?k; (case a => k_is); (case l => k_is); (case c => k_is); (case k => k_is))
    (case f36 => refine' AA.gfn ?a ?l ?c ?k; (case a => k_is); (case l => k_is); (case c => k_is); (case k => k_is))
    (case f37 => refine' AA.gfn ?a ?l ?c ?k; (case a => k_is); (case l => k_is); (case c => k_is); (case k => k_is))
    (case f38 => refine' AA.gfn ?a ?l ?c ?k; (case a => k_is); (case l => k_is); (case c => k_is); (case k => k_is))
    (case f39 => refine' AA.gfn ?a ?l ?c ?k; (case a => k_is); (case l => k_is); (case c => k_is); (case k => k_is))
    (case f40 => refine' AA.gfn ?a ?l ?c ?k; (case a => k_is); (case l => k_is); (case c => k_is); (case k => k_is))
    (case f41 => refine' AA.gfn ?a ?l ?c ?k; (case a => k_is); (case l => k_is); (case c => k_is); (case k => k_is))
    (case f42 => refine' AA.gfn ?a ?l ?c ?k; (case a => k_is); (case l => k_is); (case c => k_is); (case k => k_is))
    (case l2 => refine' AA.lfn ?a ?l ?c ?k ?hd; (case a => k_is); (case l => k_is); (case c => k_is); (case k => k_is); (case hd => kernel_rfl))
    (case m1 => refine' AA.mfn ?a ?i ?l ?c ?k; (case a => k_is); (case i => k_is); (case l => k_is); (case c => k_is); (case k => k_is))
    (case m2 => refine' AA.mfn ?a ?i ?l ?c ?k; (case a => k_is); (case i => k_is); (case l => k_is); (case c => k_is); (case k => k_is))
    (case m3 => refine' AA.mfn ?a ?i ?l ?c ?k; (case a => k_is); (case i => k_is); (case l => k_is); (case c => k_is); (case k => k_is))
    (case m4 => refine' AA.mfn ?a ?i ?l ?c ?k; (case a => k_is); (case i => k_is); (case l => k_is); (case c => k_is); (case k => k_is))
    (case x1 => refine' AA.bad_mk ?a ?i ?l ?c ?k ?gC ?xL ?rv ?sa ?exC ?tyC ?kC ?ga ?gg ?hdC ?no ?tC; (case gC => k_is); (case a => k_is); (case i => k_is); (case l => k_is); (case c => k_is); (case k => k_is); (case xL => k_is); (case rv => decide +kernel); (case sa => k_is); (case exC => k_is); (case tyC => k_is); (case kC => k_is); (case ga => k_is); (case gg => k_is); (case hdC => k_is); (case no => k_is); (case tC => k_is))
    (case x2 => refine' AA.bad_mk ?a ?i ?l ?c ?k ?gC ?xL ?rv ?sa ?exC ?tyC ?kC ?ga ?gg ?hdC ?no ?tC; (case gC => k_is); (case a => k_is); (case i => k_is); (case l => k_is); (case c => k_is); (case k => k_is); (case xL => k_is); (case rv => decide +kernel); (case sa => k_is); (case exC => k_is); (case tyC => k_is); (case kC => k_is); (case ga => k_is); (case gg => k_is); (case hdC => k_is); (case no => k_is); (case tC => k_is))
    (case x3 => refine' AA.bad_mk ?a ?i ?l ?c ?k ?gC ?xL ?rv ?sa ?exC ?tyC ?kC ?ga ?gg ?hdC ?no ?tC; (case gC => k_is); (case a => k_is); (case i => k_is); (case l => k_is); (case c => k_is); (case k => k_is); (case xL => k_is); (case rv => decide +kernel); (case sa => k_is); (case exC => k_is); (case tyC => k_is); (case kC => k_is); (case ga => k_is); (case gg => k_is); (case hdC => k_is); (case no => k_is); (case tC => k_is))
    (case x4 => refine' AA.bad_mk ?a ?i ?l ?c ?k ?gC ?xL ?rv ?sa ?exC ?tyC ?kC ?ga ?gg ?hdC ?no ?tC; (case gC => k_is); (case a => k_is); (case i => k_is); (case l => k_is); (case c => k_is); (case k => k_is); (case xL => k_is); (case rv => decide +kernel); (case sa => k_is); (case exC => k_is); (case tyC => k_is); (case kC => k_is); (case ga => k_is); (case gg => k_is); (case hdC => k_is); (case no => k_is); (case tC => k_is))
    (case x5 => refine' AA.bad_mk ?a ?i ?l ?c ?k ?gC ?xL ?rv ?sa ?exC ?tyC ?kC ?ga ?gg ?hdC ?no ?tC; (case gC => k_is); (case a => k_is); (case i => k_is); (case l => k_is); (case c => k_is); (case k => k_is); (case xL => k_is); (case rv => decide +kernel); (case sa => k_is); (case exC => k_is); (case tyC => k_is); (case kC => k_is); (case ga => k_is); (case gg => k_is); (case hdC => k_is); (case no => k_is); (case tC => k_is))
    (case ex => refine' ⟨?_, ?_, ?_⟩ <;> first | k_is | rfl)

