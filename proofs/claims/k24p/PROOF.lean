import PyProof.Rows.All
import Wide.All
import OpenK.AllK
import Wide.FinOn
import HandS.ForMost
import HandS.Wide
import HandS.ExcInit
import HandS.IsInst
import HandS.Deep
import HandS.Evl
import HandS.Conv
import HandS.NoneIn
import HandS.Codes
import HandS.OwnEq
import HandS.DictComp
import HandS.SortOrd
import HandS.SortRule
import HandS.RaiseMore
import HandS.TryOnly
import HandS.Lambda
import HandS.Zip
import HandS.ListItems
import KE.DatumIndex
import HandS.TryMany
import HandS.MakeKwOnly
import HandS.EndTab
import HandS.HeadWalk
import HandS.ExcField
import HandS.WordsExc
import PyProof.IsiNone
import PyProof.IsiH_set
import PyProof.InstEq
import PyProof.InstNe
import KE.KRevSl
import HandS.SetKeys
import HandS.More
import HandS.TupSets
import HandS.Finally
import KE.KDictOf
import PySem.Challenge.RW_anyaround_k24_whole_ways_on
import KE.KeyNested
import KE.GoesMore
import HandS.Rev
import HandS.RevTup
import HandS.GenList
import KE.KRevIter
import HandS.Iter
import KE.KNestM
set_option Elab.async false
set_option linter.all false
set_option maxRecDepth 100000
namespace AA
open PySem PySem.Spec PyProof.Rows L2
def top (i : Nat) : Stmt := PySem.Challenge.pw_anyaround_k24_whole_ways_on.main.body.getD i (.Pass ⟨0, 0, 0, 0⟩)
abbrev sIsInteger : Stmt := top 7
abbrev sIsNumber : Stmt := top 8
abbrev sIsList : Stmt := top 9
abbrev sCheckPlace : Stmt := top 10
abbrev sCheckStock : Stmt := top 11
abbrev sLeaving : Stmt := top 13
abbrev sSpread : Stmt := top 14
abbrev sComeTo : Stmt := top 15
abbrev sLeftLast : Stmt := top 16
abbrev sTogether : Stmt := top 17
abbrev sComeBack : Stmt := top 18
abbrev sLotsOf : Stmt := top 19
abbrev sRingBack : Stmt := top 20
abbrev sLotsKnown : Stmt := top 22
abbrev sRaised : Stmt := top 24
abbrev sMostStocks : Stmt := top 25
abbrev sReadStep : Stmt := top 28
abbrev sReadSteps : Stmt := top 29
abbrev sComesBack : Stmt := top 31
abbrev sNeedsOf : Stmt := top 32
abbrev sNeedsOn : Stmt := top 33
abbrev sSafeStep : Stmt := top 34
abbrev sWayOn : Stmt := top 35
abbrev sStream : Stmt := top 37
abbrev sDraw : Stmt := top 38
abbrev sPick : Stmt := top 39
abbrev sMixed : Stmt := top 40
abbrev sSame : Stmt := top 41
abbrev sLoose : Stmt := top 42
abbrev sAmounts : Stmt := top 43
abbrev sStep : Stmt := top 44
abbrev sWeb : Stmt := top 45
abbrev sLCanGo : Stmt := top 46
abbrev sLNeed : Stmt := top 47
abbrev sLLassos : Stmt := top 48
abbrev sLLeast : Stmt := top 49
abbrev sLIsWay : Stmt := top 50
abbrev sLMet : Stmt := top 51
abbrev sLStockRight : Stmt := top 52
abbrev sLaw : Stmt := top 53
abbrev sWebInit : Stmt := inClass (top 27) 0
abbrev sWebPlaces : Stmt := inClass (top 27) 1
abbrev sWebSteps : Stmt := inClass (top 27) 2
abbrev sWebEq : Stmt := inClass (top 27) 3
abbrev sBadPlInit : Stmt := inClass (top 2) 0
abbrev sBadStInit : Stmt := inClass (top 3) 0
abbrev sBadPcInit : Stmt := inClass (top 4) 0
abbrev sBadSkInit : Stmt := inClass (top 5) 0
end AA

set_option Elab.async false
set_option linter.all false
set_option maxRecDepth 100000
set_option maxHeartbeats 4000000
namespace AA
open PySem PySem.Spec PyProof.Rows L2 Evl

/-- built-in names that the program's top leaves alone -/
structure Bn (mg : Str → Option Value) : Prop where
  abs : mg "abs" = none
  int : mg "int" = none
  len : mg "len" = none
  list : mg "list" = none
  tuple : mg "tuple" = none
  dict : mg "dict" = none
  bool : mg "bool" = none
  range : mg "range" = none
  enumerate : mg "enumerate" = none
  isinstance : mg "isinstance" = none
  all : mg "all" = none
  zip : mg "zip" = none
  sorted : mg "sorted" = none
  max : mg "max" = none
  sum : mg "sum" = none
  repr : mg "repr" = none

theorem cal_of {P : Program} {w : World} {K : PySem.W.Frag} {mg : Str → Option Value} {base : Heap} {k : Nat} {x : Str} {st : Stmt} {f : Addr} {fd : FuncData} {ps : List Str} {sp : Sp}
    (F : L2.Fun K x x st f fd) (hm : mg x = some (.ref f)) (b : Binds K fd ps []) (G : FnOk P w K mg base CX0 k f fd ps sp) : C8.Cal P w K mg base k x sp [] := ⟨f, fd, ps, [], G, hm, F.kp, b, .nil⟩

/-! ### the heap without the stream's two lists -/
def hid (a b : Addr) (H : Hp) : Hp := fun x => if x = a ∨ x = b then none else H x
theorem hid_some {a b x : Addr} {H : Hp} {o : HO} (h : hid a b H x = some o) : H x = some o ∧ x ≠ a ∧ x ≠ b := by
  unfold hid at h
  by_cases e : x = a ∨ x = b
  · rw [if_pos e] at h
    cases h
  · rw [if_neg e] at h
    exact ⟨h, fun z => e (.inl z), fun z => e (.inr z)⟩
theorem hid_ne {a b x : Addr} {H : Hp} (ha : x ≠ a) (hb : x ≠ b) : hid a b H x = H x := by
  unfold hid
  rw [if_neg (fun z => z.elim ha hb)]
theorem hid_ex {a b : Addr} {H : Hp} : Ex (hid a b H) H := fun x o h => (hid_some h).1
theorem hid_upda {a b : Addr} {H : Hp} {o : HO} : hid a b (upd H a o) = hid a b H := by
  funext x
  unfold hid upd
  by_cases e : x = a ∨ x = b
  · rw [if_pos e, if_pos e]
  · rw [if_neg e, if_neg e, if_neg (fun z => e (.inl z))]
theorem hid_updb {a b : Addr} {H : Hp} {o : HO} : hid a b (upd H b o) = hid a b H := by
  funext x
  unfold hid upd
  by_cases e : x = a ∨ x = b
  · rw [if_pos e, if_pos e]
  · rw [if_neg e, if_neg e, if_neg (fun z => e (.inr z))]
theorem hid_upd {a b p : Addr} {H : Hp} {o : HO} (ha : p ≠ a) (hb : p ≠ b) : hid a b (upd H p o) = upd (hid a b H) p o := by
  funext x
  unfold hid upd
  by_cases e : x = a ∨ x = b
  · rw [if_pos e]
    by_cases q : x = p
    · rcases e with e | e
      · exact absurd (q.symm.trans e) ha
      · exact absurd (q.symm.trans e) hb
    · rw [if_neg q]
      exact (if_pos e).symm
  · rw [if_neg e]
    by_cases q : x = p
    · rw [if_pos q, if_pos q]
    · rw [if_neg q, if_neg q]
      exact (if_neg e).symm
theorem hid_none {a b p : Addr} {H : Hp} (h : H p = none) : hid a b H p = none := by
  unfold hid
  split
  · rfl
  · exact h
theorem hid_mono {a b : Addr} {H H' : Hp} (e : Ex H H') : Ex (hid a b H) (hid a b H') := fun x o h => by
  obtain ⟨h1, h2, h3⟩ := hid_some h
  rw [hid_ne h2 h3]
  exact e x o h1

/-- the stream: its list of four at a, the rest of the script at b; at most n draws so far -/
def SAt (H : Hp) (a b : Addr) (n : Nat) : Prop :=
  ∃ (ns : List Int) (c1 c2 c3 : Int), H a = some (.lst [.ref b, .int c1, .int c2, .int c3]) ∧ H b = some (.lst (ns.map V.int)) ∧ ns.length ≤ 63 ∧ 0 ≤ c1 ∧ 0 ≤ c2 ∧ c2 ≤ n ∧ 0 ≤ c3 ∧ c3 < 2147483647
theorem SAt.mono {H : Hp} {a b : Addr} {n m : Nat} (h : SAt H a b n) (l : n ≤ m) : SAt H a b m := by
  obtain ⟨ns, c1, c2, c3, h1, h2, h3, h4, h5, h6, h7⟩ := h
  exact ⟨ns, c1, c2, c3, h1, h2, h3, h4, h5, by omega, h7⟩
theorem SAt.ne {H : Hp} {a b : Addr} {n : Nat} (h : SAt H a b n) : a ≠ b := by
  obtain ⟨ns, c1, c2, c3, h1, h2, _⟩ := h
  intro e
  subst e
  rw [h1] at h2
  have := HO.lst.inj (Option.some.inj h2)
  cases ns with
  | nil => cases this
  | cons x r => cases (List.cons.inj this).1
theorem SAt.nea {H : Hp} {a b p : Addr} {n : Nat} (h : SAt H a b n) (hp : H p = none) : p ≠ a := fun e => by
  obtain ⟨ns, c1, c2, c3, h1, _⟩ := h
  rw [e, h1] at hp
  cases hp
theorem SAt.neb {H : Hp} {a b p : Addr} {n : Nat} (h : SAt H a b n) (hp : H p = none) : p ≠ b := fun e => by
  obtain ⟨ns, c1, c2, c3, _, h1, _⟩ := h
  rw [e, h1] at hp
  cases hp
theorem SAt.ex {H H' : Hp} {a b : Addr} {n : Nat} (h : SAt H a b n) (e : Ex H H') : SAt H' a b n := by
  obtain ⟨ns, c1, c2, c3, h1, h2, r⟩ := h
  exact ⟨ns, c1, c2, c3, e _ _ h1, e _ _ h2, r⟩
theorem SAt.upd {H : Hp} {a b p : Addr} {n : Nat} {o : HO} (h : SAt H a b n) (ha : p ≠ a) (hb : p ≠ b) : SAt (upd H p o) a b n := by
  obtain ⟨ns, c1, c2, c3, h1, h2, r⟩ := h
  exact ⟨ns, c1, c2, c3, by rw [upd_ne ha.symm]; exact h1, by rw [upd_ne hb.symm]; exact h2, r⟩

/-- the promise's heaps: all but the stream stands as it stood -/
abbrev ExS (a b : Addr) (H H' : Hp) : Prop := Ex (hid a b H) (hid a b H')
theorem ExS.at {a b p : Addr} {H H' : Hp} {o : HO} (e : ExS a b H H') (h : H p = some o) (ha : p ≠ a) (hb : p ≠ b) : H' p = some o :=
  hid_ex _ _ (e p o (by rw [hid_ne ha hb]; exact h))

theorem ExS.upda {a b : Addr} {H H1 : Hp} {o : HO} (p : ExS a b H H1) : ExS a b H (L2.upd H1 a o) := by
  show Ex _ (hid a b (L2.upd H1 a o))
  rw [hid_upda]
  exact p
theorem ExS.updb {a b : Addr} {H H1 : Hp} {o : HO} (p : ExS a b H H1) : ExS a b H (L2.upd H1 b o) := by
  show Ex _ (hid a b (L2.upd H1 b o))
  rw [hid_updb]
  exact p
theorem ExS.new {a b c : Addr} {H H1 : Hp} {o : HO} (p : ExS a b H H1) (n : H1 c = none) : ExS a b H (L2.upd H1 c o) := p.trans (hid_mono (Ex.new n))
theorem ExS.own {a b p : Addr} {H H1 : Hp} {o : HO} (e : ExS a b H H1) (hp : H p = none) (pa : p ≠ a) (pb : p ≠ b) : ExS a b H (L2.upd H1 p o) := by
  show Ex _ (hid a b (L2.upd H1 p o))
  rw [hid_upd pa pb]
  exact e.mut (hid_none hp)
theorem sz_m {n : Nat} (h : n ≤ 1000000) : n < sizeLine := Nat.lt_of_le_of_lt h (by decide)
theorem sz_le {n : Nat} (h : n ≤ 1000000) : n ≤ sizeLine := Nat.le_of_lt (sz_m h)
theorem ExS.back {a b p : Addr} {H H' : Hp} {n : Nat} (e : ExS a b H H') (S' : SAt H' a b n) (h : H' p = none) : H p = none := by
  cases q : H p with
  | none => rfl
  | some o =>
    rw [e.at q (S'.nea h) (S'.neb h)] at h
    cases h
theorem get_ints {ns : List Int} {i : Nat} {x : V} (h : (ns.map V.int)[i]? = some x) : ∃ c, ns[i]? = some c ∧ x = .int c := by
  rw [List.getElem?_map] at h
  cases e : ns[i]? with
  | none =>
    rw [e] at h
    cases h
  | some c =>
    rw [e] at h
    exact ⟨c, rfl, (Option.some.inj h).symm⟩
theorem mem_of_get {α : Type} {l : List α} {i : Nat} {x : α} (h : l[i]? = some x) : x ∈ l := by
  obtain ⟨h1, h2⟩ := List.getElem?_eq_some_iff.mp h
  rw [← h2]
  exact List.getElem_mem h1
theorem ExS.rfl {a b : Addr} {H : Hp} : ExS a b H H := Ex.refl _

/-! ### what is new since H -/
def nw (H H' : Hp) : Hp := fun z => match H z with
  | none => H' z
  | some _ => none
theorem nw_some {H H' : Hp} {z : Addr} {o : HO} (h : nw H H' z = some o) : H z = none ∧ H' z = some o := by
  unfold nw at h
  split at h
  · rename_i e
    exact ⟨e, h⟩
  · cases h
theorem nw_of {H H' : Hp} {z : Addr} {o : HO} (h : H z = none) (h' : H' z = some o) : nw H H' z = some o := by
  unfold nw
  rw [h]
  exact h'
theorem nw_le {H H' : Hp} : Ex (nw H H') H' := fun z o h => (nw_some h).2
theorem nw_hid {a b : Addr} {n : Nat} {H H' : Hp} (s : SAt H a b n) : Ex (nw H H') (hid a b H') := fun z o h => by
  obtain ⟨h1, h2⟩ := nw_some h
  rw [hid_ne (s.nea h1) (s.neb h1)]
  exact h2
theorem nw_step {a b : Addr} {n : Nat} {H H1 H2 : Hp} (s : SAt H a b n) (e : ExS a b H1 H2) : Ex (nw H H1) (nw H H2) := fun z o h => by
  obtain ⟨h1, h2⟩ := nw_some h
  exact nw_of h1 (e.at h2 (s.nea h1) (s.neb h1))
/-- what is new since a later heap is new since the earlier one -/
theorem nw_base {a b : Addr} {m : Nat} {H H1 H2 : Hp} (e : ExS a b H H1) (s : SAt H1 a b m) : Ex (nw H1 H2) (nw H H2) := fun z o h => by
  obtain ⟨h1, h2⟩ := nw_some h
  exact nw_of (e.back s h1) h2

/-! ### the heap's tuples: they never change -/
def tps (H : Hp) : Hp := fun x => match H x with
  | some (.tup xs) => some (.tup xs)
  | _ => none
theorem tps_some {H : Hp} {x : Addr} {o : HO} (h : tps H x = some o) : H x = some o ∧ ∃ xs, o = .tup xs := by
  unfold tps at h
  split at h
  · rename_i xs e
    cases h
    exact ⟨e, xs, rfl⟩
  · cases h
theorem tps_of {H : Hp} {x : Addr} {xs : List V} (h : H x = some (.tup xs)) : tps H x = some (.tup xs) := by
  unfold tps
  rw [h]
theorem tps_le {H : Hp} : Ex (tps H) H := fun x o h => (tps_some h).1
theorem tps_mono {H H' : Hp} (e : Ex H H') : Ex (tps H) (tps H') := fun x o h => by
  obtain ⟨h1, xs, rfl⟩ := tps_some h
  exact tps_of (e _ _ h1)
theorem tps_hid {a b : Addr} {n : Nat} {H H' : Hp} (e : ExS a b H H') (s : SAt H a b n) : Ex (tps H) (tps H') := fun x o h => by
  obtain ⟨h1, xs, rfl⟩ := tps_some h
  obtain ⟨ns, c1, c2, c3, ha, hb, _⟩ := s
  have xa : x ≠ a := fun z => by
    rw [z, ha] at h1
    cases h1
  have xb : x ≠ b := fun z => by
    rw [z, hb] at h1
    cases h1
  exact tps_of (e.at h1 xa xb)
/-- no tuple stands at p -/
def NoTup (H : Hp) (p : Addr) : Prop := ∀ xs, H p ≠ some (.tup xs)
theorem NoTup.lst {H : Hp} {p : Addr} {xs : List V} (h : H p = some (.lst xs)) : NoTup H p := fun ys z => by
  rw [h] at z
  cases z
theorem NoTup.none {H : Hp} {p : Addr} (h : H p = none) : NoTup H p := fun ys z => by
  rw [h] at z
  cases z
theorem tps_upd {H : Hp} {p : Addr} {o : HO} (h : NoTup H p) : Ex (tps H) (tps (L2.upd H p o)) := fun x u hx => by
  obtain ⟨h1, xs, rfl⟩ := tps_some hx
  have xp : x ≠ p := fun z => h xs (by rw [← z]; exact h1)
  exact tps_of (by rw [upd_ne xp]; exact h1)
theorem tps_tup {H : Hp} {p : Addr} {xs : List V} : tps (L2.upd H p (.tup xs)) p = some (.tup xs) := tps_of upd_same

/-! ### data on the heap -/
mutual
theorem dp_ex {K : PySem.W.Frag} {H H' : Hp} (e : Ex H H') : ∀ (d : PyData) (v : V), Dp K H v d → Dp K H' v d
  | .none, _, h => by cases h; exact .non
  | .bool b, _, h => by cases h; exact .bl _
  | .int i, _, h => by cases h; exact .int _
  | .str x, _, h => by cases h; exact .str _
  | .list ds, _, h => by
    cases h with
    | lst h1 h2 => exact .lst (ex_l e h1) (dpa_ex e ds _ h2)
  | .tuple ds, _, h => by
    cases h with
    | tup h1 h2 => exact .tup (ex_t e h1) (dpa_ex e ds _ h2)
  | .dict _, _, h => by cases h
theorem dpa_ex {K : PySem.W.Frag} {H H' : Hp} (e : Ex H H') : ∀ (ds : List PyData) (vs : List V), DpAll K H vs ds → DpAll K H' vs ds
  | [], _, h => by cases h; exact .nil
  | d :: ds, _, h => by
    cases h with
    | cons h1 h2 => exact .cons (dp_ex e d _ h1) (dpa_ex e ds _ h2)
end
theorem dp_ints {K : PySem.W.Frag} {H : Hp} : ∀ ns : List Int, DpAll K H (ns.map V.int) (ns.map PyData.int)
  | [] => .nil
  | n :: r => .cons (.int n) (dp_ints r)
theorem lay_ints : ∀ ns : List Int, PyData.canLayAll0 (ns.map PyData.int) = true
  | [] => rfl
  | n :: r => by
    show (PyData.canLay0 (.int n) && PyData.canLayAll0 (r.map PyData.int)) = true
    rw [lay_ints r]
    rfl
theorem dep_ints : ∀ ns : List Int, PyData.depthAll (ns.map PyData.int) = 0
  | [] => rfl
  | n :: r => by
    show max (PyData.depth (.int n)) (PyData.depthAll (r.map PyData.int)) = 0
    rw [dep_ints r]
    rfl
theorem shaped_ints (ns : List Int) : SeqAt.shaped (.list (ns.map PyData.int)) = true := by
  show (PyData.canLayAll0 (ns.map PyData.int) && decide (PyData.depthAll (ns.map PyData.int) + 1 ≤ 64)) = true
  rw [lay_ints, dep_ints]
  rfl
theorem eqv_ints_nil : ∀ ns : List Int, PyData.eqv (.list (ns.map PyData.int)) (.list []) = ns.isEmpty
  | [] => rfl
  | n :: r => rfl
theorem dpa_len {K : PySem.W.Frag} {H : Hp} : ∀ {vs : List V} {ds : List PyData}, DpAll K H vs ds → vs.length = ds.length
  | [], _, h => by cases h; rfl
  | v :: vs, _, h => by
    cases h with
    | cons h1 h2 => rw [List.length_cons, List.length_cons, dpa_len h2]
theorem dpa_get {K : PySem.W.Frag} {H : Hp} : ∀ {vs : List V} {ds : List PyData} {i : Nat} {v : V}, DpAll K H vs ds → vs[i]? = some v → ∃ d, ds[i]? = some d ∧ Dp K H v d
  | [], _, _, _, _, e => by simp at e
  | v :: vs, _, 0, x, h, e => by
    cases h with
    | cons h1 h2 =>
      cases (Option.some.inj e)
      exact ⟨_, rfl, h1⟩
  | v :: vs, _, i + 1, x, h, e => by
    cases h with
    | cons h1 h2 => exact dpa_get (i := i) h2 e
theorem dpa_app {K : PySem.W.Frag} {H : Hp} : ∀ {vs ws : List V} {ds es : List PyData}, DpAll K H vs ds → DpAll K H ws es → DpAll K H (vs ++ ws) (ds ++ es)
  | [], _, _, _, h, k => by cases h; exact k
  | v :: vs, _, _, _, h, k => by
    cases h with
    | cons h1 h2 => exact .cons h1 (dpa_app h2 k)

theorem Room.u65 {k : Nat} {A : Around} (r : Room k A) : A.units + 65 < cLine := by
  have := r.un
  omega
/-! ### steps -/
structure St5 where
  one : Int
  other : Int
  p : Int
  q : Int
  ticks : Int
  change : Int
  deriving DecidableEq
def stD (s : St5) : PyData := .tuple [.int s.one, .int s.other, .tuple [.int s.p, .int s.q], .int s.ticks, .int s.change]
theorem stD_inv {K : PySem.W.Frag} {H : Hp} {v : V} {s : St5} (h : Dp K H v (stD s)) : ∃ t u : Addr, v = .ref t ∧ SqT K H t [.int s.one, .int s.other, .ref u, .int s.ticks, .int s.change] ∧ SqT K H u [.int s.p, .int s.q] := by
  unfold stD at h
  cases h with
  | tup h1 h2 =>
    cases h2 with
    | cons a1 h2 =>
      cases h2 with
      | cons a2 h2 =>
        cases h2 with
        | cons a3 h2 =>
          cases h2 with
          | cons a4 h2 =>
            cases h2 with
            | cons a5 h2 =>
              cases h2
              cases a1
              cases a2
              cases a4
              cases a5
              cases a3 with
              | tup b1 b2 =>
                cases b2 with
                | cons c1 b2 =>
                  cases b2 with
                  | cons c2 b2 =>
                    cases b2
                    cases c1
                    cases c2
                    exact ⟨_, _, rfl, h1, b1⟩
theorem stD_mk {K : PySem.W.Frag} {H : Hp} {t u : Addr} {s : St5} (h1 : SqT K H t [.int s.one, .int s.other, .ref u, .int s.ticks, .int s.change]) (h2 : SqT K H u [.int s.p, .int s.q]) : Dp K H (.ref t) (stD s) :=
  .tup h1 (.cons (.int _) (.cons (.int _) (.cons (.tup h2 (.cons (.int _) (.cons (.int _) .nil))) (.cons (.int _) (.cons (.int _) .nil)))))
theorem stD_eqv (s t : St5) : PyData.eqv (stD s) (stD t) = decide (s = t) := by
  have : PyData.eqv (stD s) (stD t) = ((s.one == t.one) && ((s.other == t.other) && (((s.p == t.p) && ((s.q == t.q) && true)) && ((s.ticks == t.ticks) && ((s.change == t.change) && true))))) := rfl
  rw [this]
  cases s
  cases t
  simp only [St5.mk.injEq]
  rw [Bool.eq_iff_iff]
  simp [and_assoc]
theorem stD_lay (s : St5) : (stD s).canLay0 = true := rfl
theorem stD_depth (s : St5) : (stD s).depth = 2 := rfl
theorem stDs_lay : ∀ ss : List St5, PyData.canLayAll0 (ss.map stD) = true
  | [] => rfl
  | s :: r => by
    show (PyData.canLay0 (stD s) && PyData.canLayAll0 (r.map stD)) = true
    rw [stDs_lay r]
    rfl
theorem stDs_depth : ∀ ss : List St5, PyData.depthAll (ss.map stD) ≤ 2
  | [] => by decide
  | s :: r => by
    have := stDs_depth r
    show max (PyData.depth (stD s)) (PyData.depthAll (r.map stD)) ≤ 2
    rw [stD_depth]
    omega
theorem stD_shaped (s : St5) : SeqAt.shaped (stD s) = true := rfl
theorem stDs_shaped (ss : List St5) : SeqAt.shaped (.list (ss.map stD)) = true := by
  have h : PyData.depth (.list (ss.map stD)) ≤ 64 := by
    have := stDs_depth ss
    show PyData.depthAll (ss.map stD) + 1 ≤ 64
    omega
  show (PyData.canLayAll0 (ss.map stD) && decide (PyData.depth (.list (ss.map stD)) ≤ 64)) = true
  rw [stDs_lay, decide_eq_true h]
  rfl
/-- a step between so many places -/
structure StOk (n : Int) (s : St5) : Prop where
  o0 : 0 ≤ s.one
  o1 : s.one < n
  t0 : 0 ≤ s.other
  t1 : s.other < n
  k : 1 ≤ s.ticks
/-- and small -/
structure StSm (s : St5) : Prop where
  p0 : -9 ≤ s.p
  p1 : s.p ≤ 9
  q0 : -9 ≤ s.q
  q1 : s.q ≤ 9
  k1 : s.ticks ≤ 6
  c0 : -9 ≤ s.change
  c1 : s.change ≤ 9
/-! ### loops over enumerate(list) -/
theorem for_enumL {K : PySem.W.Frag} {a : Addr} {xs : List V} {g : TG} {tb : TS} {D : Ends} {σ : L2.St} {H : Hp} (Pv : Nat → L2.St → Hp → Prop) (h0 : Pv 0 σ H) (hl : ∀ i σ H, i ≤ xs.length → Pv i σ H → SqL K H a xs)
    (hs : ∀ (i : Nat) (x : V) (σ : L2.St) (H : Hp) (T : Addr), xs[i]? = some x → Pv i σ H → H T = none → g (.ref T) σ (upd H T (.tup [.int (i : Nat), x])) fun σ2 H2 => tb { D with nx := Pv (i + 1), ct := Pv (i + 1), bk := D.nx } σ2 H2) (hd : ∀ σ H, Pv xs.length σ H → D.nx σ H) :
    ∃ W : Nat → Nat → L2.St → Hp → Prop, (∃ m, W 0 m σ H) ∧ ∀ i m σ H, W i m σ H →
      ((Ite K a).stop i H ∧ D.nx σ H) ∨ ((Ite K a).go i H ∧ ∃ N : L2.St → Hp → Prop, (∀ σ' H', N σ' H' → ∃ m', m' < m ∧ W (i + 1) m' σ' H') ∧ ∀ x H', (Ite K a).yld i H x H' → g x σ H' fun σ2 H2 => tb { D with nx := N, ct := N, bk := D.nx } σ2 H2) := by
  refine ⟨fun i m σ H => m = xs.length - i ∧ i ≤ xs.length ∧ Pv i σ H, ⟨xs.length, by simp, Nat.zero_le _, h0⟩, ?_⟩
  rintro i m σ H ⟨rfl, hi, p⟩
  have q := hl i σ H hi p
  by_cases hlt : i < xs.length
  · refine .inr ⟨⟨xs, xs[i], q, by simp [hlt]⟩, Pv (i + 1), fun σ' H' p' => ⟨xs.length - (i + 1), by omega, rfl, hlt, p'⟩, fun x H' y => ?_⟩
    obtain ⟨T, z, rfl, hT, rfl, e⟩ := y
    exact hs i z σ _ T (e xs q) p hT
  · have e : i = xs.length := by omega
    subst e
    exact .inl ⟨⟨xs, q, Nat.le_refl _⟩, hd σ H p⟩
theorem atI_back {α : Type} {xs : List α} {i : Nat} (h : i < xs.length) : ∃ y, atI xs ((i : Int) - 1) = some y ∧ y ∈ xs := by
  cases i with
  | zero =>
    have e : ixN xs.length (((0 : Nat) : Int) - 1) = some (xs.length - 1) := by
      unfold ixN
      rw [if_neg (by omega), if_pos (by omega)]
      congr 1
      omega
    have hl : xs.length - 1 < xs.length := by omega
    refine ⟨xs[xs.length - 1], ?_, List.getElem_mem hl⟩
    unfold atI
    rw [e]
    exact List.getElem?_eq_getElem hl
  | succ i =>
    have e : ((i + 1 : Nat) : Int) - 1 = (i : Int) := by omega
    rw [e]
    have hl : i < xs.length := by omega
    exact ⟨xs[i], atI_nat (List.getElem?_eq_getElem hl), List.getElem_mem hl⟩
end AA

set_option Elab.async false
set_option linter.all false
set_option maxRecDepth 100000
set_option maxHeartbeats 4000000
namespace AA
open PySem PySem.Spec PyProof.Rows L2 Evl

section
variable {P : Program} {w : World} {K : PySem.W.Frag} {mg : Str → Option Value} {base : Heap}
def spDraw : Sp := fun vs H Q _ => ∃ (a b : Addr) (n : Nat) (m : Int), vs = [.ref a, .int m] ∧ SAt H a b n ∧ n < 1000000000 ∧ 0 < m ∧ m < 1000000000 ∧
  ∀ (H' : Hp) (i : Int), ExS a b H H' → SAt H' a b (n + 1) → 0 ≤ i → i < m → Q (.int i) H'
theorem scDraw : FnScope ["_law_stream_here", "_law_many", "_law_cell", "_law_digit", "_law_mixed_here"] ["_law_stream_here", "_law_many"] (defScope sDraw) := ⟨rfl, rfl, rfl, by decide +kernel, rfl, by decide +kernel, by decide +kernel⟩

theorem ok_draw {f : Addr} {fd : FuncData} (F : L2.Fun K "_law_draw" "_law_draw" sDraw f fd) (T : Bn mg) : FnOk P w K mg base CX0 1 f fd ["_law_stream_here", "_law_many"] spDraw := by
  refine F.ok scDraw (fun vs H Q E h => ?_) (fun cdv A outer s H vs Q E hr h => ?_)
  · obtain ⟨a, b, n, m, rfl, _⟩ := h
    rfl
  · obtain ⟨a, b, n, m, rfl, hS, hn, hm0, hm1, k⟩ := h
    refine ⟨_, pss_cons (ps_asg (pe_op op_add (pe_ix ix_list (pv 0) pe_int (fun _ _ => rfl)) pe_int) (pg_sub (pv 0) pe_int set_list))
      (Evl.pss_cut (ps_while PassesOwn.never (PW.pt (pw_and (pt_cmpR op_eq (pe_ix ix_list (pv 0) pe_int (fun _ _ => rfl)) pe_int (nomark _))
            (pw_and1 (pt_cmpR (op_neD hr.units) (pe_ix ix_list (pv 0) pe_int (fun _ _ => rfl)) (pe_lst pa_nil) (nomark _)))))
          (pss_cons (ps_set (i := 2) scDraw.nd rfl (Or.inl rfl) (pe_callB call_abs (by rfl) T.abs boot_abs (pa_cons (pe_bm PySem.F.plainAttrs_list PySem.F.slot_list_pop PySem.F.type_list_pop mt_popAt (pe_ix ix_list (pv 0) pe_int (fun _ _ => rfl)) (pa_cons pe_int pa_nil)) pa_nil)))
          (pss_cons (ps_asg (pe_op op_mod (pe_callTy call_int1 (by rfl) T.int boot_int (pa_cons (pe_op op_add (pe_op op_add (pe_op op_mul (pe_ix ix_list (pv 0) pe_int (fun _ _ => rfl)) pe_int) (pv 2)) pe_int) pa_nil)) pe_int) (pg_sub (pv 0) pe_int set_list))
          (pss_one (ps_asg (pe_ifExp (pt_cmpR op_ge (pv 2) (pe_op op_pow pe_int pe_int) (nomark _)) (pv 2) pe_int) (pg_sub (pv 0) pe_int set_list))))))
      (pss_cons (ps_if (pt_cmpR op_gt (pe_ix ix_list (pv 0) pe_int (fun _ _ => rfl)) pe_int (nomark _))
          (pss_cons (ps_set (i := 3) scDraw.nd rfl (Or.inl rfl) (pe_op op_mod (pe_callTy call_int1 (by rfl) T.int boot_int (pa_cons (pe_ix ix_list (pv 0) pe_int (fun _ _ => rfl)) pa_nil)) (pv 1)))
          (pss_cons (ps_asg (pe_op op_fdiv (pe_ix ix_list (pv 0) pe_int (fun _ _ => rfl)) (pv 1)) (pg_sub (pv 0) pe_int set_list))
          (pss_one (ps_ret (pv 3)))))
          pss_nil)
      (pss_cons (ps_set (i := 4) scDraw.nd rfl (Or.inl rfl) (pe_op op_mod (pe_callTy call_int1 (by rfl) T.int boot_int (pa_cons (pe_op op_pow (pe_op op_add (pe_op op_add (pe_ix ix_list (pv 0) pe_int (fun _ _ => rfl)) (pe_op op_mul pe_int (pe_ix ix_list (pv 0) pe_int (fun _ _ => rfl)))) pe_int) pe_int) pa_nil)) pe_int))
      (pss_one (ps_ret (pe_op op_mod (pe_op op_mod (pe_callTy call_int1 (by rfl) T.int boot_int (pa_cons (pe_op op_pow (pe_op op_add (pe_op op_add (pe_op op_mul (pv 4) pe_int) (pe_op op_mul pe_int (pe_ix ix_list (pv 0) pe_int (fun _ _ => rfl)))) pe_int) pe_int) pa_nil)) pe_int) (pv 1))))))), ?_⟩
    have hab := hS.ne
    obtain ⟨ns, c1, c2, c3, hA, hB, hl, p1, p2, p2', p3, p3'⟩ := hS
    -- stream[2] = stream[2] + 1
    refine ⟨_, rfl, a, _, 2, .int c2, rfl, rfl, SqL.of hA, rfl, _, _, rfl, rfl, _, rfl, a, _, 2, 2, rfl, rfl, hA, rfl, ?_⟩
    have eA : upd H a (.lst [.ref b, .int c1, .int (c2 + 1), .int c3]) a = some (.lst [.ref b, .int c1, .int (c2 + 1), .int c3]) := upd_same
    refine ⟨fun σ H2 => ∃ (ms : List Int) (d1 d3 : Int) (x2 : Option V), σ = [some (.ref a), some (.int m), x2, none, none] ∧ ExS a b H H2 ∧ H2 a = some (.lst [.ref b, .int d1, .int (c2 + 1), .int d3]) ∧
        H2 b = some (.lst (ms.map V.int)) ∧ ms.length ≤ 63 ∧ 0 ≤ d1 ∧ 0 ≤ d3 ∧ d3 < 2147483647, ?_, ?_⟩
    · refine ⟨fun mm σ H1 => ∃ (ms : List Int) (d1 d3 : Int) (x2 : Option V), σ = [some (.ref a), some (.int m), x2, none, none] ∧ ExS a b H H1 ∧ H1 a = some (.lst [.ref b, .int d1, .int (c2 + 1), .int d3]) ∧
          H1 b = some (.lst (ms.map V.int)) ∧ ms.length ≤ 63 ∧ ms.length = mm ∧ 0 ≤ d1 ∧ 0 ≤ d3 ∧ d3 < 2147483647, ⟨ns.length, ns, c1, c3, none, rfl, (ExS.rfl (H := H)).upda, eA, by rw [upd_ne hab.symm]; exact hB, hl, rfl, p1, p3, p3'⟩, ?_⟩
      rintro mm σ H1 ⟨ms, d1, d3, x2, rfl, hX, hA1, hB1, hl1, rfl, q1, q3, q3'⟩
      refine ⟨_, rfl, a, _, 1, .int d1, rfl, rfl, SqL.of hA1, rfl, rfl, _, rfl, ?_⟩
      by_cases hd : d1 = 0
      · subst hd
        refine iteT ?_
        refine ⟨_, rfl, a, _, 0, .ref b, rfl, rfl, SqL.of hA1, rfl, Nat.zero_le _, fun l hl0 => ?_⟩
        have hbl : b ≠ l := ne_of_none hB1 hl0
        have hal : a ≠ l := ne_of_none hA1 hl0
        have hB2 : upd H1 l (.lst []) b = some (.lst (ms.map V.int)) := by rw [upd_ne hbl]; exact hB1
        have hA2 : upd H1 l (.lst []) a = some (.lst [.ref b, .int 0, .int (c2 + 1), .int d3]) := by rw [upd_ne hal]; exact hA1
        refine ⟨.list (ms.map PyData.int), .list [], .lst (SqL.of hB2) (dp_ints ms), .lst (SqL.of upd_same) .nil, shaped_ints ms, rfl, _, rfl, ?_⟩
        rw [eqv_ints_nil]
        cases ms with
        | nil =>
          refine iteF ?_
          exact ⟨[], 0, d3, x2, rfl, hX.new hl0, hA2, hB2, hl1, q1, q3, q3'⟩
        | cons c ms =>
          refine iteT ?_
          refine ⟨fun σ H3 => ∃ (d1 d3 : Int) (x2 : Option V), σ = [some (.ref a), some (.int m), x2, none, none] ∧ ExS a b H H3 ∧ H3 a = some (.lst [.ref b, .int d1, .int (c2 + 1), .int d3]) ∧
            H3 b = some (.lst (ms.map V.int)) ∧ 0 ≤ d1 ∧ 0 ≤ d3 ∧ d3 < 2147483647, ?_, ?_⟩
          · rintro σ' H' ⟨d1, d3, x2, e, z1, z2, z3, z4, z5, z6⟩
            exact ⟨ms.length, Nat.lt_succ_self _, ms, d1, d3, x2, e, z1, z2, z3, by have : (c :: ms).length ≤ 63 := hl1; rw [List.length_cons] at this; omega, rfl, z4, z5, z6⟩
          · -- cell = abs(stream[0].pop(0))
            refine ⟨_, rfl, a, _, 0, .ref b, rfl, rfl, SqL.of hA2, rfl, .inl ⟨rfl, _, SqL.of hB2⟩, b, _, 0, 0, .int c, rfl, rfl, hB2, by decide, by decide, seqIndex_of (k := 0) (by decide) (by show (0 : Int) < (((c :: ms).map V.int).length : Int); rw [List.length_map, List.length_cons]; omega), rfl, _, rfl, ?_⟩
            have hA3 : upd (upd H1 l (.lst [])) b (.lst (ms.map V.int)) a = some (.lst [.ref b, .int 0, .int (c2 + 1), .int d3]) := by rw [upd_ne hab]; exact hA2
            -- stream[3] = int(stream[3] * 8191 + cell + 3) % 2147483647
            generalize hcell : (if c < 0 then -c else c) = cell
            have hc0 : 0 ≤ cell := by rw [← hcell]; split <;> omega
            refine ⟨_, rfl, a, _, 3, .int d3, rfl, rfl, SqL.of hA3, rfl, _, _, rfl, rfl, .inr ⟨by decide, by decide⟩, _, rfl, _, _, rfl, rfl, _, _, rfl, rfl, .inl ⟨_, rfl, ?_⟩⟩
            refine ⟨_, _, rfl, rfl, (by show (0 : Int) < 2147483647; decide), _, rfl, a, _, 3, 3, rfl, rfl, hA3, rfl, ?_⟩
            -- stream[1] = cell if cell >= 10 ** 18 else 0
            refine ⟨_, rfl, _, _, rfl, rfl, ⟨by decide, by decide, by decide⟩, _, _, rfl, rfl, _, rfl, ?_⟩
            refine ite2 (fun _ => ?_) (fun _ => ?_)
            · refine ⟨_, rfl, _, rfl, a, _, 1, 1, rfl, rfl, upd_same, rfl, ?_⟩
              exact ⟨cell, _, _, rfl, (((hX.new hl0).updb).upda).upda, upd_same, by rw [upd_ne hab.symm, upd_ne hab.symm, upd_same]; rfl, hc0, Int.emod_nonneg _ (by decide), Int.emod_lt_of_pos _ (by decide)⟩
            · refine ⟨_, rfl, a, _, 1, 1, rfl, rfl, upd_same, rfl, ?_⟩
              exact ⟨0, _, _, rfl, (((hX.new hl0).updb).upda).upda, upd_same, by rw [upd_ne hab.symm, upd_ne hab.symm, upd_same]; rfl, Int.le_refl _, Int.emod_nonneg _ (by decide), Int.emod_lt_of_pos _ (by decide)⟩
      · have e : decide (V.int d1 = V.int 0) = false := decide_eq_false (fun e => hd (V.int.inj e))
        rw [e]
        refine iteF ?_
        refine iteF ?_
        exact ⟨ms, d1, d3, x2, rfl, hX, hA1, hB1, hl1, q1, q3, q3'⟩
    · rintro σ H2 ⟨ms, d1, d3, x2, rfl, hX, hA2, hB2, hl2, q1, q3, q3'⟩
      refine ⟨_, rfl, a, _, 1, .int d1, rfl, rfl, SqL.of hA2, rfl, _, _, rfl, rfl, _, rfl, ?_⟩
      refine ite2 (fun hp => ?_) (fun hp => ?_)
      · refine ⟨_, rfl, a, _, 1, .int d1, rfl, rfl, SqL.of hA2, rfl, .inl ⟨_, rfl, _, rfl, _, _, rfl, rfl, hm0, ?_⟩⟩
        refine ⟨_, rfl, a, _, 1, .int d1, rfl, rfl, SqL.of hA2, rfl, _, rfl, _, _, rfl, rfl, ⟨hm0, by omega⟩, _, rfl, a, _, 1, 1, rfl, rfl, hA2, rfl, ?_⟩
        refine ⟨_, rfl, ?_⟩
        refine k _ _ hX.upda ⟨ms, d1 / m, c2 + 1, d3, upd_same, by rw [upd_ne hab.symm]; exact hB2, hl2, Int.ediv_nonneg q1 (by omega), by omega, by omega, q3, q3'⟩ (Int.emod_nonneg _ (by omega)) (Int.emod_lt_of_pos _ hm0)
      · refine ⟨_, rfl, a, _, 3, .int d3, rfl, rfl, SqL.of hA2, rfl, _, rfl, a, _, 2, .int (c2 + 1), rfl, rfl, SqL.of hA2, rfl, _, _, rfl, rfl, .inl ⟨by decide, by decide⟩, _, _, rfl, rfl, _, _, rfl, rfl, _, _, rfl, rfl, ⟨by decide, by decide, ?_⟩, .inl ⟨_, rfl, ?_⟩⟩
        · have : (2:Nat) ^ 64 = 18446744073709551616 := by decide
          rw [this]
          omega
        refine ⟨_, _, rfl, rfl, (by show (0 : Int) < 2147483629; decide), ?_⟩
        generalize hmx : ((d3 + 7919 * (c2 + 1) + 104729) ^ (5 : Int).toNat % 2147483629 : Int) = mx
        have hx0 : 0 ≤ mx := by rw [← hmx]; exact Int.emod_nonneg _ (by decide)
        have hx1 : mx < 2147483629 := by rw [← hmx]; exact Int.emod_lt_of_pos _ (by decide)
        refine ⟨_, rfl, _, _, rfl, rfl, .inr ⟨by decide, by decide⟩, _, rfl, a, _, 2, .int (c2 + 1), rfl, rfl, SqL.of hA2, rfl, _, _, rfl, rfl, .inl ⟨by decide, by decide⟩, _, _, rfl, rfl, _, _, rfl, rfl, _, _, rfl, rfl, ⟨by decide, by decide, ?_⟩, .inl ⟨_, rfl, ?_⟩⟩
        · have : (2:Nat) ^ 64 = 18446744073709551616 := by decide
          rw [this]
          omega
        refine ⟨_, _, rfl, rfl, (by show (0 : Int) < 1000000007; decide), _, rfl, _, _, rfl, rfl, hm0, ?_⟩
        exact k _ _ hX ⟨ms, d1, c2 + 1, d3, hA2, hB2, hl2, q1, by omega, by omega, q3, q3'⟩ (Int.emod_nonneg _ (by omega)) (Int.emod_lt_of_pos _ hm0)
end
end AA

set_option Elab.async false
set_option linter.all false
set_option maxRecDepth 100000
set_option maxHeartbeats 4000000
namespace AA
open PySem PySem.Spec PyProof.Rows L2 Evl
section
variable {P : Program} {w : World} {K : PySem.W.Frag} {mg : Str → Option Value} {base : Heap}
/-! ### _law_stream -/
def spStream (K : PySem.W.Frag) : Sp := fun vs H Q _ => ∃ (s : Addr) (ns : List Int), vs = [.ref s] ∧ SqL K H s (ns.map V.int) ∧ ns.length ≤ 63 ∧
  ∀ (H' : Hp) (a b : Addr), Ex H H' → H a = none → H b = none → SAt H' a b 0 → Q (.ref a) H'
theorem scStream : FnScope ["_law_script"] ["_law_script"] (defScope sStream) := ⟨rfl, rfl, rfl, by decide +kernel, rfl, by decide +kernel, by decide +kernel⟩
theorem ok_stream {f : Addr} {fd : FuncData} (F : L2.Fun K "_law_stream" "_law_stream" sStream f fd) (T : Bn mg) : FnOk P w K mg base CX0 1 f fd ["_law_script"] (spStream K) := by
  refine F.ok scStream (fun vs H Q E h => ?_) (fun cdv A outer s H vs Q E hr h => ?_)
  · obtain ⟨a, ns, rfl, _⟩ := h
    rfl
  · obtain ⟨s0, ns, rfl, hS, hl, k⟩ := h
    refine ⟨_, pss_one (ps_ret (pe_lst (pa_cons (pe_callTy call_list_of (by rfl) T.list boot_list (pa_cons (pv 0) pa_nil)) (pa_cons pe_int (pa_cons pe_int (pa_cons pe_int pa_nil)))))), ?_⟩
    refine ⟨_, rfl, s0, _, rfl, .inl hS, fun b hb => ⟨by show 4 ≤ sizeLine; decide, fun a ha => ?_⟩⟩
    have hba : b ≠ a := ne_of_none upd_same ha
    have ha0 : H a = none := fresh_back (Ex.new hb) ha
    exact k _ a b ((Ex.new hb).trans (Ex.new ha)) ha0 hb ⟨ns, 0, 0, 17, upd_same, by rw [upd_ne hba]; exact upd_same, hl, by decide, by decide, by decide, by decide, by decide⟩

/-! ### _law_pick -/
def spPick (K : PySem.W.Frag) : Sp := fun vs H Q _ => ∃ (a b : Addr) (n : Nat) (t : Addr) (xs : List V), vs = [.ref a, .ref t] ∧ SAt H a b n ∧ n < 1000000000 ∧ SqL K (hid a b H) t xs ∧ 0 < xs.length ∧ xs.length < 1000000 ∧
  ∀ (H' : Hp) (i : Nat) (x : V), ExS a b H H' → SAt H' a b (n + 1) → xs[i]? = some x → Q x H'
theorem scPick : FnScope ["_law_stream_here", "_law_things"] ["_law_stream_here", "_law_things"] (defScope sPick) := ⟨rfl, rfl, rfl, by decide +kernel, rfl, by decide +kernel, by decide +kernel⟩
theorem ok_pick {f : Addr} {fd : FuncData} (F : L2.Fun K "_law_pick" "_law_pick" sPick f fd) (T : Bn mg) (cD : C8.Cal P w K mg base 1 "_law_draw" spDraw []) : FnOk P w K mg base CX0 2 f fd ["_law_stream_here", "_law_things"] (spPick K) := by
  refine F.ok scPick (fun vs H Q E h => ?_) (fun cdv A outer s H vs Q E hr h => ?_)
  · obtain ⟨a, b, n, t, xs, rfl, _⟩ := h
    rfl
  · obtain ⟨a, b, n, t, xs, rfl, hS, hn, hX, h0, h1, k⟩ := h
    refine ⟨_, pss_one (ps_ret (pe_ix ix_list (pv 1) (C8.pe_c cD hr (by decide) (by rfl) (pa_cons (pv 0) (pa_cons (pe_callB call_len_seq (by rfl) T.len PySem.boot_len (pa_cons (pv 1) pa_nil)) pa_nil))) (fun _ _ => rfl))), ?_⟩
    refine ⟨_, rfl, _, rfl, _, rfl, t, xs, rfl, .inl (ex_l hid_ex hX), a, b, n, _, rfl, hS, hn, by omega, by omega, fun H' i hE hS' i0 i1 => ?_⟩
    obtain ⟨j, rfl⟩ : ∃ j : Nat, i = (j : Int) := ⟨i.toNat, by omega⟩
    have hj : j < xs.length := by omega
    refine ⟨t, xs, (j : Int), xs[j], rfl, rfl, ex_l (hid_ex) (ex_l hE hX), atI_nat (List.getElem?_eq_getElem hj), ?_⟩
    exact k H' j _ hE hS' (List.getElem?_eq_getElem hj)

/-! ### _law_mixed -/
def spMixed (K : PySem.W.Frag) : Sp := fun vs H Q _ => ∃ (a b : Addr) (n : Nat) (t : Addr) (xs : List V), vs = [.ref a, .ref t] ∧ SAt H a b n ∧ SqL K (hid a b H) t xs ∧ n + xs.length < 1000000000 ∧ xs.length < 1000000 ∧
  ∀ (H' : Hp) (p : Addr) (ys : List V), ExS a b H H' → SAt H' a b (n + xs.length) → H p = none → H' p = some (.lst ys) → ys.Perm xs → Q (.ref p) H'
theorem scMixed : FnScope ["_law_stream_here", "_law_things", "_law_left", "_law_found", "_law_k"] ["_law_stream_here", "_law_things"] (defScope sMixed) := ⟨rfl, rfl, rfl, by decide +kernel, rfl, by decide +kernel, by decide +kernel⟩
theorem perm_erase {α : Type} : ∀ {l : List α} {i : Nat} {x : α}, l[i]? = some x → (x :: l.eraseIdx i).Perm l
  | [], _, _, h => by simp at h
  | y :: r, 0, x, h => by
    cases (Option.some.inj h)
    exact List.Perm.refl _
  | y :: r, i + 1, x, h => by
    have h' : r[i]? = some x := h
    have ih := perm_erase h'
    exact (List.Perm.swap y x _).trans (ih.cons y)
theorem ok_mixed {f : Addr} {fd : FuncData} (F : L2.Fun K "_law_mixed" "_law_mixed" sMixed f fd) (T : Bn mg) (cD : C8.Cal P w K mg base 1 "_law_draw" spDraw []) : FnOk P w K mg base CX0 2 f fd ["_law_stream_here", "_law_things"] (spMixed K) := by
  refine F.ok scMixed (fun vs H Q E h => ?_) (fun cdv A outer s H vs Q E hr h => ?_)
  · obtain ⟨a, b, n, t, xs, rfl, _⟩ := h
    rfl
  · obtain ⟨a, b, n, t, xs, rfl, hS, hX, hn, h1, k⟩ := h
    refine ⟨_, pss_cons (ps_par (i := 2) (j := 3) (by rfl) scMixed.nd rfl rfl (by decide) rfl rfl (pa_cons (pe_callTy call_list_of (by rfl) T.list boot_list (pa_cons (pv 1) pa_nil)) (pa_cons (pe_lst pa_nil) pa_nil)) (by rfl))
      (pss_cons (ps_for PassesOwn.never rfl (pi_range1 rfl T.range (pa_cons (pe_callB call_len_seq (by rfl) T.len PySem.boot_len (pa_cons (pv 2) pa_nil)) pa_nil)) (pg_name (i := 4) scMixed.nd rfl (Or.inl rfl))
        (pss_one (ps_expr (pe_bm PySem.F.plainAttrs_list PySem.F.slot_list_append PySem.F.type_list_append mt_append (pv 3)
          (pa_cons (pe_bm PySem.F.plainAttrs_list PySem.F.slot_list_pop PySem.F.type_list_pop mt_popAt (pv 2) (pa_cons (C8.pe_c cD hr (by decide) (by rfl) (pa_cons (pv 0) (pa_cons (pe_callB call_len_seq (by rfl) T.len PySem.boot_len (pa_cons (pv 2) pa_nil)) pa_nil))) pa_nil)) pa_nil)))))
      (pss_one (ps_ret (pv 3)))), ?_⟩
    refine ⟨_, rfl, t, xs, rfl, .inl (ex_l hid_ex hX), fun l hl => ⟨Nat.zero_le _, fun g hg => ?_⟩⟩
    have hlg : l ≠ g := ne_of_none upd_same hg
    have hg0 : H g = none := fresh_back (Ex.new hl) hg
    have ee : Ex H (upd (upd H l (.lst xs)) g (.lst [])) := (Ex.new hl).trans (Ex.new hg)
    have hL : upd (upd H l (.lst xs)) g (.lst []) l = some (.lst xs) := by rw [upd_ne hlg]; exact upd_same
    refine ⟨_, _, rfl, ?_⟩
    refine ⟨_, rfl, l, xs, rfl, .inl (SqL.of hL), (xs.length : Int), rfl, ?_, ?_, for_range (lo := 0) (n := ((xs.length : Int)).toNat) (fun i σ H1 => ∃ (zs ys : List V) (x4 : Option V), σ = [some (.ref a), some (.ref t), some (.ref l), some (.ref g), x4] ∧
        ExS a b H H1 ∧ SAt H1 a b (n + i) ∧ H1 l = some (.lst zs) ∧ H1 g = some (.lst ys) ∧ (ys ++ zs).Perm xs ∧ ys.length = i) ?_ ?_ ?_⟩
    · omega
    · omega
    · exact ⟨xs, [], none, rfl, hid_mono ee, hS.ex ee, hL, upd_same, List.Perm.refl _, rfl⟩
    · rintro i σ H1 hi ⟨zs, ys, x4, rfl, hE, hS1, hL1, hG1, hp, hy⟩
      have hlen := hp.length_eq
      rw [List.length_append] at hlen
      have hz : 0 < zs.length := by omega
      refine ⟨_, rfl, .inl ⟨rfl, _, SqL.of hG1⟩, _, rfl, .inl ⟨rfl, _, SqL.of hL1⟩, _, rfl, _, rfl, l, zs, rfl, .inl (SqL.of hL1), a, b, n + i, _, rfl, hS1, by omega, by omega, by omega, fun H2 j hE2 hS2 j0 j1 => ?_⟩
      obtain ⟨j, rfl⟩ : ∃ m : Nat, j = (m : Int) := ⟨j.toNat, by omega⟩
      have hj : j < zs.length := by omega
      have la := hS.nea hl
      have lb := hS.neb hl
      have ga := hS.nea hg0
      have gb := hS.neb hg0
      have hL2 := hE2.at hL1 la lb
      have hG2 := hE2.at hG1 ga gb
      refine ⟨l, zs, (j : Int), j, zs[j], rfl, rfl, hL2, by omega, by omega, by rw [seqIndex_of (by omega) (by omega)]; rfl, List.getElem?_eq_getElem hj, ?_⟩
      have hG3 : upd H2 l (.lst (zs.eraseIdx j)) g = some (.lst ys) := by rw [upd_ne hlg.symm]; exact hG2
      refine ⟨g, ys, _, rfl, rfl, hG3, by rw [hy]; exact sz_m (by omega), ?_⟩
      refine ⟨zs.eraseIdx j, ys ++ [zs[j]], _, rfl, ?_, ((hS2.upd la lb).upd ga gb), by rw [upd_ne hlg]; exact upd_same, upd_same, ?_, by rw [List.length_append, hy]; rfl⟩
      · exact ExS.own (ExS.own (hE.trans hE2) hl la lb) hg0 ga gb
      · have q := perm_erase (List.getElem?_eq_getElem hj)
        rw [List.append_assoc]
        exact (List.Perm.append_left ys q).trans hp
    · rintro σ H1 ⟨zs, ys, x4, rfl, hE, hS1, hL1, hG1, hp, hy⟩
      have e : (xs.length : Int).toNat = xs.length := by omega
      have hz : zs = [] := by
        have hlen := hp.length_eq
        rw [List.length_append] at hlen
        exact List.eq_nil_of_length_eq_zero (by omega)
      subst hz
      rw [List.append_nil] at hp
      rw [e] at hS1
      exact ⟨_, rfl, k H1 g ys hE hS1 hg0 hG1 hp⟩
end
end AA

set_option Elab.async false
set_option linter.all false
set_option maxRecDepth 100000
set_option maxHeartbeats 4000000
namespace AA
open PySem PySem.Spec PyProof.Rows L2 Evl
section
variable {P : Program} {w : World} {K : PySem.W.Frag} {mg : Str → Option Value} {base : Heap}
/-! ### _law_amounts -/
def spAmounts : Sp := fun vs H Q _ => ∃ (a b : Addr) (n : Nat) (m : Int), vs = [.ref a, .int m] ∧ SAt H a b n ∧ n < 900000000 ∧
  ∀ (H' : Hp) (p : Addr) (x y : Int), ExS a b H H' → SAt H' a b (n + 2) → H p = none → H' p = some (.tup [.int x, .int y]) → -9 ≤ x → x ≤ 9 → -9 ≤ y → y ≤ 9 → Q (.ref p) H'
theorem scAmounts : FnScope ["_law_stream_here", "_law_way"] ["_law_stream_here", "_law_way"] (defScope sAmounts) := ⟨rfl, rfl, rfl, by decide +kernel, rfl, by decide +kernel, by decide +kernel⟩
theorem dec_int {x y : Int} : decide (V.int x = V.int y) = decide (x = y) := by
  by_cases h : x = y
  · subst h
    rw [decide_eq_true rfl, decide_eq_true rfl]
  · rw [decide_eq_false h, decide_eq_false (fun e => h (V.int.inj e))]
theorem dec_ite {A B : Prop} {p : Prop} [Decidable p] (h1 : p → A) (h2 : ¬ p → B) : if decide p = true then A else B := by
  by_cases h : p
  · rw [if_pos (decide_eq_true h)]
    exact h1 h
  · rw [if_neg (by rw [decide_eq_false h]; exact Bool.false_ne_true)]
    exact h2 h
theorem ok_amounts {f : Addr} {fd : FuncData} (F : L2.Fun K "_law_amounts" "_law_amounts" sAmounts f fd) (T : Bn mg) (cD : C8.Cal P w K mg base 1 "_law_draw" spDraw []) (cP : C8.Cal P w K mg base 2 "_law_pick" (spPick K) []) :
    FnOk P w K mg base CX0 3 f fd ["_law_stream_here", "_law_way"] spAmounts := by
  refine F.ok scAmounts (fun vs H Q E h => ?_) (fun cdv A outer s H vs Q E hr h => ?_)
  · obtain ⟨a, b, n, m, rfl, _⟩ := h
    rfl
  · obtain ⟨a, b, n, m, rfl, hS, hn, k⟩ := h
    refine ⟨_, pss_cons (ps_if (pt_cmpR op_eq (pv 1) pe_int (nomark _)) (pss_one (ps_ret (pe_tup (pa_cons (C8.pe_c cD hr (by decide) (by rfl) (pa_cons (pv 0) (pa_cons pe_int pa_nil))) (pa_cons (C8.pe_c cD hr (by decide) (by rfl) (pa_cons (pv 0) (pa_cons pe_int pa_nil))) pa_nil))))) pss_nil)
      (pss_cons (ps_if (pt_cmpR op_eq (pv 1) pe_int (nomark _)) (pss_one (ps_ret (pe_tup (pa_cons (pe_op op_sub (C8.pe_c cD hr (by decide) (by rfl) (pa_cons (pv 0) (pa_cons pe_int pa_nil))) pe_int) (pa_cons (pe_op op_sub (C8.pe_c cD hr (by decide) (by rfl) (pa_cons (pv 0) (pa_cons pe_int pa_nil))) pe_int) pa_nil))))) pss_nil)
      (pss_cons (ps_if (pt_cmpR op_eq (pv 1) pe_int (nomark _)) (pss_one (ps_ret (pe_tup (pa_cons (pe_op op_sub (C8.pe_c cD hr (by decide) (by rfl) (pa_cons (pv 0) (pa_cons pe_int pa_nil))) pe_int) (pa_cons (pe_op op_sub (C8.pe_c cD hr (by decide) (by rfl) (pa_cons (pv 0) (pa_cons pe_int pa_nil))) pe_int) pa_nil))))) pss_nil)
      (pss_one (ps_ret (pe_tup (pa_cons (C8.pe_c cP hr (by decide) (by rfl) (pa_cons (pv 0) (pa_cons (pe_lst (pa_cons pe_int (pa_cons pe_int (pa_cons pe_int (pa_cons pe_int (pa_cons pe_int pa_nil)))))) pa_nil)))
        (pa_cons (C8.pe_c cP hr (by decide) (by rfl) (pa_cons (pv 0) (pa_cons (pe_lst (pa_cons pe_int (pa_cons pe_int (pa_cons pe_int (pa_cons pe_int (pa_cons pe_int pa_nil)))))) pa_nil))) pa_nil))))))), ?_⟩
    refine ⟨_, rfl, rfl, _, rfl, ?_⟩
    refine ite2 (fun _ => ?_) (fun _ => ?_)
    · refine ⟨_, rfl, a, b, n, _, rfl, hS, by omega, by decide, by decide, fun H1 x e1 s1 x0 x1 => ?_⟩
      refine ⟨_, rfl, a, b, n + 1, _, rfl, s1, by omega, by decide, by decide, fun H2 y e2 s2 y0 y1 => ?_⟩
      refine ⟨by show 2 ≤ sizeLine; decide, fun p hp => ?_⟩
      exact k _ p x y (ExS.new (e1.trans e2) hp) (s2.ex (Ex.new hp)) (ExS.back (e1.trans e2) s2 hp) upd_same (by omega) (by omega) (by omega) (by omega)
    · refine ⟨_, rfl, rfl, _, rfl, ?_⟩
      refine ite2 (fun _ => ?_) (fun _ => ?_)
      · refine ⟨_, rfl, a, b, n, _, rfl, hS, by omega, by decide, by decide, fun H1 x e1 s1 x0 x1 => ?_⟩
        refine ⟨_, _, rfl, rfl, _, rfl, a, b, n + 1, _, rfl, s1, by omega, by decide, by decide, fun H2 y e2 s2 y0 y1 => ?_⟩
        refine ⟨_, _, rfl, rfl, by show 2 ≤ sizeLine; decide, fun p hp => ?_⟩
        exact k _ p (x - 4) (y - 4) (ExS.new (e1.trans e2) hp) (s2.ex (Ex.new hp)) (ExS.back (e1.trans e2) s2 hp) upd_same (by omega) (by omega) (by omega) (by omega)
      · refine ⟨_, rfl, rfl, _, rfl, ?_⟩
        refine ite2 (fun _ => ?_) (fun _ => ?_)
        · refine ⟨_, rfl, a, b, n, _, rfl, hS, by omega, by decide, by decide, fun H1 x e1 s1 x0 x1 => ?_⟩
          refine ⟨_, _, rfl, rfl, _, rfl, a, b, n + 1, _, rfl, s1, by omega, by decide, by decide, fun H2 y e2 s2 y0 y1 => ?_⟩
          refine ⟨_, _, rfl, rfl, by show 2 ≤ sizeLine; decide, fun p hp => ?_⟩
          exact k _ p (x - 9) (y - 9) (ExS.new (e1.trans e2) hp) (s2.ex (Ex.new hp)) (ExS.back (e1.trans e2) s2 hp) upd_same (by omega) (by omega) (by omega) (by omega)
        · refine ⟨_, rfl, by show 5 ≤ sizeLine; decide, fun l hl => ?_⟩
          have la := hS.nea hl
          have lb := hS.neb hl
          refine ⟨a, b, n, l, _, rfl, hS.upd la lb, by omega, SqL.of (by rw [hid_ne la lb]; exact upd_same), by decide, by decide, fun H1 i x e1 s1 hi => ?_⟩
          obtain ⟨c, hc, rfl⟩ := get_ints (ns := [0, 0, 0, 1, 3]) hi
          have hc1 : ∀ z ∈ ([0, 0, 0, 1, 3] : List Int), -9 ≤ z ∧ z ≤ 9 := by decide
          have hcb := hc1 c (mem_of_get hc)
          refine ⟨_, rfl, by show 5 ≤ sizeLine; decide, fun l2 hl2 => ?_⟩
          have la2 := s1.nea hl2
          have lb2 := s1.neb hl2
          refine ⟨a, b, n + 1, l2, _, rfl, s1.upd la2 lb2, by omega, SqL.of (by rw [hid_ne la2 lb2]; exact upd_same), by decide, by decide, fun H2 i2 y e2 s2 hi2 => ?_⟩
          obtain ⟨d, hd, rfl⟩ := get_ints (ns := [0, 0, 0, 1, 2]) hi2
          have hd1 : ∀ z ∈ ([0, 0, 0, 1, 2] : List Int), -9 ≤ z ∧ z ≤ 9 := by decide
          have hdb := hd1 d (mem_of_get hd)
          have ee : ExS a b H H2 := (hid_mono (Ex.new hl)).trans (e1.trans ((hid_mono (Ex.new hl2)).trans e2))
          refine ⟨by show 2 ≤ sizeLine; decide, fun p hp => ?_⟩
          exact k _ p c d (ExS.new ee hp) (s2.ex (Ex.new hp)) (ExS.back ee s2 hp) upd_same hcb.1 hcb.2 hdb.1 hdb.2
end
end AA

set_option Elab.async false
set_option linter.all false
set_option maxRecDepth 100000
set_option maxHeartbeats 4000000
namespace AA
open PySem PySem.Spec PyProof.Rows L2 Evl
section
variable {P : Program} {w : World} {K : PySem.W.Frag} {mg : Str → Option Value} {base : Heap}
/-! ### _law_step -/
def spStep (K : PySem.W.Frag) : Sp := fun vs H Q _ => ∃ (a b : Addr) (n : Nat) (o t m : Int), vs = [.ref a, .int o, .int t, .int m] ∧ SAt H a b n ∧ n < 800000000 ∧
  ∀ (H' : Hp) (p : Addr) (s : St5), ExS a b H H' → SAt H' a b (n + 5) → H p = none → Dp K (tps H') (.ref p) (stD s) → s.one = o → s.other = t → 1 ≤ s.ticks → StSm s → Q (.ref p) H'
theorem scStep : FnScope ["_law_stream_here", "_law_one", "_law_other", "_law_way", "_law_ticks", "_law_change"] ["_law_stream_here", "_law_one", "_law_other", "_law_way"] (defScope sStep) := ⟨rfl, rfl, rfl, by decide +kernel, rfl, by decide +kernel, by decide +kernel⟩
theorem ok_step {f : Addr} {fd : FuncData} (F : L2.Fun K "_law_step" "_law_step" sStep f fd) (T : Bn mg) (cD : C8.Cal P w K mg base 1 "_law_draw" spDraw []) (cP : C8.Cal P w K mg base 2 "_law_pick" (spPick K) []) (cA : C8.Cal P w K mg base 3 "_law_amounts" spAmounts []) :
    FnOk P w K mg base CX0 4 f fd ["_law_stream_here", "_law_one", "_law_other", "_law_way"] (spStep K) := by
  refine F.ok scStep (fun vs H Q E h => ?_) (fun cdv A outer s H vs Q E hr h => ?_)
  · obtain ⟨a, b, n, o, t, m, rfl, _⟩ := h
    rfl
  · obtain ⟨a, b, n, o, t, m, rfl, hS, hn, k⟩ := h
    refine ⟨_, pss_cons (ps_set (i := 4) scStep.nd rfl (Or.inl rfl) (pe_op op_add pe_int (C8.pe_c cD hr (by decide) (by rfl) (pa_cons (pv 0) (pa_cons (C8.pe_c cP hr (by decide) (by rfl) (pa_cons (pv 0) (pa_cons (pe_lst (pa_cons pe_int (pa_cons pe_int (pa_cons pe_int pa_nil)))) pa_nil))) pa_nil)))))
      (pss_cons (ps_set (i := 5) scStep.nd rfl (Or.inl rfl) (C8.pe_c cP hr (by decide) (by rfl) (pa_cons (pv 0) (pa_cons (pe_lst (pa_cons pe_int (pa_cons pe_int (pa_cons pe_int (pa_cons (pe_un un_neg pe_int) (pa_cons pe_int (pa_cons (pe_un un_neg pe_int) (pa_cons pe_int (pa_cons (pe_un un_neg pe_int) (pa_cons pe_int pa_nil)))))))))) pa_nil))))
      (pss_one (ps_ret (pe_tup (pa_cons (pv 1) (pa_cons (pv 2) (pa_cons (C8.pe_c cA hr (by decide) (by rfl) (pa_cons (pv 0) (pa_cons (pv 3) pa_nil))) (pa_cons (pv 4) (pa_cons (pv 5) pa_nil))))))))), ?_⟩
    -- ticks
    refine ⟨_, rfl, _, rfl, by show 3 ≤ sizeLine; decide, fun l hl => ?_⟩
    have la := hS.nea hl
    have lb := hS.neb hl
    refine ⟨a, b, n, l, _, rfl, hS.upd la lb, by omega, SqL.of (by rw [hid_ne la lb]; exact upd_same), by decide, by decide, fun H1 i x e1 s1 hi => ?_⟩
    obtain ⟨c, hc, rfl⟩ := get_ints (ns := [1, 2, 6]) hi
    have hc1 : ∀ z ∈ ([1, 2, 6] : List Int), 1 ≤ z ∧ z ≤ 6 := by decide
    have hcb := hc1 c (mem_of_get hc)
    refine ⟨a, b, n + 1, c, rfl, s1, by omega, by omega, by omega, fun H2 d e2 s2 d0 d1 => ?_⟩
    refine ⟨_, _, rfl, rfl, ?_⟩
    -- change
    refine ⟨_, rfl, _, rfl, _, rfl, _, rfl, by show 9 ≤ sizeLine; decide, fun l2 hl2 => ?_⟩
    have la2 := s2.nea hl2
    have lb2 := s2.neb hl2
    refine ⟨a, b, n + 2, l2, _, rfl, s2.upd la2 lb2, by omega, SqL.of (by rw [hid_ne la2 lb2]; exact upd_same), by decide, by decide, fun H3 j y e3 s3 hj => ?_⟩
    obtain ⟨g, hg, rfl⟩ := get_ints (ns := [0, 0, 1, -1, 2, -3, 5, -9, 9]) hj
    have hg1 : ∀ z ∈ ([0, 0, 1, -1, 2, -3, 5, -9, 9] : List Int), -9 ≤ z ∧ z ≤ 9 := by decide
    have hgb := hg1 g (mem_of_get hg)
    have ee : ExS a b H H3 := (hid_mono (Ex.new hl)).trans (e1.trans (e2.trans ((hid_mono (Ex.new hl2)).trans e3)))
    refine ⟨_, rfl, _, rfl, _, rfl, _, rfl, a, b, n + 3, m, rfl, s3, by omega, fun H4 u x y e4 s4 hu hu4 x0 x1 y0 y1 => ?_⟩
    refine ⟨_, rfl, _, rfl, by show 5 ≤ sizeLine; decide, fun p hp => ?_⟩
    have hpu : u ≠ p := ne_of_none hu4 hp
    have hu0 := ExS.back ee s3 hu
    have ua := s3.nea hu
    have ub := s3.neb hu
    have hp0 := ExS.back (ee.trans e4) s4 hp
    have pa := s4.nea hp
    have pb := s4.neb hp
    refine k _ p ⟨o, t, x, y, 1 + d, g⟩ (ExS.new (ee.trans e4) hp) (s4.ex (Ex.new hp)) hp0 (stD_mk (u := u) (SqT.of tps_tup) (SqT.of (tps_of ?_))) rfl rfl (by show 1 ≤ 1 + d; omega) ⟨x0, x1, y0, y1, by show 1 + d ≤ 6; omega, hgb.1, hgb.2⟩
    rw [upd_ne hpu]
    exact hu4
end
end AA

set_option Elab.async false
set_option linter.all false
set_option maxRecDepth 100000
set_option maxHeartbeats 4000000
namespace AA
open PySem PySem.Spec PyProof.Rows L2 Evl
theorem cut_to (xs : List V) (j : Nat) : cutV xs none (some (j : Int)) = xs.take j := by
  unfold cutV
  rw [HT.sIx_none, HT.sIx_nat, List.drop_zero, Nat.sub_zero]
  by_cases h : j ≤ xs.length
  · rw [Nat.min_eq_left h]
  · rw [Nat.min_eq_right (by omega), List.take_of_length_le (by omega), List.take_of_length_le (by omega)]
theorem perm_ints {ys : List V} {ns : List Int} (h : ys.Perm (ns.map V.int)) : ∃ ms : List Int, ys = ms.map V.int ∧ ms.Perm ns := by
  have all : ∀ (ys : List V), (∀ y ∈ ys, ∃ i, y = V.int i) → ∃ ms : List Int, ys = ms.map V.int := by
    intro ys
    induction ys with
    | nil => exact fun _ => ⟨[], rfl⟩
    | cons y r ih =>
      intro q
      obtain ⟨i, rfl⟩ := q y List.mem_cons_self
      obtain ⟨ms, rfl⟩ := ih fun z hz => q z (List.mem_cons_of_mem _ hz)
      exact ⟨i :: ms, rfl⟩
  obtain ⟨ms, rfl⟩ := all ys fun y hy => by
    obtain ⟨i, _, e⟩ := List.mem_map.mp (h.mem_iff.mp hy)
    exact ⟨i, e.symm⟩
  refine ⟨ms, rfl, ?_⟩
  have key := h.map (fun v => match v with | V.int i => i | _ => 0)
  rw [List.map_map, List.map_map] at key
  have e : (fun v => match v with | V.int i => i | _ => (0 : Int)) ∘ V.int = id := rfl
  rw [e, List.map_id, List.map_id] at key
  exact key
theorem rgV_ints (n : Int) : rgV 0 n = ((List.range n.toNat).map (fun i : Nat => (i : Int))).map V.int := by
  unfold rgV
  rw [List.map_map]
  have e : (n - 0).toNat = n.toNat := by congr 1; omega
  rw [e]
  apply List.map_congr_left
  intro i _
  show V.int (0 + (i : Int)) = V.int (i : Int)
  rw [Int.zero_add]
theorem range_nodup (n : Nat) : ((List.range n).map (fun i : Nat => (i : Int))).Nodup := by
  have h : (List.range n).Nodup := List.nodup_range
  rw [List.Nodup, List.pairwise_map]
  exact h.imp fun {x y} q z => q (by omega)
/-- a web as the laws draw it: places, unlike steps between them, small -/
structure WbOk (n : Int) (ss : List St5) : Prop where
  n1 : 1 ≤ n
  ok : ∀ s ∈ ss, StOk n s
  sm : ∀ s ∈ ss, StSm s
  nd : ss.Nodup
theorem WbOk.perm {n : Int} {ss ts : List St5} (h : WbOk n ss) (p : ts.Perm ss) : WbOk n ts := ⟨h.n1, fun s hs => h.ok s (p.mem_iff.mp hs), fun s hs => h.sm s (p.mem_iff.mp hs), p.symm.nodup h.nd⟩
theorem any_eqv (ss : List St5) (s : St5) : ((ss.map stD).any fun z => PyData.eqv z (stD s)) = decide (s ∈ ss) := by
  induction ss with
  | nil => rfl
  | cons t r ih =>
    rw [List.map_cons, List.any_cons, ih, stD_eqv]
    by_cases h : t = s
    · subst h
      rw [decide_eq_true rfl, decide_eq_true List.mem_cons_self]
      rfl
    · rw [decide_eq_false h]
      by_cases q : s ∈ r
      · rw [decide_eq_true q, decide_eq_true (List.mem_cons_of_mem _ q)]
        rfl
      · rw [decide_eq_false q, decide_eq_false (fun z => (List.mem_cons.mp z).elim (fun e => h e.symm) q)]
        rfl
/-- a permutation of items goes with one of what they say -/
theorem dpa_perm {K : PySem.W.Frag} {H : Hp} {xs ys : List V} (p : ys.Perm xs) : ∀ {ss : List St5}, DpAll K H xs (ss.map stD) → ∃ ts : List St5, ts.Perm ss ∧ DpAll K H ys (ts.map stD) := by
  induction p with
  | nil => exact fun {ss} h => ⟨ss, List.Perm.refl _, h⟩
  | @cons x l1 l2 _ ih =>
    intro ss h
    cases ss with
    | nil => cases h
    | cons s r =>
      cases h with
      | cons h1 h2 =>
        obtain ⟨ts, q, k⟩ := ih h2
        exact ⟨s :: ts, q.cons s, .cons h1 k⟩
  | swap x y l =>
    intro ss h
    cases ss with
    | nil => cases h
    | cons s r =>
      cases r with
      | nil =>
        cases h with
        | cons h1 h2 => cases h2
      | cons t r =>
        cases h with
        | cons h1 h2 =>
          cases h2 with
          | cons h2 h3 => exact ⟨t :: s :: r, List.Perm.swap s t r, .cons h2 (.cons h1 h3)⟩
  | trans _ _ ih1 ih2 =>
    intro ss h
    obtain ⟨ts, q, k⟩ := ih2 h
    obtain ⟨us, q2, k2⟩ := ih1 k
    exact ⟨us, q2.trans q, k2⟩
section
variable {P : Program} {w : World} {K : PySem.W.Frag} {mg : Str → Option Value} {base : Heap}
/-! ### _law_web -/
def spWeb (K : PySem.W.Frag) : Sp := fun vs H Q _ => ∃ (a b : Addr) (n : Nat) (o m : Int), vs = [.ref a, .int o, .int m] ∧ SAt H a b n ∧ n < 700000000 ∧ 1 ≤ o ∧ o ≤ 100 ∧ o ≤ m ∧ m ≤ 1000 ∧
  ∀ (H' : Hp) (p l : Addr) (k : Int) (vs : List V) (ss : List St5), ExS a b H H' → SAt H' a b (n + 20000) → H p = none → H l = none → H' p = some (.tup [.int k, .ref l]) → H' l = some (.lst vs) → DpAll K (tps H') vs (ss.map stD) → WbOk k ss → k ≤ o → (ss.length : Int) ≤ m → Q (.ref p) H'
theorem scWeb : FnScope ["_law_stream_here", "_law_most", "_law_many", "_law_places", "_law_way", "_law_found", "_law_ring", "_law_at", "_law_place", "_law_k", "_law_step_here"] ["_law_stream_here", "_law_most", "_law_many"] (defScope sWeb) := ⟨rfl, rfl, rfl, by decide +kernel, rfl, by decide +kernel, by decide +kernel⟩
theorem ok_web {f : Addr} {fd : FuncData} (F : L2.Fun K "_law_web" "_law_web" sWeb f fd) (T : Bn mg) (cD : C8.Cal P w K mg base 1 "_law_draw" spDraw []) (cM : C8.Cal P w K mg base 2 "_law_mixed" (spMixed K) []) (cS : C8.Cal P w K mg base 4 "_law_step" (spStep K) []) :
    FnOk P w K mg base CX0 5 f fd ["_law_stream_here", "_law_most", "_law_many"] (spWeb K) := by
  refine F.ok scWeb (fun vs H Q E h => ?_) (fun cdv A outer s H vs Q E hr h => ?_)
  · obtain ⟨a, b, n, o, m, rfl, _⟩ := h
    rfl
  · obtain ⟨a, b, n, o, m, rfl, hS, hn, o1, o2, om, m2, k⟩ := h
    refine ⟨_, Evl.pss_cut (ps_asg (pe_tup (pa_cons (pe_op op_add pe_int (C8.pe_c cD hr (by decide) (by rfl) (pa_cons (pv 0) (pa_cons (pv 1) pa_nil)))) (pa_cons (C8.pe_c cD hr (by decide) (by rfl) (pa_cons (pv 0) (pa_cons pe_int pa_nil))) (pa_cons (pe_lst pa_nil) (pa_cons (pe_lst pa_nil) pa_nil)))))
        (pg_tup rfl (pgs_cons (pg_name (i := 3) scWeb.nd rfl (.inl rfl)) (pgs_cons (pg_name (i := 4) scWeb.nd rfl (.inl rfl)) (pgs_cons (pg_name (i := 5) scWeb.nd rfl (.inl rfl)) (pgs_cons (pg_name (i := 6) scWeb.nd rfl (.inl rfl)) pgs_nil))))))
      (Evl.pss_cut (ps_if (pt_cmpR op_gt (C8.pe_c cD hr (by decide) (by rfl) (pa_cons (pv 0) (pa_cons pe_int pa_nil))) pe_int (nomark _))
          (pss_one (ps_set (i := 6) scWeb.nd rfl (Or.inl rfl) (pe_slice sl_list (C8.pe_c cM hr (by decide) (by rfl) (pa_cons (pv 0) (pa_cons (pe_listRg (by rfl) (by rfl) T.list (prg_1 (by rfl) T.range (pv 3))) pa_nil))) po_none (po_some (pe_op op_add pe_int (C8.pe_c cD hr (by decide) (by rfl) (pa_cons (pv 0) (pa_cons (pv 3) pa_nil)))))))) pss_nil)
      (Evl.pss_cut (ps_for PassesOwn.never rfl (pi_enum (by rfl) T.enumerate (pa_cons (pv 6) pa_nil)) (pg_tup rfl (pgs_cons (pg_name (i := 7) scWeb.nd rfl (.inl rfl)) (pgs_cons (pg_name (i := 8) scWeb.nd rfl (.inl rfl)) pgs_nil)))
          (pss_one (ps_expr (pe_bm PySem.F.plainAttrs_list PySem.F.slot_list_append PySem.F.type_list_append mt_append (pv 5) (pa_cons (C8.pe_c cS hr (by decide) (by rfl) (pa_cons (pv 0) (pa_cons (pe_ix ix_list (pv 6) (pe_op op_sub (pv 7) pe_int) (fun _ _ => rfl)) (pa_cons (pv 8) (pa_cons (pv 4) pa_nil))))) pa_nil)))))
      (Evl.pss_cut (ps_for PassesOwn.never rfl (pi_range1 rfl T.range (pa_cons (C8.pe_c cD hr (by decide) (by rfl) (pa_cons (pv 0) (pa_cons (pe_op op_add (pe_op op_sub (pv 2) (pe_callB call_len_seq (by rfl) T.len PySem.boot_len (pa_cons (pv 5) pa_nil))) pe_int) pa_nil))) pa_nil)) (pg_name (i := 9) scWeb.nd rfl (Or.inl rfl))
          (pss_cons (ps_set (i := 10) scWeb.nd rfl (Or.inl rfl) (C8.pe_c cS hr (by decide) (by rfl) (pa_cons (pv 0) (pa_cons (C8.pe_c cD hr (by decide) (by rfl) (pa_cons (pv 0) (pa_cons (pv 3) pa_nil))) (pa_cons (C8.pe_c cD hr (by decide) (by rfl) (pa_cons (pv 0) (pa_cons (pv 3) pa_nil))) (pa_cons (pv 4) pa_nil))))))
          (pss_one (ps_expr (pe_bm PySem.F.plainAttrs_list PySem.F.slot_list_extend PySem.F.type_list_extend mt_extend (pv 5) (pa_cons (pe_ifExp (pt_cmpR (op_notInD (Room.u65 hr)) (pv 10) (pv 5) (by rfl)) (pe_lst (pa_cons (pv 10) pa_nil)) (pe_lst pa_nil)) pa_nil))))))
      (pss_one (ps_ret (pe_tup (pa_cons (pv 3) (pa_cons (C8.pe_c cM hr (by decide) (by rfl) (pa_cons (pv 0) (pa_cons (pv 5) pa_nil))) pa_nil)))))))), ?_⟩
    -- places, way, found, ring
    refine ⟨fun σ H1 => ∃ (k y : Int) (g r : Addr), σ = [some (.ref a), some (.int o), some (.int m), some (.int k), some (.int y), some (.ref g), some (.ref r), none, none, none, none] ∧ ExS a b H H1 ∧ SAt H1 a b (n + 2) ∧
      H g = none ∧ H r = none ∧ g ≠ r ∧ H1 g = some (.lst []) ∧ H1 r = some (.lst []) ∧ 1 ≤ k ∧ k ≤ o, ?_, ?_⟩
    · refine ⟨_, rfl, _, rfl, a, b, n, o, rfl, hS, by omega, by omega, by omega, fun H1 d e1 s1 d0 d1 => ?_⟩
      refine ⟨_, _, rfl, rfl, _, rfl, a, b, n + 1, _, rfl, s1, by omega, by decide, by decide, fun H2 y e2 s2 y0 y1 => ?_⟩
      refine ⟨Nat.zero_le _, fun g hg => ⟨Nat.zero_le _, fun r hr0 => ?_⟩⟩
      have hgr : g ≠ r := ne_of_none upd_same hr0
      have hr1 : H2 r = none := by
        rw [upd_ne hgr.symm] at hr0
        exact hr0
      refine ⟨by show 4 ≤ sizeLine; decide, fun T hT => ?_⟩
      have hTr : r ≠ T := ne_of_none upd_same hT
      have hT1 : upd H2 g (.lst []) T = none := by
        rw [upd_ne hTr.symm] at hT
        exact hT
      have hTg : g ≠ T := ne_of_none upd_same hT1
      refine ⟨T, _, rfl, SqT.of upd_same, rfl, _, _, rfl, _, _, rfl, _, _, rfl, _, _, rfl, rfl, ?_⟩
      have e3 : ExS a b H H2 := e1.trans e2
      refine ⟨1 + d, y, g, r, rfl, ExS.new (ExS.new (ExS.new e3 hg) hr0) hT, ((s2.ex (Ex.new hg)).ex (Ex.new hr0)).ex (Ex.new hT), ExS.back e3 s2 hg, ExS.back e3 s2 hr1, hgr, ?_, ?_, by omega, by omega⟩
      · rw [upd_ne hTg, upd_ne hgr]
        exact upd_same
      · rw [upd_ne hTr]
        exact upd_same
    rintro σ H1 ⟨c, y, g, r, rfl, hE1, hS1, hg, hr1, hgr, hG1, hR1, c1, c2⟩
    have ga := hS.nea hg
    have gb := hS.neb hg
    -- ring
    refine ⟨fun σ H2 => ∃ (r : Addr) (ms : List Int), σ = [some (.ref a), some (.int o), some (.int m), some (.int c), some (.int y), some (.ref g), some (.ref r), none, none, none, none] ∧ ExS a b H H2 ∧ SAt H2 a b (n + 200) ∧
      H r = none ∧ g ≠ r ∧ H2 g = some (.lst []) ∧ H2 r = some (.lst (ms.map V.int)) ∧ ms.Nodup ∧ (∀ x ∈ ms, 0 ≤ x ∧ x < c) ∧ (ms.length : Int) ≤ c, ?_, ?_⟩
    · refine ⟨_, rfl, a, b, n + 2, _, rfl, hS1, by omega, by decide, by decide, fun H2 d e2 s2 d0 d1 => ?_⟩
      refine ⟨_, _, rfl, rfl, _, rfl, ?_⟩
      have hE2 : ExS a b H H2 := hE1.trans e2
      have hG2 : H2 g = some (.lst []) := e2.at hG1 ga gb
      have ra := hS.nea hr1
      have rb := hS.neb hr1
      have hR2 : H2 r = some (.lst []) := e2.at hR1 ra rb
      refine ite2 (fun _ => ?_) (fun _ => ?_)
      · refine ⟨_, rfl, _, rfl, _, rfl, RgOk.of_le (by omega) (by omega) (by omega) (by omega), fun q hq => ?_⟩
        have qa := s2.nea hq
        have qb := s2.neb hq
        have hqg : g ≠ q := ne_of_none hG2 hq
        have hlen : (rgV 0 c).length = c.toNat := by
          rw [rgV_length]
          congr 1
          omega
        refine ⟨a, b, n + 3, q, rgV 0 c, rfl, s2.upd qa qb, SqL.of (by rw [hid_ne qa qb]; exact upd_same), by omega, by omega, fun H3 p zs e3 s3 hp hP hperm => ?_⟩
        rw [rgV_ints] at hperm
        obtain ⟨ms, rfl, hms⟩ := perm_ints hperm
        have hnd : ms.Nodup := hms.symm.nodup (range_nodup _)
        have hml : ms.length = c.toNat := by rw [hms.length_eq, List.length_map, List.length_range]
        have hmb : ∀ x ∈ ms, 0 ≤ x ∧ x < c := fun x hx => by
          obtain ⟨i, hi, rfl⟩ := List.mem_map.mp (hms.mem_iff.mp hx)
          have := List.mem_range.mp hi
          omega
        have hE3 : ExS a b H H3 := hE2.trans ((hid_mono (Ex.new hq)).trans e3)
        have hG3 : H3 g = some (.lst []) := e3.at (by rw [upd_ne hqg]; exact hG2) ga gb
        -- [: 1 + draw]
        refine ⟨_, rfl, _, rfl, a, b, n + 3 + (rgV 0 c).length, c, rfl, s3, by omega, by omega, by omega, fun H4 d2 e4 s4 d20 d21 => ?_⟩
        refine ⟨_, _, rfl, rfl, _, rfl, ?_⟩
        have hq0 : H2 p = none := by
          have : upd H2 q (.lst (rgV 0 c)) p = none := hp
          by_cases hpq : p = q
          · rw [hpq]
            exact hq
          · rw [upd_ne hpq] at this
            exact this
        have hp0 : H p = none := ExS.back hE2 s2 hq0
        have hpa := hS.nea hp0
        have hpb := hS.neb hp0
        have hP4 : H4 p = some (.lst (ms.map V.int)) := e4.at hP hpa hpb
        have hG4 : H4 g = some (.lst []) := e4.at hG3 ga gb
        obtain ⟨j, hj⟩ : ∃ j : Nat, 1 + d2 = (j : Int) := ⟨(1 + d2).toNat, by omega⟩
        refine ⟨p, _, rfl, SqL.of hP4, fun u hu => ?_⟩
        rw [hj, cut_to, ← List.map_take]
        have hug : g ≠ u := ne_of_none hG4 hu
        refine ⟨u, ms.take j, rfl, ExS.new (hE3.trans e4) hu, (s4.ex (Ex.new hu)).mono (by omega), ExS.back (hE3.trans e4) s4 hu, hug, by rw [upd_ne hug]; exact hG4, upd_same, ?_, fun x hx => hmb x (List.mem_of_mem_take hx), ?_⟩
        · exact hnd.sublist (List.take_sublist _ _)
        · rw [List.length_take]
          omega
      · refine ⟨r, [], rfl, hE2, s2.mono (by omega), hr1, hgr, hG2, hR2, List.nodup_nil, fun x hx => absurd hx (by simp), by show (0 : Int) ≤ c; omega⟩
    rintro σ H2 ⟨r, ms, rfl, hE2, hS2, hr1, hgr, hG2, hR2, hnd, hmb, hml⟩
    have ra := hS.nea hr1
    have rb := hS.neb hr1
    have hmn : ms.length ≤ 100 := by omega
    -- the ring's steps
    refine ⟨fun σ H3 => ∃ (x7 x8 : Option V) (vs : List V) (ss : List St5), σ = [some (.ref a), some (.int o), some (.int m), some (.int c), some (.int y), some (.ref g), some (.ref r), x7, x8, none, none] ∧ ExS a b H H3 ∧ SAt H3 a b (n + 1000) ∧
      H3 g = some (.lst vs) ∧ DpAll K (tps H3) vs (ss.map stD) ∧ WbOk c ss ∧ (ss.length : Int) ≤ c, ?_, ?_⟩
    · refine ⟨_, rfl, r, _, rfl, SqL.of hR2, for_enumL (K := K) (a := r) (xs := ms.map V.int) (fun i σ H3 => ∃ (x7 x8 : Option V) (vs : List V) (ss : List St5), σ = [some (.ref a), some (.int o), some (.int m), some (.int c), some (.int y), some (.ref g), some (.ref r), x7, x8, none, none] ∧
        ExS a b H H3 ∧ SAt H3 a b (n + 200 + 5 * i) ∧ H3 g = some (.lst vs) ∧ H3 r = some (.lst (ms.map V.int)) ∧ DpAll K (tps H3) vs (ss.map stD) ∧ WbOk c ss ∧ ss.length = i ∧ ss.map (·.other) = ms.take i) ?_ ?_ ?_ ?_⟩
      · exact ⟨none, none, [], [], rfl, hE2, hS2, hG2, hR2, .nil, ⟨c1, fun s hs => absurd hs (by simp), fun s hs => absurd hs (by simp), List.nodup_nil⟩, rfl, rfl⟩
      · rintro i σ H3 _ ⟨x7, x8, vs, ss, rfl, _, _, _, hR3, _⟩
        exact SqL.of hR3
      · rintro i x σ H3 T hi ⟨x7, x8, vs, ss, rfl, hE3, hS3, hG3, hR3, hD3, hW, hlen, hot⟩ hT
        obtain ⟨z, hz, rfl⟩ := get_ints hi
        have hil : i < ms.length := (List.getElem?_eq_some_iff.mp hz).1
        have hgT : g ≠ T := ne_of_none hG3 hT
        have hrT : r ≠ T := ne_of_none hR3 hT
        refine ⟨T, _, rfl, SqT.of upd_same, rfl, _, _, rfl, _, _, rfl, rfl, ?_⟩
        have hG4 : upd H3 T (.tup [.int (i : Nat), .int z]) g = some (.lst vs) := by rw [upd_ne hgT]; exact hG3
        have hR4 : upd H3 T (.tup [.int (i : Nat), .int z]) r = some (.lst (ms.map V.int)) := by rw [upd_ne hrT]; exact hR3
        obtain ⟨u, hu, hum⟩ := atI_back (xs := ms.map V.int) (i := i) (by rw [List.length_map]; exact hil)
        obtain ⟨ui, hui, rfl⟩ := List.mem_map.mp hum
        refine ⟨_, rfl, .inl ⟨rfl, _, SqL.of hG4⟩, _, rfl, _, rfl, _, rfl, _, _, rfl, rfl, r, _, _, V.int ui, rfl, rfl, SqL.of hR4, hu, _, rfl, _, rfl, ?_⟩
        have s4 := hS3.ex (Ex.new (o := .tup [.int (i : Nat), .int z]) hT)
        refine ⟨a, b, n + 200 + 5 * i, ui, z, y, rfl, s4, by omega, fun H4 p st e4 s5 hp hd so st' k1 sm => ?_⟩
        have hG5 := e4.at hG4 ga gb
        have hR5 := e4.at hR4 ra rb
        refine ⟨g, vs, .ref p, rfl, rfl, hG5, ?_, ?_⟩
        · rw [dpa_len hD3, List.length_map, hlen]
          exact sz_m (by omega)
        · have hEE : ExS a b H H4 := Ex.trans (ExS.new hE3 hT) e4
          have tp : Ex (tps H3) (tps (upd H4 g (.lst (vs ++ [.ref p])))) := ((tps_mono (Ex.new hT)).trans (tps_hid e4 s4)).trans (tps_upd (NoTup.lst hG5))
          refine ⟨_, _, vs ++ [.ref p], ss ++ [st], rfl, ExS.own hEE hg ga gb, (s5.upd ga gb).mono (by omega), upd_same, by rw [upd_ne hgr.symm]; exact hR5, ?_, ?_, by rw [List.length_append, hlen]; rfl, ?_⟩
          · rw [List.map_append]
            exact dpa_app (dpa_ex tp _ _ hD3) (.cons (dp_ex (tps_upd (NoTup.lst hG5)) _ _ hd) .nil)
          · have hzm := hmb z (mem_of_get hz)
            have hum2 := hmb ui hui
            refine ⟨c1, fun s hs => ?_, fun s hs => ?_, ?_⟩
            · rcases List.mem_append.mp hs with hs | hs
              · exact hW.ok s hs
              · obtain rfl := List.mem_singleton.mp hs
                exact ⟨by omega, by omega, by omega, by omega, k1⟩
            · rcases List.mem_append.mp hs with hs | hs
              · exact hW.sm s hs
              · obtain rfl := List.mem_singleton.mp hs
                exact sm
            · refine List.nodup_append.mpr ⟨hW.nd, List.nodup_cons.mpr ⟨by simp, List.nodup_nil⟩, fun x hx y2 hy e => ?_⟩
              obtain rfl := List.mem_singleton.mp hy
              subst e
              have h1 : x.other ∈ ms.take i := by
                rw [← hot]
                exact List.mem_map.mpr ⟨x, hx, rfl⟩
              rw [st'] at h1
              obtain ⟨j, hj, e⟩ := List.mem_iff_getElem.mp h1
              rw [List.getElem_take] at e
              rw [List.length_take] at hj
              have := (List.getElem?_eq_some_iff.mp hz).2
              rw [← this] at e
              have := (List.getElem_inj hnd).mp e
              omega
          · rw [List.map_append, hot, List.take_add_one, hz]
            show _ ++ [st.other] = _ ++ [z]
            rw [st']
      · rintro σ H3 ⟨x7, x8, vs, ss, rfl, hE3, hS3, hG3, hR3, hD3, hW, hlen, hot⟩
        rw [List.length_map] at hlen hS3
        exact ⟨x7, x8, vs, ss, rfl, hE3, hS3.mono (by omega), hG3, hD3, hW, by omega⟩
    rintro σ H3 ⟨x7, x8, vs, ss, rfl, hE3, hS3, hG3, hD3, hW, hlen⟩
    -- more steps
    refine ⟨fun σ H4 => ∃ (x7 x8 x9 x10 : Option V) (vs : List V) (ss : List St5), σ = [some (.ref a), some (.int o), some (.int m), some (.int c), some (.int y), some (.ref g), some (.ref r), x7, x8, x9, x10] ∧ ExS a b H H4 ∧ SAt H4 a b (n + 10000) ∧
      H4 g = some (.lst vs) ∧ DpAll K (tps H4) vs (ss.map stD) ∧ WbOk c ss ∧ (ss.length : Int) ≤ m, ?_, ?_⟩
    · have hvl := dpa_len hD3
      rw [List.length_map] at hvl
      refine ⟨_, rfl, _, rfl, _, rfl, g, vs, rfl, .inl (SqL.of hG3), _, _, rfl, rfl, _, _, rfl, rfl, a, b, n + 1000, _, rfl, hS3, by omega, by rw [hvl]; omega, by rw [hvl]; omega, fun H4 t e4 s4 t0 t1 => ?_⟩
      rw [hvl] at t1
      refine ⟨t, rfl, by omega, by omega, for_range (lo := 0) (n := t.toNat) (fun i σ H4 => ∃ (x9 x10 : Option V) (vs : List V) (ss : List St5), σ = [some (.ref a), some (.int o), some (.int m), some (.int c), some (.int y), some (.ref g), some (.ref r), x7, x8, x9, x10] ∧
        ExS a b H H4 ∧ SAt H4 a b (n + 1001 + 7 * i) ∧ H4 g = some (.lst vs) ∧ DpAll K (tps H4) vs (ss.map stD) ∧ WbOk c ss ∧ (ss.length : Int) + (t - i) ≤ m) ?_ ?_ ?_⟩
      · exact ⟨none, none, vs, ss, rfl, hE3.trans e4, s4, e4.at hG3 ga gb, dpa_ex (tps_hid e4 hS3) _ _ hD3, hW, by omega⟩
      · rintro i σ H5 hi ⟨x9, x10, vs, ss, rfl, hE5, hS5, hG5, hD5, hW5, hl5⟩
        have hvl := dpa_len hD5
        rw [List.length_map] at hvl
        -- step_here
        refine ⟨_, rfl, _, rfl, _, rfl, a, b, n + 1001 + 7 * i, c, rfl, hS5, by omega, by omega, by omega, fun H6 d1 e6 s6 d10 d11 => ?_⟩
        refine ⟨_, rfl, _, rfl, a, b, n + 1001 + 7 * i + 1, c, rfl, s6, by omega, by omega, by omega, fun H7 d2 e7 s7 d20 d21 => ?_⟩
        refine ⟨_, rfl, a, b, n + 1001 + 7 * i + 2, d1, d2, y, rfl, s7, by omega, fun H8 p st e8 s8 hp hd so st' k1 sm => ?_⟩
        have hE8 : ExS a b H H8 := hE5.trans (e6.trans (e7.trans e8))
        have hG8 : H8 g = some (.lst vs) := e8.at (e7.at (e6.at hG5 ga gb) ga gb) ga gb
        have hD8 : DpAll K (tps H8) vs (ss.map stD) := dpa_ex (((tps_hid e6 hS5).trans (tps_hid e7 s6)).trans (tps_hid e8 s7)) _ _ hD5
        refine ⟨_, rfl, .inl ⟨rfl, _, SqL.of hG8⟩, _, rfl, _, rfl, stD st, ss.map stD, dp_ex tps_le _ _ hd, .lst (SqL.of hG8) (dpa_ex tps_le _ _ hD8), stD_shaped st, stDs_shaped ss, _, rfl, ?_⟩
        rw [any_eqv]
        have stok : StOk c st := ⟨by omega, by omega, by omega, by omega, k1⟩
        by_cases hin : st ∈ ss
        · rw [decide_eq_true hin]
          refine iteF ?_
          refine ⟨Nat.zero_le _, fun u hu => ?_⟩
          have hgu : g ≠ u := ne_of_none hG8 hu
          have hG9 : upd H8 u (.lst []) g = some (.lst vs) := by rw [upd_ne hgu]; exact hG8
          refine ⟨g, u, vs, [], rfl, rfl, hG9, upd_same, by rw [hvl, List.length_nil, Nat.add_zero]; exact sz_le (by omega), ?_⟩
          rw [List.append_nil]
          refine ⟨_, _, vs, ss, rfl, ExS.own (ExS.new hE8 hu) hg ga gb, ((s8.ex (Ex.new hu)).upd ga gb).mono (by omega), upd_same, dpa_ex ((tps_mono (Ex.new hu)).trans (tps_upd (NoTup.lst hG9))) _ _ hD8, hW5, by omega⟩
        · rw [decide_eq_false hin]
          refine iteT ?_
          refine ⟨_, rfl, by show 1 ≤ sizeLine; decide, fun u hu => ?_⟩
          have hgu : g ≠ u := ne_of_none hG8 hu
          have hG9 : upd H8 u (.lst [.ref p]) g = some (.lst vs) := by rw [upd_ne hgu]; exact hG8
          refine ⟨g, u, vs, [.ref p], rfl, rfl, hG9, upd_same, by rw [hvl, List.length_singleton]; exact sz_le (by omega), ?_⟩
          have tp : Ex (tps H8) (tps (upd (upd H8 u (.lst [.ref p])) g (.lst (vs ++ [.ref p])))) := (tps_mono (Ex.new hu)).trans (tps_upd (NoTup.lst hG9))
          refine ⟨_, _, vs ++ [.ref p], ss ++ [st], rfl, ExS.own (ExS.new hE8 hu) hg ga gb, ((s8.ex (Ex.new hu)).upd ga gb).mono (by omega), upd_same, ?_, ?_, by rw [List.length_append, List.length_singleton]; omega⟩
          · rw [List.map_append]
            exact dpa_app (dpa_ex tp _ _ hD8) (.cons (dp_ex tp _ _ hd) .nil)
          · refine ⟨c1, fun s hs => ?_, fun s hs => ?_, ?_⟩
            · rcases List.mem_append.mp hs with hs | hs
              · exact hW5.ok s hs
              · obtain rfl := List.mem_singleton.mp hs
                exact stok
            · rcases List.mem_append.mp hs with hs | hs
              · exact hW5.sm s hs
              · obtain rfl := List.mem_singleton.mp hs
                exact sm
            · refine List.nodup_append.mpr ⟨hW5.nd, List.nodup_cons.mpr ⟨by simp, List.nodup_nil⟩, fun x hx y2 hy e => ?_⟩
              obtain rfl := List.mem_singleton.mp hy
              subst e
              exact hin hx
      · rintro σ H5 ⟨x9, x10, vs, ss, rfl, hE5, hS5, hG5, hD5, hW5, hl5⟩
        exact ⟨x7, x8, x9, x10, vs, ss, rfl, hE5, hS5.mono (by omega), hG5, hD5, hW5, by omega⟩
    rintro σ H4 ⟨x7, x8, x9, x10, vs, ss, rfl, hE4, hS4, hG4, hD4, hW4, hl4⟩
    have hvl := dpa_len hD4
    rw [List.length_map] at hvl
    refine ⟨_, rfl, _, rfl, _, rfl, a, b, n + 10000, g, vs, rfl, hS4, SqL.of (by rw [hid_ne ga gb]; exact hG4), by omega, by omega, fun H5 p ys e5 s5 hp hP hperm => ?_⟩
    obtain ⟨ts, hts, hD5⟩ := dpa_perm hperm (dpa_ex (tps_hid e5 hS4) _ _ hD4)
    refine ⟨by show 2 ≤ sizeLine; decide, fun q hq => ?_⟩
    have hpq : p ≠ q := ne_of_none hP hq
    refine k _ q p c ys ts (ExS.new (hE4.trans e5) hq) ((s5.ex (Ex.new hq)).mono (by omega)) (ExS.back (hE4.trans e5) s5 hq) (ExS.back hE4 hS4 hp) upd_same (by rw [upd_ne hpq]; exact hP) (dpa_ex (tps_mono (Ex.new hq)) _ _ hD5) (hW4.perm hts) c2 (by rw [hts.length_eq]; exact hl4)
end
end AA

set_option Elab.async false
set_option linter.all false
set_option maxRecDepth 100000
set_option maxHeartbeats 4000000
namespace AA
open PySem PySem.Spec PyProof.Rows L2 Evl
/-! ### lists for tuples, tuples for lists -/
mutual
inductive Ls : PyData → PyData → Prop
  | int (i : Int) : Ls (.int i) (.int i)
  | ll {xs ys : List PyData} : LsA xs ys → Ls (.list xs) (.list ys)
  | lt {xs ys : List PyData} : LsA xs ys → Ls (.list xs) (.tuple ys)
  | tl {xs ys : List PyData} : LsA xs ys → Ls (.tuple xs) (.list ys)
  | tt {xs ys : List PyData} : LsA xs ys → Ls (.tuple xs) (.tuple ys)
inductive LsA : List PyData → List PyData → Prop
  | nil : LsA [] []
  | cons {x y : PyData} {xs ys : List PyData} : Ls x y → LsA xs ys → LsA (x :: xs) (y :: ys)
end
theorem LsA.app : ∀ {xs ys us vs : List PyData}, LsA xs ys → LsA us vs → LsA (xs ++ us) (ys ++ vs)
  | [], _, _, _, h, k => by
    cases h
    exact k
  | x :: xs, _, _, _, h, k => by
    cases h with
    | cons h1 h2 => exact .cons h1 (LsA.app h2 k)
mutual
/-- allI in lists and tuples alone -/
def allI : PyData → Bool
  | .int _ => true
  | .list xs => allIA xs
  | .tuple xs => allIA xs
  | _ => false
def allIA : List PyData → Bool
  | [] => true
  | x :: xs => allI x && allIA xs
end
mutual
def cnt : PyData → Nat
  | .list xs => cntA xs + 1
  | .tuple xs => cntA xs + 1
  | _ => 1
def cntA : List PyData → Nat
  | [] => 0
  | x :: xs => cnt x + cntA xs
end
theorem cnt_pos : ∀ d : PyData, 1 ≤ cnt d
  | .none => Nat.le_refl _
  | .bool _ => Nat.le_refl _
  | .int _ => Nat.le_refl _
  | .str _ => Nat.le_refl _
  | .list xs => Nat.le_add_left _ _
  | .tuple xs => Nat.le_add_left _ _
  | .dict _ => Nat.le_refl _
theorem cntA_len : ∀ ds : List PyData, ds.length ≤ cntA ds
  | [] => Nat.le_refl _
  | d :: r => by
    have h1 := cnt_pos d
    have h2 := cntA_len r
    show r.length + 1 ≤ cnt d + cntA r
    omega
theorem cntA_app : ∀ (ds es : List PyData), cntA (ds ++ es) = cntA ds + cntA es
  | [], es => (Nat.zero_add _).symm
  | d :: r, es => by
    show cnt d + cntA (r ++ es) = cnt d + cntA r + cntA es
    rw [cntA_app r es, Nat.add_assoc]
theorem cntA_get {ds : List PyData} {i : Nat} {d : PyData} (h : ds[i]? = some d) : cntA (ds.take (i + 1)) = cntA (ds.take i) + cnt d := by
  rw [List.take_add_one, h]
  show cntA (ds.take i ++ [d]) = _
  rw [cntA_app]
  rfl
theorem cntA_take_le (ds : List PyData) (i : Nat) : cntA (ds.take i) ≤ cntA ds := by
  have : cntA ds = cntA (ds.take i ++ ds.drop i) := by rw [List.take_append_drop]
  rw [this, cntA_app]
  omega
theorem allIA_get : ∀ {ds : List PyData} {i : Nat} {d : PyData}, allIA ds = true → ds[i]? = some d → allI d = true
  | [], _, _, _, e => by simp at e
  | x :: xs, 0, d, h, e => by
    cases (Option.some.inj e)
    exact (Bool.and_eq_true_iff.mp h).1
  | x :: xs, i + 1, d, h, e => allIA_get (i := i) (Bool.and_eq_true_iff.mp h).2 e
theorem depthA_get : ∀ {ds : List PyData} {i : Nat} {d : PyData}, ds[i]? = some d → d.depth ≤ PyData.depthAll ds
  | [], _, _, e => by simp at e
  | x :: xs, 0, d, e => by
    cases (Option.some.inj e)
    show _ ≤ max _ _
    omega
  | x :: xs, i + 1, d, e => by
    have := depthA_get (ds := xs) (i := i) e
    show _ ≤ max _ _
    omega
theorem LsA.len : ∀ {xs ys : List PyData}, LsA xs ys → xs.length = ys.length
  | [], _, h => by
    cases h
    rfl
  | x :: xs, _, h => by
    cases h with
    | cons h1 h2 =>
      rw [List.length_cons, List.length_cons, LsA.len h2]
/-- a walk that is a list's or a tuple's -/
theorem pi_or {X : Cx} {tg l : Expr} {t1 t2 : TI} (h1 : PI X tg l t1) (h2 : PI X tg l t2) : PI X tg l (fun σ H R => t1 σ H R ∨ t2 σ H R) :=
  ⟨fun pins s σ H R I h => h.elim (h1.run pins s σ H R I) (h2.run pins s σ H R I)⟩
theorem ty_l {K : PySem.W.Frag} {H : Hp} {a : Addr} {xs : List V} (h : SqL K H a xs) : TyX K H (.ref a) (.type "list") := by
  rcases h with (h | ⟨o, h⟩) | ⟨o, its, n, h1, h2, _⟩
  · exact .base (.lst h)
  · exact .base (.frz h)
  · exact .kList h1 h2
theorem ty_t {K : PySem.W.Frag} {H : Hp} {a : Addr} {xs : List V} (h : SqT K H a xs) : TyX K H (.ref a) (.type "tuple") := by
  rcases h with (h | ⟨o, h⟩) | ⟨o, its, n, h1, h2, _⟩
  · exact .base (.tup h)
  · exact .fTuple h
  · exact .kTuple h1 h2
theorem seq_yes_l {K : PySem.W.Frag} : PySem.W.kitAny K (.type "list") [.type "list", .type "tuple"] = some true := kitAny_cons (b := true) (kit_ty (by decide +kernel)) (fun z => nomatch z) (fun _ => rfl)
theorem seq_yes_t {K : PySem.W.Frag} : PySem.W.kitAny K (.type "tuple") [.type "list", .type "tuple"] = some true :=
  kitAny_cons (b := false) (kit_ty (by decide +kernel)) (fun _ => kitAny_cons (b := true) (kit_ty (by decide +kernel)) (fun z => nomatch z) (fun _ => rfl)) (fun z => nomatch z)
theorem seq_no_i {K : PySem.W.Frag} : PySem.W.kitAny K (.type "int") [.type "list", .type "tuple"] = some false :=
  kitAny_cons (b := false) (kit_ty (by decide +kernel)) (fun _ => kitAny_cons (b := false) (kit_ty (by decide +kernel)) (fun _ => kitAny_nil) (fun z => nomatch z)) (fun z => nomatch z)
section
variable {P : Program} {w : World} {K : PySem.W.Frag} {mg : Str → Option Value} {base : Heap}
/-! ### _law_loose -/
def spLoose (K : PySem.W.Frag) (D : Nat) : Sp := fun vs H Q _ => ∃ (a b : Addr) (n : Nat) (v : V) (d : PyData), vs = [.ref a, v] ∧ SAt H a b n ∧ Dp K (hid a b H) v d ∧ allI d = true ∧ d.depth < D ∧ n + cnt d < 900000000 ∧ cnt d < 1000000 ∧
  ∀ (H' : Hp) (v' : V) (d' : PyData), ExS a b H H' → SAt H' a b (n + cnt d) → Dp K (nw H H') v' d' → Ls d d' → Q v' H'
theorem scLoose : FnScope ["_law_stream_here", "_law_thing", "_law_some", "_law_one"] ["_law_stream_here", "_law_thing"] (defScope sLoose) := ⟨rfl, rfl, rfl, by decide +kernel, rfl, by decide +kernel, by decide +kernel⟩
theorem ok_loose {f : Addr} {fd : FuncData} (F : L2.Fun K "_law_loose" "_law_loose" sLoose f fd) (T : Bn mg) (hm : mg "_law_loose" = some (.ref f)) (bL : Binds K fd ["_law_stream_here", "_law_thing"] []) (cD : C8.Cal P w K mg base 1 "_law_draw" spDraw []) :
    ∀ D : Nat, FnOk P w K mg base CX0 (D + 2) f fd ["_law_stream_here", "_law_thing"] (spLoose K D)
  | 0 => ⟨fun vs H Q E h => by
      obtain ⟨a, b, n, v, d, rfl, _⟩ := h
      rfl, fun A outer s H args us vs Q E _ _ _ _ h => by
      obtain ⟨a, b, n, v, d, _, _, _, _, h, _⟩ := h
      exact absurd h (Nat.not_lt_zero _)⟩
  | D + 1 => by
    have cL : C8.Cal P w K mg base (D + 2) "_law_loose" (spLoose K D) [] := cal_of F hm bL (ok_loose F T hm bL cD D)
    refine F.ok scLoose (fun vs H Q E h => ?_) (fun cdv A outer s H vs Q E hr h => ?_)
    · obtain ⟨a, b, n, v, d, rfl, _⟩ := h
      rfl
    · obtain ⟨a, b, n, v, d, rfl, hS, hd, hi, hdp, hn, hc, k⟩ := h
      refine ⟨_, pss_cons (ps_if (pt_val (pe_callB call_isiT (by rfl) T.isinstance boot_isinstance (pa_cons (pv 1) (pa_cons (pe_tup (pa_cons (pe_bltn (v := .ty "list") (by rfl) T.list boot_list rfl) (pa_cons (pe_bltn (v := .ty "tuple") (by rfl) T.tuple boot_tuple rfl) pa_nil))) pa_nil))))
          (pss_cons (ps_setLc (i := 2) (own := [("_law_one", 3)]) (g := gName 3) (tt := tYes) (by rfl) scLoose.nd rfl rfl (sw_true rfl rfl rfl (by decide +kernel)) (pi_or (pi_list (pv 1)) (pi_tup (pv 1))) (blkOk_by (N := ["_law_stream_here", "_law_thing", "_law_some", "_law_one"]) (sc := defScope sLoose) (by decide +kernel))
              (fun _ _ _ _ _ => pg_name (i := 3) scLoose.nd rfl (Or.inl rfl)) (fun _ _ _ _ _ => pts_nil) (fun _ _ _ _ _ => C8.pe_c cL hr (by omega) (by rfl) (pa_cons (pv 0) (pa_cons (pv 3) pa_nil))))
            (pss_one (ps_ret (pe_ifExp (pt_cmpR op_eq (C8.pe_c cD hr (by omega) (by rfl) (pa_cons (pv 0) (pa_cons pe_int pa_nil))) pe_int (nomark _)) (pv 2) (pe_callTy call_tuple_of (by rfl) T.tuple boot_tuple (pa_cons (pv 2) pa_nil)))))) pss_nil)
        (pss_one (ps_ret (pv 1))), ?_⟩
      refine ⟨_, rfl, by show 2 ≤ sizeLine; decide, fun p hp => ?_⟩
      have pa := hS.nea hp
      have pb := hS.neb hp
      have e1 : ExS a b H (upd H p (.tup [.ty "list", .ty "tuple"])) := ExS.new ExS.rfl hp
      have s1 := hS.ex (Ex.new (o := .tup [.ty "list", .ty "tuple"]) hp)
      -- the items, whatever they stand in
      have turn : ∀ (c : Addr) (xs : List V) (ds : List PyData) (L : Addr), DpAll K (hid a b H) xs ds → allIA ds = true → PyData.depthAll ds < D → n + cntA ds + 1 < 900000000 → cntA ds < 1000000 → H L = none →
          ∀ (i : Nat) (x : V) (H1 : Hp), xs[i]? = some x →
            (∃ (ys : List V) (es : List PyData), ExS a b H H1 ∧ SAt H1 a b (n + cntA (ds.take i)) ∧ H1 L = some (.lst ys) ∧ DpAll K (hid L L (nw H H1)) ys es ∧ LsA (ds.take i) es ∧ ys.length = i) →
            spLoose K D [.ref a, x] H1 (fun y H4 => ∃ acc, H4 L = some (.lst acc) ∧ acc.length < sizeLine ∧
              ∃ (ys : List V) (es : List PyData), ExS a b H (upd H4 L (.lst (acc ++ [y]))) ∧ SAt (upd H4 L (.lst (acc ++ [y]))) a b (n + cntA (ds.take (i + 1))) ∧ upd H4 L (.lst (acc ++ [y])) L = some (.lst ys) ∧
                DpAll K (hid L L (nw H (upd H4 L (.lst (acc ++ [y]))))) ys es ∧ LsA (ds.take (i + 1)) es ∧ ys.length = i + 1) E := by
        rintro c xs ds L hD hA hdep hn hc hL i x H1 hi ⟨ys, es, hE, hS1, hL1, hY, hLs, hyl⟩
        obtain ⟨di, hdi, hx⟩ := dpa_get hD hi
        have h1 := cntA_take_le ds (i + 1)
        rw [cntA_get hdi] at h1
        have hlen := cntA_len ds
        have hil : i < ds.length := (List.getElem?_eq_some_iff.mp hdi).1
        have la := hS.nea hL
        have lb := hS.neb hL
        refine ⟨a, b, n + cntA (ds.take i), x, di, rfl, hS1, dp_ex hE _ _ hx, allIA_get hA hdi, Nat.lt_of_le_of_lt (depthA_get hdi) hdep, by omega, by omega, fun H2 v' d' e2 s2 hv' hls => ?_⟩
        have hL2 : H2 L = some (.lst ys) := e2.at hL1 la lb
        have ups : Ex (hid L L (nw H H2)) (hid L L (nw H (upd H2 L (.lst (ys ++ [v']))))) := fun z o hz => by
          obtain ⟨z1, z2, _⟩ := hid_some hz
          obtain ⟨z3, z4⟩ := nw_some z1
          rw [hid_ne z2 z2]
          exact nw_of z3 (by rw [upd_ne z2]; exact z4)
        refine ⟨ys, hL2, by rw [hyl]; exact sz_m (by omega), ys ++ [v'], es ++ [d'], ExS.own (hE.trans e2) hL la lb, ?_, upd_same, ?_, ?_, by rw [List.length_append, hyl]; rfl⟩
        · rw [cntA_get hdi, ← Nat.add_assoc]
          exact s2.upd la lb
        · refine dpa_app (dpa_ex ((hid_mono (nw_step hS e2)).trans ups) _ _ hY) (.cons (dp_ex (Ex.trans (fun z o hz => ?_) ups) _ _ hv') .nil)
          obtain ⟨z1, z2⟩ := nw_some hz
          have zL : z ≠ L := fun q => by
            rw [q, hL1] at z1
            cases z1
          rw [hid_ne zL zL]
          exact nw_of (hE.back hS1 z1) z2
        · rw [List.take_add_one, hdi]
          exact LsA.app hLs (.cons hls .nil)
      -- behind the comprehension: what is handed back
      have fin1 : ∀ (ds : List PyData) (L : Addr) (ys : List V) (es : List PyData) (H1 H2 : Hp), H L = none → ExS a b H H1 → SAt H1 a b (n + cntA ds) → H1 L = some (.lst ys) → DpAll K (hid L L (nw H H1)) ys es → (Ls d (.list es) ∧ Ls d (.tuple es)) → cnt d = cntA ds + 1 →
          ExS a b H1 H2 → SAt H2 a b (n + cntA ds + 1) → Q (.ref L) H2 ∧ SqL K H2 L ys ∧ ∀ u, H2 u = none → Q (.ref u) (upd H2 u (.tup ys)) := by
        intro ds L ys es H1 H2 hL hE hS1 hL1 hY hls hcd e2 s2
        have la := hS.nea hL
        have lb := hS.neb hL
        have hL2 : H2 L = some (.lst ys) := e2.at hL1 la lb
        have hY2 := dpa_ex ((hid_mono (nw_step hS e2)).trans hid_ex) _ _ hY
        refine ⟨k H2 (.ref L) (.list es) (hE.trans e2) (s2.mono (by omega)) (.lst (SqL.of (nw_of hL hL2)) hY2) hls.1, SqL.of hL2, fun u hu => ?_⟩
        have hu0 : H u = none := ExS.back (hE.trans e2) s2 hu
        refine k _ (.ref u) (.tuple es) (ExS.new (hE.trans e2) hu) ((s2.ex (Ex.new hu)).mono (by omega)) (.tup (SqT.of (nw_of hu0 upd_same)) (dpa_ex (fun z o hz => ?_) _ _ hY2)) hls.2
        obtain ⟨z1, z2⟩ := nw_some hz
        exact nw_of z1 (Ex.new hu z o z2)
      rcases d with _ | b0 | i0 | x0 | ds | ds | kvs
      · cases hi
      · cases hi
      · cases hd
        refine ⟨.int i0, p, _, _, [.type "list", .type "tuple"], false, rfl, upd_same, .cons (.ty _) (.cons (.ty _) .nil), .base (.int i0), seq_no_i, false, rfl, ?_⟩
        refine iteF ?_
        refine ⟨_, rfl, k _ (.int i0) (.int i0) e1 (s1.mono (by omega)) (.int i0) (.int i0)⟩
      · cases hi
      · cases hd with
        | lst hx hD =>
          rename_i c xs
          have hA : allIA ds = true := hi
          have hdep : PyData.depthAll ds < D := Nat.lt_of_succ_lt_succ hdp
          have hcn : cnt (.list ds) = cntA ds + 1 := rfl
          rw [hcn] at hn hc
          have hxl := dpa_len hD
          refine ⟨_, p, _, _, [.type "list", .type "tuple"], true, rfl, upd_same, .cons (.ty _) (.cons (.ty _) .nil), ty_l (ex_l (e1.trans hid_ex) hx), seq_yes_l, true, rfl, ?_⟩
          refine iteT ?_
          refine Or.inl ⟨_, rfl, c, rfl, ⟨xs, ex_l (e1.trans hid_ex) hx⟩, fun L hL => ?_⟩
          have hL0 : H L = none := fresh_back (Ex.new hp) hL
          have la := hS.nea hL0
          have lb := hS.neb hL0
          refine lc_list (xs := xs) (fun i H1 => ∃ (ys : List V) (es : List PyData), ExS a b H H1 ∧ SAt H1 a b (n + cntA (ds.take i)) ∧ H1 L = some (.lst ys) ∧ DpAll K (hid L L (nw H H1)) ys es ∧ LsA (ds.take i) es ∧ ys.length = i) ?_ ?_ ?_ ?_
          · exact ⟨[], [], ExS.own e1 hL0 la lb, s1.upd la lb, upd_same, .nil, .nil, rfl⟩
          · rintro i H1 _ ⟨ys, es, q⟩
            exact ex_l (q.1.trans hid_ex) hx
          · rintro i x H1 hxi q
            refine ⟨rfl, ?_⟩
            exact ⟨_, rfl, _, rfl, turn c xs ds L hD hA hdep (by omega) (by omega) hL0 i x H1 hxi q⟩
          · rintro H1 ⟨ys, es, hE, hS1, hL1, hY, hls, hyl⟩
            rw [hxl, List.take_of_length_le (Nat.le_refl _)] at hls hS1
            refine ⟨_, rfl, a, b, n + cntA ds, 2, rfl, hS1, by omega, by decide, by decide, fun H2 x e2 s2 x0 x1 => ⟨rfl, _, rfl, ?_⟩⟩
            obtain ⟨f1, f2, f3⟩ := fin1 ds L ys es H1 H2 hL0 hE hS1 hL1 hY ⟨.ll hls, .lt hls⟩ hcn e2 s2
            refine dec_ite (fun _ => ?_) (fun _ => ?_)
            · exact ⟨_, rfl, f1⟩
            · exact ⟨_, rfl, L, ys, rfl, .inl ⟨f2, f3⟩⟩
      · cases hd with
        | tup hx hD =>
          rename_i c xs
          have hA : allIA ds = true := hi
          have hdep : PyData.depthAll ds < D := Nat.lt_of_succ_lt_succ hdp
          have hcn : cnt (.tuple ds) = cntA ds + 1 := rfl
          rw [hcn] at hn hc
          have hxl := dpa_len hD
          refine ⟨_, p, _, _, [.type "list", .type "tuple"], true, rfl, upd_same, .cons (.ty _) (.cons (.ty _) .nil), ty_t (ex_t (e1.trans hid_ex) hx), seq_yes_t, true, rfl, ?_⟩
          refine iteT ?_
          refine Or.inr ⟨_, rfl, c, rfl, ⟨xs, ex_t (e1.trans hid_ex) hx⟩, fun L hL => ?_⟩
          have hL0 : H L = none := fresh_back (Ex.new hp) hL
          have la := hS.nea hL0
          have lb := hS.neb hL0
          refine lc_tup (xs := xs) (fun i H1 => ∃ (ys : List V) (es : List PyData), ExS a b H H1 ∧ SAt H1 a b (n + cntA (ds.take i)) ∧ H1 L = some (.lst ys) ∧ DpAll K (hid L L (nw H H1)) ys es ∧ LsA (ds.take i) es ∧ ys.length = i) ?_ ?_ ?_ ?_
          · exact ⟨[], [], ExS.own e1 hL0 la lb, s1.upd la lb, upd_same, .nil, .nil, rfl⟩
          · rintro i H1 _ ⟨ys, es, q⟩
            exact ex_t (q.1.trans hid_ex) hx
          · rintro i x H1 hxi q
            refine ⟨rfl, ?_⟩
            exact ⟨_, rfl, _, rfl, turn c xs ds L hD hA hdep (by omega) (by omega) hL0 i x H1 hxi q⟩
          · rintro H1 ⟨ys, es, hE, hS1, hL1, hY, hls, hyl⟩
            rw [hxl, List.take_of_length_le (Nat.le_refl _)] at hls hS1
            refine ⟨_, rfl, a, b, n + cntA ds, 2, rfl, hS1, by omega, by decide, by decide, fun H2 x e2 s2 x0 x1 => ⟨rfl, _, rfl, ?_⟩⟩
            obtain ⟨f1, f2, f3⟩ := fin1 ds L ys es H1 H2 hL0 hE hS1 hL1 hY ⟨.tl hls, .tt hls⟩ hcn e2 s2
            refine dec_ite (fun _ => ?_) (fun _ => ?_)
            · exact ⟨_, rfl, f1⟩
            · exact ⟨_, rfl, L, ys, rfl, .inl ⟨f2, f3⟩⟩
      · cases hi
end
end AA

set_option Elab.async false
set_option linter.all false
set_option maxRecDepth 100000
set_option maxHeartbeats 4000000
/-! A function of the module, held as a value: isinstance of it. -/
namespace AA
open PySem PySem.Spec PyProof.Rows
theorem fl_lk : typeLookup (.type "function") "__class__" = pure (some (.builtin "object.__class__")) := by
  rw [typeLookup_type, builtinLookup_eq_fast]
  kernel_rfl
theorem fl_sub : isSubtype (.type "function") (.type (".".intercalate ("object.__class__".cutAt '.').dropLast)) = pure true := by
  rw [F.owner_object_class, isSubtype_type]
  kernel_rfl
theorem fl_ga : Slot "function" "__getattribute__" "object.__getattribute__" :=
  .of (owner := "object") (n := "__getattribute__") (by rw [typeLookup_type, builtinLookup_eq_fast]; kernel_rfl)
    (by decide +kernel) (by decide +kernel) (by decide +kernel) (by first | exact .inl (by decide +kernel) | exact .inr (by decide +kernel))
    (by rw [isSubtype_type]; kernel_rfl)
section
variable {prog : Program} {w : World} {A : Around} {E : Value → Shared → Prop} {h : Heap} {g : Array GenState} {d : Drawn} {t : Nat} {os : OsState} {a : Addr} {o : Obj}
theorem fl_get {R : Result → Shared → Prop} (hx : h.get? a = some o) (hc : o.cls = .type "function") (hq : R (.ok (.ret (.type "function"))) ⟨h, g, d, t, os⟩) :
    codeAny (model prog w) A (.call (.builtin "getset_descriptor.__get__") ⟨[.builtin "object.__class__", .ref a, .type "function"], []⟩) R ⟨h, g, d, t, os⟩ := by
  have hT : (⟨h, g, d, t, os⟩ : Shared).TypeIs (.ref a) "function" := ⟨_, hx, hc⟩
  have hT5 : (⟨h, g, d, t, os⟩ : Shared).TypeIs (.builtin "object.__class__") "getset_descriptor" := F.typeOf_object_class
  have f8 := fl_sub
  refine codeAny_call_builtin F.slot_gs_get.plain F.entry_gs_get (F.slot_gs_get.check _ _ _ _ _ _ _ _ hT5 (F.args_gs_get _ _ _) ?_)
  repeat (any_goals (first | assumption | wp_step))
  refine ⟨Code.quiet_builtin _ (by decide +kernel), codeAny_builtin F.entry_object_class ?_⟩
  repeat (any_goals (first | assumption | wp_step))
theorem fl_entry {tk : Tok} {Q : PySem.Fin → Shared → Prop} (hx : h.get? a = some o) (hc : o.cls = .type "function") (hq : Q (.done (.ret (.type "function"))) ⟨h, g, d, t, os⟩) :
    wpAny (model prog w) A (Builtin.«object.__getattribute__» ⟨[.ref a, .str "__class__" tk], []⟩) Q E ⟨h, g, d, t, os⟩ := by
  have hT : (⟨h, g, d, t, os⟩ : Shared).TypeIs (.ref a) "function" := ⟨_, hx, hc⟩
  have hT5 : (⟨h, g, d, t, os⟩ : Shared).TypeIs (.builtin "object.__class__") "getset_descriptor" := F.typeOf_object_class
  have f4 := fl_lk
  have f5 := F.typeOf_object_class
  have f6 := F.slot_gs_get.lookup
  have f7 := F.slot_gs_set.lookup
  repeat (any_goals (first | assumption | wp_step))
  refine fl_get hx hc ?_
  repeat (any_goals (first | assumption | wp_step))
theorem fl_call {tk : Tok} {R : Result → Shared → Prop} (hx : h.get? a = some o) (hc : o.cls = .type "function") (hq : R (.ok (.ret (.type "function"))) ⟨h, g, d, t, os⟩) :
    codeAny (model prog w) A (.call (.builtin "object.__getattribute__") ⟨[.ref a, .str "__class__" tk], []⟩) R ⟨h, g, d, t, os⟩ :=
  codeAny_call_builtin fl_ga.plain F.entry_object_getattribute
    (fl_ga.check _ _ _ _ _ _ _ _ (show (⟨h, g, d, t, os⟩ : Shared).TypeIs (.ref a) "function" from ⟨_, hx, hc⟩) (F.args_object_getattribute_2 _ _) (fl_entry hx hc hq))
theorem fl_by {tk : Tok} {Q : Value → Shared → Prop} (hx : h.get? a = some o) (hc : o.cls = .type "function") (hq : Q (.type "function") ⟨h, g, d, t, os⟩) :
    wpAny (model prog w) A (getAttrBy (.ref a) (.str "__class__" tk) false) Q E ⟨h, g, d, t, os⟩ := by
  have hT : (⟨h, g, d, t, os⟩ : Shared).TypeIs (.ref a) "function" := ⟨_, hx, hc⟩
  have f2 := fl_ga.lookup
  have f3 := fl_ga.bind (.ref a)
  repeat (any_goals (first | assumption | wp_step))
  refine fl_call hx hc ?_
  repeat (any_goals (first | assumption | wp_step))
theorem fl_attr {Q : Option Value → Shared → Prop} (hx : h.get? a = some o) (hc : o.cls = .type "function") (hq : Q (some (.type "function")) ⟨h, g, d, t + 1, os⟩) :
    wpAny (model prog w) A (getAttr? (.ref a) "__class__") Q E ⟨h, g, d, t, os⟩ := by
  unfold getAttr? getAttrBy?
  repeat (any_goals (first | assumption | with_reducible apply fl_by hx hc | wp_step))
end
theorem kitx_fn {K : PySem.W.Frag} {a : Addr} : PySem.W.KitX K (.ref a) (.type "function") (PySem.W.KitAt a "function") :=
  PySem.W.kitx_of PySem.W.kitAt_ty (fun {_ _ _ _ _ s} p k => by
    obtain ⟨h, g, d, t, os⟩ := s
    obtain ⟨o, h1, h2⟩ := p
    exact fl_attr h1 h2 k)
theorem fl_eq : Slot "function" (cmpInfo .Eq).2.1 "object.__eq__" :=
  .of (owner := "object") (n := "__eq__") (by rw [typeLookup_type, builtinLookup_eq_fast]; kernel_rfl)
    (by decide +kernel) (by decide +kernel) (by decide +kernel) (by first | exact .inl (by decide +kernel) | exact .inr (by decide +kernel))
    (by rw [isSubtype_type]; kernel_rfl)
section
open L2
variable {X : Cx} {j : Nat}
/-- what isinstance asks of a value: TyX, or a function of the module -/
def TyF (K : PySem.W.Frag) (H : Hp) (x : V) (t : Value) : Prop := TyX K H x t ∨ ∃ (a : Addr) (o : Obj), x = .ref a ∧ K.lookup a = some o ∧ o.cls = .type "function" ∧ t = .type "function"
theorem kit_F {pins : List (Addr × Obj)} {σ : L2.St} {H : Hp} {s : Shared} {x : V} {u t : Value} (I : Inv X pins σ H s) (rx : RelV x u) (ty : TyF X.K H x t) :
    ∃ P : Heap → Prop, PySem.W.KitX X.K u t P ∧ P s.heap ∧ u ≠ .builtin "__main__.__loader__#opaque" := by
  rcases ty with ty | ⟨a, o, rfl, h1, h2, rfl⟩
  · exact kit_of I rx ty
  · cases (show u = Value.ref a from rx)
    exact ⟨_, kitx_fn, ⟨o, I.kIn a o h1, h2⟩, fun z => nomatch z⟩
def rIs1 (K : PySem.W.Frag) : List V → Hp → VK → Prop := fun xs H Q => ∃ (x c : V) (t u : Value) (b : Bool), xs = [x, c] ∧ ClsV c u ∧ TyF K H x t ∧ PySem.W.kitOne K t u = some b ∧ Q (.bl b) H
def rIsN (K : PySem.W.Frag) : List V → Hp → VK → Prop := fun xs H Q => ∃ (x : V) (tp : Addr) (cs : List V) (t : Value) (us : List Value) (b : Bool), xs = [x, .ref tp] ∧ H tp = some (.tup cs) ∧ Paired ClsV cs us ∧ TyF K H x t ∧ PySem.W.kitAny K t us = some b ∧ Q (.bl b) H
theorem call_is1 : CallR X (.builtin "isinstance") (rIs1 X.K) := by
  intro pins s σ H xs us Q I r h
  obtain ⟨x, c, t, u, b, rfl, k, ty, e, q⟩ := h
  obtain ⟨u1, u2, rfl, r1, r2⟩ := vals2 r
  cases k.eq r2
  obtain ⟨P, Z, p, hx⟩ := kit_F I r1 ty
  exact PySem.W.kia_one Z I.kIn p e hx fun tk => ⟨.bl b, H, I.tok tk, rfl, q⟩
theorem call_isN : CallR X (.builtin "isinstance") (rIsN X.K) := by
  intro pins s σ H xs us Q I r h
  obtain ⟨x, tp, cs, t, ws, b, rfl, hT, k, ty, e, q⟩ := h
  obtain ⟨u1, u2, rfl, r1, r2⟩ := vals2 r
  cases (show u2 = Value.ref tp from r2)
  obtain ⟨P, Z, p, hx⟩ := kit_F I r1 ty
  obtain ⟨_, its, rv, ob, g1, g2, n, g3⟩ := (show ObjOk X.prog X.w H s.heap tp (.tup cs) from I.hok tp _ hT)
  cases ClsV.all k rv
  obtain ⟨oc, od, dt, sl⟩ := ob
  simp only at g2 g3
  subst g2 g3
  exact PySem.W.kia_tup Z I.kIn p g1 e hx fun tk => ⟨.bl b, H, I.tok tk, rfl, q⟩
/-- f == f, a function of the module -/
def rEqF (K : PySem.W.Frag) : R2 := fun x y H Q => ∃ (f : Addr) (o : Obj), x = .ref f ∧ y = .ref f ∧ K.lookup f = some o ∧ o.cls = .type "function" ∧ Q (.bl true) H
theorem op_eqF (hr : Room j X.A) : OpR X (compareOp .Eq) (rEqF X.K) := by
  intro pins s σ H x y v u Q I rx ry h
  obtain ⟨f, o, rfl, rfl, h1, h2, q⟩ := h
  cases (show v = Value.ref f from rx)
  cases (show u = Value.ref f from ry)
  have hT : s.TypeIs (.ref f) "function" := ⟨o, I.kIn f o h1, h2⟩
  show wpAny _ _ (richCompare .Eq (.ref f) (.ref f)) _ _ s
  refine wpAny_richCompare_same_room (op := .Eq) hT hT fl_eq (wpAny_call_entry fl_eq hT F.cmpEntry_eq (objEq_entry_same ?_) (F.cmpArgs_eq _ _)) hr.units0
  exact ⟨_, rfl, fun e => (nomatch e), ⟨.bl true, H, I, rfl, q⟩⟩
end
end AA

set_option Elab.async false
set_option linter.all false
set_option maxRecDepth 100000
set_option maxHeartbeats 4000000
namespace AA
open PySem PySem.Spec PyProof.Rows L2 Evl
theorem op_orR {X : Cx} {f : Value → Value → Sem Value} {r1 r2 : R2} (h1 : OpR X f r1) (h2 : OpR X f r2) : OpR X f (fun x y H Q => r1 x y H Q ∨ r2 x y H Q) :=
  fun pins s σ H x y v u Q I rx ry h => h.elim (h1 pins s σ H x y v u Q I rx ry) (h2 pins s σ H x y v u Q I rx ry)
/-! ### alike, kind by kind -/
def leaf : V → Bool
  | .non => true
  | .bl _ => true
  | .int _ => true
  | .str z => PyData.strOk z
  | _ => false
/-- what an own class must say, so that isinstance asks its instances rightly -/
structure InsK (K : PySem.W.Frag) (C : Addr) : Prop where
  cl : Cls K C
  ha : PySem.W.findIn K (.ref C) "__class__" = some (some (.builtin "object.__class__"))
  hn : PySem.W.specialIn K (.builtin "object.__class__") "__get__" = some (some (.builtin "getset_descriptor.__get__"))
  ht : PySem.W.takesIn K (.builtin "object.__class__") = some true
  hm : PySem.W.mroIn K C (.type "object") = some true
  n1 : PySem.W.kitAny K (.ref C) [.type "list", .type "tuple"] = some false
  n2 : PySem.W.kitOne K (.ref C) (.type "dict") = some false
  n3 : PySem.W.kitOne K (.ref C) (.type "bool") = some false
  n4 : PySem.W.kitAny K (.ref C) [.type "list", .type "tuple", .type "dict"] = some false
def oI : Option Int → V
  | none => .non
  | some v => .int v
/-- a dict from integers to integers or None -/
def omK (l : List (Int × Option Int)) : List (Key × V) := l.map fun e => (Sum.inl e.1, oI e.2)
def Sm (K : PySem.W.Frag) (C : Addr) (R : Addr → Addr → Hp → Prop) (H : Hp) : Nat → V → V → Prop
  | 0, _, _ => False
  | n + 1, x, y => (x = y ∧ leaf x = true) ∨
      (∃ a b xs ys, x = .ref a ∧ y = .ref b ∧ SqL K H a xs ∧ SqL K H b ys ∧ Paired (Sm K C R H n) xs ys ∧ xs.length ≤ 1000000) ∨
      (∃ a b xs ys, x = .ref a ∧ y = .ref b ∧ SqT K H a xs ∧ SqT K H b ys ∧ Paired (Sm K C R H n) xs ys ∧ xs.length ≤ 1000000) ∨
      (∃ (a b : Addr) (l : List (Int × Option Int)), x = .ref a ∧ y = .ref b ∧ H a = some (.dK (omK l)) ∧ H b = some (.dK (omK l)) ∧ l.length ≤ 1000 ∧ (l = [] ∧ 0 < n ∨ 2 < n)) ∨
      (∃ a dx fs, x = .ref a ∧ y = .ref a ∧ H a = some (.ins C dx fs) ∧ R a a H) ∨
      (∃ f o, x = .ref f ∧ y = .ref f ∧ K.lookup f = some o ∧ o.cls = .type "function")
theorem sm_ex {K : PySem.W.Frag} {C : Addr} {R : Addr → Addr → Hp → Prop} {H H' : Hp} (hR : ∀ a b H H', Ex H H' → R a b H → R a b H') (e : Ex H H') : ∀ (n : Nat) (x y : V), Sm K C R H n x y → Sm K C R H' n x y
  | 0, _, _, h => h
  | n + 1, x, y, h => by
    rcases h with h | ⟨a, b, xs, ys, h1, h2, h3, h4, h5, h6⟩ | ⟨a, b, xs, ys, h1, h2, h3, h4, h5, h6⟩ | ⟨a, b, l, h1, h2, h3, h4, h5, h6⟩ | ⟨a, dx, fs, h1, h2, h3, h4⟩ | h
    · exact .inl h
    · exact .inr (.inl ⟨a, b, xs, ys, h1, h2, ex_l e h3, ex_l e h4, Paired.mapP h5 fun u v => sm_ex hR e n u v, h6⟩)
    · exact .inr (.inr (.inl ⟨a, b, xs, ys, h1, h2, ex_t e h3, ex_t e h4, Paired.mapP h5 fun u v => sm_ex hR e n u v, h6⟩))
    · exact .inr (.inr (.inr (.inl ⟨a, b, l, h1, h2, e _ _ h3, e _ _ h4, h5, h6⟩)))
    · exact .inr (.inr (.inr (.inr (.inl ⟨a, dx, fs, h1, h2, e _ _ h3, hR _ _ _ _ e h4⟩))))
    · exact .inr (.inr (.inr (.inr (.inr h))))
theorem kit_no2 {K : PySem.W.Frag} {T : String} (h1 : kitB T "list" = some false) (h2 : kitB T "tuple" = some false) : PySem.W.kitAny K (.type T) [.type "list", .type "tuple"] = some false :=
  kitAny_cons (b := false) (kit_ty h1) (fun _ => kitAny_cons (b := false) (kit_ty h2) (fun _ => kitAny_nil) (fun z => nomatch z)) (fun z => nomatch z)
theorem kit_no3 {K : PySem.W.Frag} {T : String} (h1 : kitB T "list" = some false) (h2 : kitB T "tuple" = some false) (h3 : kitB T "dict" = some false) : PySem.W.kitAny K (.type T) [.type "list", .type "tuple", .type "dict"] = some false :=
  kitAny_cons (b := false) (kit_ty h1) (fun _ => kitAny_cons (b := false) (kit_ty h2) (fun _ => kitAny_cons (b := false) (kit_ty h3) (fun _ => kitAny_nil) (fun z => nomatch z)) (fun z => nomatch z)) (fun z => nomatch z)
/-- a thing that is no list, no tuple, no dict, no bool, and equal to itself -/
def Plain (K : PySem.W.Frag) (C : Addr) (R : Addr → Addr → Hp → Prop) (H : Hp) (x : V) : Prop := ∃ t : Value, (∀ H', Ex H H' → TyF K H' x t) ∧ PySem.W.kitAny K t [.type "list", .type "tuple"] = some false ∧
  PySem.W.kitOne K t (.type "dict") = some false ∧ PySem.W.kitOne K t (.type "bool") = some false ∧ PySem.W.kitAny K t [.type "list", .type "tuple", .type "dict"] = some false ∧
  ∀ (H' : Hp) (Q' : VK), Ex H H' → (∀ H2, Ex H' H2 → Q' (.bl true) H2) → (rEqD K x x H' Q' ∨ rEqF K x x H' Q') ∨ rEqG (DIns C R) x x H' Q'
theorem str_eqv (x : Str) : PyData.eqv (.str x) (.str x) = true := by
  show (x == x) = true
  exact beq_self_eq_true x
theorem sm_plain {K : PySem.W.Frag} {C : Addr} {R : Addr → Addr → Hp → Prop} {H : Hp} (IC : InsK K C) (hR : ∀ a b H H', Ex H H' → R a b H → R a b H') {n : Nat} {x y : V} (h : Sm K C R H (n + 1) x y) :
    (x = y ∧ Plain K C R H x) ∨ (∃ b, x = .bl b ∧ y = .bl b) ∨
      (∃ a b xs ys, x = .ref a ∧ y = .ref b ∧ SqL K H a xs ∧ SqL K H b ys ∧ Paired (Sm K C R H n) xs ys ∧ xs.length ≤ 1000000) ∨
      (∃ a b xs ys, x = .ref a ∧ y = .ref b ∧ SqT K H a xs ∧ SqT K H b ys ∧ Paired (Sm K C R H n) xs ys ∧ xs.length ≤ 1000000) ∨
      (∃ (a b : Addr) (l : List (Int × Option Int)), x = .ref a ∧ y = .ref b ∧ H a = some (.dK (omK l)) ∧ H b = some (.dK (omK l)) ∧ l.length ≤ 1000 ∧ (l = [] ∧ 0 < n ∨ 2 < n)) := by
  rcases h with ⟨rfl, h⟩ | h | h | h | ⟨a, dx, fs, rfl, rfl, h3, h4⟩ | ⟨f, o, rfl, rfl, h1, h2⟩
  · cases x with
    | non => exact .inl ⟨rfl, .type "NoneType", fun _ _ => .inl (.base .non), kit_no2 (by decide +kernel) (by decide +kernel), kit_ty (by decide +kernel), kit_ty (by decide +kernel), kit_no3 (by decide +kernel) (by decide +kernel) (by decide +kernel), fun H' Q' e q => .inl (.inl ⟨.none, .none, .non, .non, rfl, rfl, q _ (Ex.refl _)⟩)⟩
    | bl b => exact .inr (.inl ⟨b, rfl, rfl⟩)
    | int i => exact .inl ⟨rfl, .type "int", fun _ _ => .inl (.base (.int i)), kit_no2 (by decide +kernel) (by decide +kernel), kit_ty (by decide +kernel), kit_ty (by decide +kernel), kit_no3 (by decide +kernel) (by decide +kernel) (by decide +kernel), fun H' Q' e q => .inl (.inl ⟨.int i, .int i, .int i, .int i, rfl, rfl, by
        have : PyData.eqv (.int i) (.int i) = true := beq_self_eq_true i
        rw [this]
        exact q _ (Ex.refl _)⟩)⟩
    | str z =>
      have hz : PyData.strOk z = true := h
      have hsh : SeqAt.shaped (.str z) = true := by
        show (PyData.strOk z && decide (PyData.depth (.str z) ≤ 64)) = true
        rw [hz]
        rfl
      exact .inl ⟨rfl, .type "str", fun _ _ => .inl (.base (.str z)), kit_no2 (by decide +kernel) (by decide +kernel), kit_ty (by decide +kernel), kit_ty (by decide +kernel), kit_no3 (by decide +kernel) (by decide +kernel) (by decide +kernel), fun H' Q' e q => .inl (.inl ⟨.str z, .str z, .str z, .str z, hsh, hsh, by
        rw [str_eqv]
        exact q _ (Ex.refl _)⟩)⟩
    | byt b => cases h
    | flt b => cases h
    | ref a => cases h
    | ty n => cases h
  · exact .inr (.inr (.inl h))
  · exact .inr (.inr (.inr (.inl h)))
  · exact .inr (.inr (.inr (.inr h)))
  · exact .inl ⟨rfl, .ref C, fun H' e => .inl (.base (.ins (e _ _ h3) IC.cl IC.ha IC.hn IC.ht IC.hm)), IC.n1, IC.n2, IC.n3, IC.n4, fun H' Q' e q => .inr ⟨⟨a, a, dx, dx, fs, fs, rfl, rfl, e _ _ h3, e _ _ h3, hR _ _ _ _ e h4⟩, fun H2 e2 => q H2 e2⟩⟩
  · exact .inl ⟨rfl, .type "function", fun _ _ => .inr ⟨f, o, rfl, h1, h2, rfl⟩, kit_no2 (by decide +kernel) (by decide +kernel), kit_ty (by decide +kernel), kit_ty (by decide +kernel), kit_no3 (by decide +kernel) (by decide +kernel) (by decide +kernel), fun H' Q' e q => .inl (.inr ⟨f, o, rfl, rfl, h1, h2, q _ (Ex.refl _)⟩)⟩
theorem paired_at {α β : Type} {F : α → β → Prop} : ∀ {xs : List α} {ys : List β} {i : Nat} {x : α}, Paired F xs ys → xs[i]? = some x → ∃ y, ys[i]? = some y ∧ F x y
  | _, _, _, _, .nil, e => by simp at e
  | _, _, 0, _, .cons r _, e => ⟨_, rfl, (Option.some.inj e) ▸ r⟩
  | _, _, i + 1, _, .cons _ t, e => paired_at (i := i) t e
theorem lc_zipL {K : PySem.W.Frag} {a b : Addr} {xs ys : List V} {g : TG} {tt : TT} {te : TE} {vs : List Nat} {σ : L2.St} {H1 : Hp} {D : Addr} {Qd : Hp → Prop} (hl : xs.length = ys.length) (Pv : Nat → Hp → Prop) (h0 : Pv 0 (upd H1 D (.lst [])))
    (hq : ∀ i H, Pv i H → SqL K H a xs ∧ SqL K H b ys)
    (hs : ∀ (i : Nat) (x y : V) (H : Hp) (T : Addr), xs[i]? = some x → ys[i]? = some y → Pv i H → H T = none → g (.ref T) (wipe σ vs) (upd H T (.tup [x, y])) fun σ2 H2 => wipe σ2 vs = wipe σ vs ∧ tt σ2 H2 fun c H3 =>
      if c = true then te σ2 H3 fun z H4 => ∃ acc, H4 D = some (.lst acc) ∧ acc.length < sizeLine ∧ Pv (i + 1) (upd H4 D (.lst (acc ++ [z]))) else Pv (i + 1) H3) (hd : ∀ H, Pv xs.length H → Qd H) :
    ∃ W : Nat → Nat → Hp → Prop, (∃ m, W 0 m (upd H1 D (.lst []))) ∧ ∀ i m H, W i m H →
      ((Itz K a b).stop i H ∧ Qd H) ∨ ((Itz K a b).go i H ∧ ∃ Nx : Hp → Prop, (∀ H', Nx H' → ∃ m', m' < m ∧ W (i + 1) m' H') ∧ ∀ x H', (Itz K a b).yld i H x H' → g x (wipe σ vs) H' fun σ2 H2 => wipe σ2 vs = wipe σ vs ∧ tt σ2 H2 fun c H3 =>
        if c = true then te σ2 H3 fun z H4 => ∃ acc, H4 D = some (.lst acc) ∧ acc.length < sizeLine ∧ Nx (upd H4 D (.lst (acc ++ [z]))) else Nx H3) := by
  refine ⟨fun i m H => m = xs.length - i ∧ i ≤ xs.length ∧ Pv i H, ⟨xs.length, by simp, Nat.zero_le _, h0⟩, ?_⟩
  rintro i m H ⟨rfl, hi, p⟩
  obtain ⟨q1, q2⟩ := hq i H p
  by_cases hlt : i < xs.length
  · have g1 : xs[i]? = some xs[i] := List.getElem?_eq_getElem hlt
    have g2 : ys[i]? = some (ys[i]'(by omega)) := List.getElem?_eq_getElem (by omega)
    refine .inr ⟨⟨xs, ys, _, _, q1, q2, g1, g2⟩, Pv (i + 1), fun H' p' => ⟨xs.length - (i + 1), by omega, rfl, hlt, p'⟩, fun x H' y => ?_⟩
    obtain ⟨T, z1, z2, rfl, hT, rfl, f1, f2⟩ := y
    exact hs i z1 z2 H T (f1 _ q1) (f2 _ q2) p hT
  · have e : i = xs.length := by omega
    subst e
    exact .inl ⟨⟨xs, ys, q1, q2, .inl (Nat.le_refl _)⟩, hd H p⟩
theorem lc_zipT {K : PySem.W.Frag} {a b : Addr} {xs ys : List V} {g : TG} {tt : TT} {te : TE} {vs : List Nat} {σ : L2.St} {H1 : Hp} {D : Addr} {Qd : Hp → Prop} (hl : xs.length = ys.length) (Pv : Nat → Hp → Prop) (h0 : Pv 0 (upd H1 D (.lst [])))
    (hq : ∀ i H, Pv i H → SqT K H a xs ∧ SqT K H b ys)
    (hs : ∀ (i : Nat) (x y : V) (H : Hp) (T : Addr), xs[i]? = some x → ys[i]? = some y → Pv i H → H T = none → g (.ref T) (wipe σ vs) (upd H T (.tup [x, y])) fun σ2 H2 => wipe σ2 vs = wipe σ vs ∧ tt σ2 H2 fun c H3 =>
      if c = true then te σ2 H3 fun z H4 => ∃ acc, H4 D = some (.lst acc) ∧ acc.length < sizeLine ∧ Pv (i + 1) (upd H4 D (.lst (acc ++ [z]))) else Pv (i + 1) H3) (hd : ∀ H, Pv xs.length H → Qd H) :
    ∃ W : Nat → Nat → Hp → Prop, (∃ m, W 0 m (upd H1 D (.lst []))) ∧ ∀ i m H, W i m H →
      ((RZ.ItzT K a b).stop i H ∧ Qd H) ∨ ((RZ.ItzT K a b).go i H ∧ ∃ Nx : Hp → Prop, (∀ H', Nx H' → ∃ m', m' < m ∧ W (i + 1) m' H') ∧ ∀ x H', (RZ.ItzT K a b).yld i H x H' → g x (wipe σ vs) H' fun σ2 H2 => wipe σ2 vs = wipe σ vs ∧ tt σ2 H2 fun c H3 =>
        if c = true then te σ2 H3 fun z H4 => ∃ acc, H4 D = some (.lst acc) ∧ acc.length < sizeLine ∧ Nx (upd H4 D (.lst (acc ++ [z]))) else Nx H3) := by
  refine ⟨fun i m H => m = xs.length - i ∧ i ≤ xs.length ∧ Pv i H, ⟨xs.length, by simp, Nat.zero_le _, h0⟩, ?_⟩
  rintro i m H ⟨rfl, hi, p⟩
  obtain ⟨q1, q2⟩ := hq i H p
  by_cases hlt : i < xs.length
  · have g1 : xs[i]? = some xs[i] := List.getElem?_eq_getElem hlt
    have g2 : ys[i]? = some (ys[i]'(by omega)) := List.getElem?_eq_getElem (by omega)
    refine .inr ⟨⟨xs, ys, _, _, q1, q2, g1, g2⟩, Pv (i + 1), fun H' p' => ⟨xs.length - (i + 1), by omega, rfl, hlt, p'⟩, fun x H' y => ?_⟩
    obtain ⟨T, z1, z2, rfl, hT, rfl, f1, f2⟩ := y
    exact hs i z1 z2 H T (f1 _ q1) (f2 _ q2) p hT
  · have e : i = xs.length := by omega
    subst e
    exact .inl ⟨⟨xs, ys, q1, q2, .inl (Nat.le_refl _)⟩, hd H p⟩
theorem all_true (n : Nat) : (List.replicate n true).all id = true := by
  rw [List.all_eq_true]
  intro x hx
  rw [(List.mem_replicate.mp hx).2]
  rfl
theorem same_items {K : PySem.W.Frag} {C : Addr} {R : Addr → Addr → Hp → Prop} {H H' : Hp} {m : Nat} (e : ∀ t xs, H t = some (.tup xs) → H' t = some (.tup xs)) : ∀ (l : List (Int × Option Int)) (ts us : List Addr), Paired (fun (t : Addr) (q : Key × V) => H t = some (.tup [kV q.1, q.2])) ts (omK l) → Paired (fun (t : Addr) (q : Key × V) => H' t = some (.tup [kV q.1, q.2])) us (omK l) → Paired (Sm K C R H' (m + 2)) (ts.map V.ref) (us.map V.ref)
  | [], [], [], _, _ => .nil
  | [], _ :: _, _, h, _ => by cases h
  | [], _, _ :: _, _, h => by cases h
  | q :: l, [], _, h, _ => by cases h
  | q :: l, _, [], _, h => by cases h
  | q :: l, t :: ts, u :: us, h, g => by
    cases h with
    | cons h1 h2 =>
      cases g with
      | cons g1 g2 =>
        refine .cons (.inr (.inr (.inl ⟨t, u, [V.int q.1, oI q.2], [V.int q.1, oI q.2], rfl, rfl, SqT.of (e _ _ h1), SqT.of g1, .cons (.inl ⟨rfl, rfl⟩) (.cons (.inl ⟨rfl, ?_⟩) .nil), by show 2 ≤ 1000000; decide⟩))) (same_items e l ts us h2 g2)
        cases q.2 <;> rfl
section
variable {P : Program} {w : World} {K : PySem.W.Frag} {mg : Str → Option Value} {base : Heap}
def spSame (K : PySem.W.Frag) (C : Addr) (R : Addr → Addr → Hp → Prop) (n : Nat) : Sp := fun vs H Q _ => ∃ (x y : V), vs = [x, y] ∧ Sm K C R H n x y ∧ ∀ H', Ex H H' → Q (.bl true) H'
theorem scSame : FnScope ["_law_found", "_law_due", "_law_mine", "_law_theirs"] ["_law_found", "_law_due"] (defScope sSame) := ⟨rfl, rfl, rfl, by decide +kernel, rfl, by decide +kernel, by decide +kernel⟩
theorem ok_same {C : Addr} {R : Addr → Addr → Hp → Prop} {f fE : Addr} {fd fdE : FuncData} (F : L2.Fun K "_law_same" "_law_same" sSame f fd) (T : Bn mg) (hm : mg "_law_same" = some (.ref f)) (bS : Binds K fd ["_law_found", "_law_due"] [])
    (IC : InsK K C) (hR : ∀ a b H H', Ex H H' → R a b H → R a b H')
    (GE : FnOk P w K mg base CX0 2 fE fdE ["self", "other"] (spEq R)) (hs : PySem.W.findIn K (.ref C) "__eq__" = some (some (.ref fE))) (hf : PySem.W.isFn K (.ref fE) = true) (bE : Binds K fdE ["self", "other"] []) :
    ∀ n : Nat, FnOk P w K mg base CX0 (n + 3) f fd ["_law_found", "_law_due"] (spSame K C R n)
  | 0 => ⟨fun vs H Q E h => by
      obtain ⟨x, y, rfl, _⟩ := h
      rfl, fun A outer s H args us vs Q E _ _ _ _ h => by
      obtain ⟨x, y, _, h, _⟩ := h
      exact h.elim⟩
  | n + 1 => by
    have cS : C8.Cal P w K mg base (n + 3) "_law_same" (spSame K C R n) [] := cal_of F hm bS (ok_same F T hm bS IC hR GE hs hf bE n)
    refine F.ok scSame (fun vs H Q E h => ?_) (fun cdv A outer s H vs Q E hr h => ?_)
    · obtain ⟨x, y, rfl, _⟩ := h
      rfl
    · obtain ⟨x, y, rfl, hsm, k⟩ := h
      have rE : RcG (cxOf CX0 P w K mg base ["_law_found", "_law_due", "_law_mine", "_law_theirs"] "_law_same" (defScope sSame) f cdv A outer s H E).nox 2 (DIns C R) := rcG_ins (E := E0) GE hs hf bE pass0
      refine ⟨_, pss_cons (ps_if (pt_val (pe_callB call_isN (by rfl) T.isinstance boot_isinstance (pa_cons (pv 1) (pa_cons (pe_tup (pa_cons (pe_bltn (v := .ty "list") (by rfl) T.list boot_list rfl) (pa_cons (pe_bltn (v := .ty "tuple") (by rfl) T.tuple boot_tuple rfl) pa_nil))) pa_nil))))
          (pss_cons (ps_if (PW.pt (pw_or (pt_cmpR op_ne (pe_callB call_is1 (by rfl) T.isinstance boot_isinstance (pa_cons (pv 0) (pa_cons (pe_bltn (v := .ty "list") (by rfl) T.list boot_list rfl) pa_nil))) (pe_callB call_is1 (by rfl) T.isinstance boot_isinstance (pa_cons (pv 1) (pa_cons (pe_bltn (v := .ty "list") (by rfl) T.list boot_list rfl) pa_nil))) (nomark _))
              (pw_or1 (pt_cmpR op_ne (pe_callB call_is1 (by rfl) T.isinstance boot_isinstance (pa_cons (pv 0) (pa_cons (pe_bltn (v := .ty "tuple") (by rfl) T.tuple boot_tuple rfl) pa_nil))) (pe_callB call_is1 (by rfl) T.isinstance boot_isinstance (pa_cons (pv 1) (pa_cons (pe_bltn (v := .ty "tuple") (by rfl) T.tuple boot_tuple rfl) pa_nil))) (nomark _)))))
              (pss_one (ps_ret pe_bl)) pss_nil)
            (pss_one (ps_ret (pe_and (pe_cmpR op_eq (pe_callB call_len_seq (by rfl) T.len PySem.boot_len (pa_cons (pv 0) pa_nil)) (pe_callB call_len_seq (by rfl) T.len PySem.boot_len (pa_cons (pv 1) pa_nil)) (nomark _))
              (pe_one (pe_callB (cr_all (by rfl)) (by rfl) T.all boot_all (pa_cons (pe_lc (own := [("_law_mine", 2), ("_law_theirs", 3)]) (g := gTup K 2 (gCons (gName 2) (gCons (gName 3) gNil))) (tt := tYes) (by rfl) scSame.nd (RZ.pi_zipA (by rfl) T.zip (pa_cons (pv 0) (pa_cons (pv 1) pa_nil))) (blkOk_by (N := ["_law_found", "_law_due", "_law_mine", "_law_theirs"]) (sc := defScope sSame) (by decide +kernel))
                (fun _ _ _ _ _ => pg_tup rfl (pgs_cons (pg_name (i := 2) scSame.nd rfl (Or.inl rfl)) (pgs_cons (pg_name (i := 3) scSame.nd rfl (Or.inl rfl)) pgs_nil))) (fun _ _ _ _ _ => pts_nil) (fun _ _ _ _ _ => C8.pe_c cS hr (by omega) (by rfl) (pa_cons (pv 2) (pa_cons (pv 3) pa_nil)))) pa_nil))))))) pss_nil)
        (pss_cons (ps_if (pt_val (pe_callB call_is1 (by rfl) T.isinstance boot_isinstance (pa_cons (pv 1) (pa_cons (pe_bltn (v := .ty "dict") (by rfl) T.dict boot_dict rfl) pa_nil))))
          (pss_one (ps_ret (pe_and (pe_callB call_is1 (by rfl) T.isinstance boot_isinstance (pa_cons (pv 0) (pa_cons (pe_bltn (v := .ty "dict") (by rfl) T.dict boot_dict rfl) pa_nil)))
            (pe_one (C8.pe_c cS hr (by omega) (by rfl) (pa_cons (LiI.pe_listItems (by rfl) (pv 0) (by rfl) T.list boot_list) (pa_cons (LiI.pe_listItems (by rfl) (pv 1) (by rfl) T.list boot_list) pa_nil))))))) pss_nil)
        (pss_cons (ps_if (PW.pt (pw_or (pt_val (pe_callB call_is1 (by rfl) T.isinstance boot_isinstance (pa_cons (pv 1) (pa_cons (pe_bltn (v := .ty "bool") (by rfl) T.bool boot_bool rfl) pa_nil)))) (pw_or1 (pt_val (pe_callB call_is1 (by rfl) T.isinstance boot_isinstance (pa_cons (pv 0) (pa_cons (pe_bltn (v := .ty "bool") (by rfl) T.bool boot_bool rfl) pa_nil)))))))
          (pss_one (ps_ret (pe_and (pe_callB call_is1 (by rfl) T.isinstance boot_isinstance (pa_cons (pv 1) (pa_cons (pe_bltn (v := .ty "bool") (by rfl) T.bool boot_bool rfl) pa_nil))) (pe_and (pe_callB call_is1 (by rfl) T.isinstance boot_isinstance (pa_cons (pv 0) (pa_cons (pe_bltn (v := .ty "bool") (by rfl) T.bool boot_bool rfl) pa_nil))) (pe_one (pe_cmpR op_eq (pv 0) (pv 1) (nomark _))))))) pss_nil)
        (pss_one (ps_ret (pe_and (pe_not (pe_callB call_isN (by rfl) T.isinstance boot_isinstance (pa_cons (pv 0) (pa_cons (pe_tup (pa_cons (pe_bltn (v := .ty "list") (by rfl) T.list boot_list rfl) (pa_cons (pe_bltn (v := .ty "tuple") (by rfl) T.tuple boot_tuple rfl) (pa_cons (pe_bltn (v := .ty "dict") (by rfl) T.dict boot_dict rfl) pa_nil)))) pa_nil))))
            (pe_one (pe_cmpR (op_orR (op_orR (op_eqD hr.units) (op_eqF hr)) (op_eqG rE (hr.mono (by omega)))) (pv 0) (pv 1) (nomark _)))))))), ?_⟩
      rcases sm_plain IC hR hsm with ⟨rfl, t, hty, k1, k2, k3, k4, heq⟩ | ⟨b, rfl, rfl⟩ | ⟨a, b, xs, ys, rfl, rfl, hx, hy, hp2, hln⟩ | ⟨a, b, xs, ys, rfl, rfl, hx, hy, hp2, hln⟩ | ⟨a, b, l, rfl, rfl, ha, hb, hll, hn0⟩
      · refine ⟨_, rfl, by show 2 ≤ sizeLine; decide, fun p hp => ?_⟩
        have e1 : Ex H (upd H p (.tup [.ty "list", .ty "tuple"])) := Ex.new hp
        refine ⟨x, p, _, t, [.type "list", .type "tuple"], false, rfl, upd_same, .cons (.ty _) (.cons (.ty _) .nil), hty _ e1, k1, false, rfl, ?_⟩
        refine iteF ?_
        refine ⟨_, rfl, x, _, t, .type "dict", false, rfl, .ty _, hty _ e1, k2, false, rfl, ?_⟩
        refine iteF ?_
        refine ⟨_, rfl, x, _, t, .type "bool", false, rfl, .ty _, hty _ e1, k3, false, rfl, ?_⟩
        refine iteF ?_
        refine ⟨_, rfl, x, _, t, .type "bool", false, rfl, .ty _, hty _ e1, k3, false, rfl, ?_⟩
        refine iteF ?_
        refine ⟨_, rfl, by show 3 ≤ sizeLine; decide, fun p2 hp2 => ?_⟩
        have e2 := e1.trans (Ex.new (o := .tup [.ty "list", .ty "tuple", .ty "dict"]) hp2)
        refine ⟨x, p2, _, t, [.type "list", .type "tuple", .type "dict"], false, rfl, upd_same, .cons (.ty _) (.cons (.ty _) (.cons (.ty _) .nil)), hty _ e2, k4, false, rfl, true, rfl, ?_⟩
        refine iteT ?_
        exact ⟨_, rfl, _, rfl, heq _ _ e2 fun H2 e3 => k H2 (e2.trans e3)⟩
      · refine ⟨_, rfl, by show 2 ≤ sizeLine; decide, fun p hp => ?_⟩
        have e1 : Ex H (upd H p (.tup [.ty "list", .ty "tuple"])) := Ex.new hp
        have ty : ∀ H', TyF K H' (.bl b) (.type "bool") := fun H' => .inl (.base (.bl b))
        refine ⟨.bl b, p, _, _, [.type "list", .type "tuple"], false, rfl, upd_same, .cons (.ty _) (.cons (.ty _) .nil), ty _, kit_no2 (by decide +kernel) (by decide +kernel), false, rfl, ?_⟩
        refine iteF ?_
        refine ⟨_, rfl, .bl b, _, _, .type "dict", false, rfl, .ty _, ty _, kit_ty (by decide +kernel), false, rfl, ?_⟩
        refine iteF ?_
        refine ⟨_, rfl, .bl b, _, _, .type "bool", true, rfl, .ty _, ty _, kit_ty (by decide +kernel), true, rfl, ?_⟩
        refine iteT ?_
        refine iteT ?_
        refine ⟨_, rfl, .bl b, _, _, .type "bool", true, rfl, .ty _, ty _, kit_ty (by decide +kernel), true, rfl, ?_⟩
        refine iteT ?_
        refine ⟨_, rfl, .bl b, _, _, .type "bool", true, rfl, .ty _, ty _, kit_ty (by decide +kernel), true, rfl, ?_⟩
        refine iteT ?_
        refine ⟨_, rfl, _, rfl, rfl, ?_⟩
        rw [decide_eq_true rfl]
        exact k _ e1
      · have hll := hp2.length
        refine ⟨_, rfl, by show 2 ≤ sizeLine; decide, fun p hp => ?_⟩
        have e1 : Ex H (upd H p (.tup [.ty "list", .ty "tuple"])) := Ex.new hp
        have tx : TyF K (upd H p (.tup [.ty "list", .ty "tuple"])) (.ref a) (.type "list") := .inl (ty_l (ex_l e1 hx))
        have ty : TyF K (upd H p (.tup [.ty "list", .ty "tuple"])) (.ref b) (.type "list") := .inl (ty_l (ex_l e1 hy))
        refine ⟨.ref b, p, _, _, [.type "list", .type "tuple"], true, rfl, upd_same, .cons (.ty _) (.cons (.ty _) .nil), ty, seq_yes_l, true, rfl, ?_⟩
        refine iteT ?_
        refine ⟨_, rfl, .ref a, _, _, .type "list", true, rfl, .ty _, tx, kit_ty (by decide +kernel), _, rfl, .ref b, _, _, .type "list", true, rfl, .ty _, ty, kit_ty (by decide +kernel), rfl, false, by rw [decide_eq_true rfl]; rfl, ?_⟩
        refine iteF ?_
        refine ⟨_, rfl, .ref a, _, _, .type "tuple", false, rfl, .ty _, tx, kit_ty (by decide +kernel), _, rfl, .ref b, _, _, .type "tuple", false, rfl, .ty _, ty, kit_ty (by decide +kernel), rfl, false, by rw [decide_eq_true rfl]; rfl, ?_⟩
        refine iteF ?_
        refine ⟨_, rfl, a, xs, rfl, .inl (ex_l e1 hx), _, rfl, b, ys, rfl, .inl (ex_l e1 hy), rfl, true, by rw [hll, decide_eq_true rfl], ?_⟩
        refine iteT ?_
        refine ⟨_, rfl, _, rfl, a, b, xs, ys, rfl, .inl ⟨ex_l e1 hx, ex_l e1 hy, fun L hL => ?_⟩⟩
        refine lc_zipL hll (fun i H' => Ex (upd H p (.tup [.ty "list", .ty "tuple"])) H' ∧ H' L = some (.lst ((List.replicate i true).map V.bl))) ?_ ?_ ?_ ?_
        · exact ⟨Ex.mut (Ex.refl _) hL, upd_same⟩
        · rintro i H' ⟨q1, q2⟩
          exact ⟨ex_l (e1.trans q1) hx, ex_l (e1.trans q1) hy⟩
        · rintro i x y H' T hxi hyi ⟨q1, q2⟩ hT
          obtain ⟨y', hy', hF⟩ := paired_at hp2 hxi
          have ey : y' = y := Option.some.inj (hy'.symm.trans hyi)
          subst ey
          have hLT : L ≠ T := ne_of_none q2 hT
          have il : i < xs.length := (List.getElem?_eq_some_iff.mp hxi).1
          refine ⟨T, [x, y'], rfl, SqT.of upd_same, rfl, x, [y'], rfl, y', [], rfl, rfl, rfl, ?_⟩
          refine ⟨_, rfl, _, rfl, x, y', rfl, sm_ex hR (e1.trans (q1.trans (Ex.new hT))) n _ _ hF, fun H2 e2 => ?_⟩
          have hL2 : H2 L = some (.lst ((List.replicate i true).map V.bl)) := e2 _ _ (by rw [upd_ne hLT]; exact q2)
          refine ⟨_, hL2, by rw [List.length_map, List.length_replicate]; exact sz_m (by omega), Ex.mut (q1.trans ((Ex.new hT).trans e2)) hL, ?_⟩
          rw [List.replicate_succ', List.map_append]
          exact upd_same
        · rintro H' ⟨q1, q2⟩
          refine ⟨L, List.replicate xs.length true, rfl, SqL.of q2, ?_⟩
          rw [all_true]
          exact k _ (e1.trans q1)
      · have hll := hp2.length
        refine ⟨_, rfl, by show 2 ≤ sizeLine; decide, fun p hp => ?_⟩
        have e1 : Ex H (upd H p (.tup [.ty "list", .ty "tuple"])) := Ex.new hp
        have tx : TyF K (upd H p (.tup [.ty "list", .ty "tuple"])) (.ref a) (.type "tuple") := .inl (ty_t (ex_t e1 hx))
        have ty : TyF K (upd H p (.tup [.ty "list", .ty "tuple"])) (.ref b) (.type "tuple") := .inl (ty_t (ex_t e1 hy))
        refine ⟨.ref b, p, _, _, [.type "list", .type "tuple"], true, rfl, upd_same, .cons (.ty _) (.cons (.ty _) .nil), ty, seq_yes_t, true, rfl, ?_⟩
        refine iteT ?_
        refine ⟨_, rfl, .ref a, _, _, .type "list", false, rfl, .ty _, tx, kit_ty (by decide +kernel), _, rfl, .ref b, _, _, .type "list", false, rfl, .ty _, ty, kit_ty (by decide +kernel), rfl, false, by rw [decide_eq_true rfl]; rfl, ?_⟩
        refine iteF ?_
        refine ⟨_, rfl, .ref a, _, _, .type "tuple", true, rfl, .ty _, tx, kit_ty (by decide +kernel), _, rfl, .ref b, _, _, .type "tuple", true, rfl, .ty _, ty, kit_ty (by decide +kernel), rfl, false, by rw [decide_eq_true rfl]; rfl, ?_⟩
        refine iteF ?_
        refine ⟨_, rfl, a, xs, rfl, .inr (ex_t e1 hx), _, rfl, b, ys, rfl, .inr (ex_t e1 hy), rfl, true, by rw [hll, decide_eq_true rfl], ?_⟩
        refine iteT ?_
        refine ⟨_, rfl, _, rfl, a, b, xs, ys, rfl, .inr ⟨ex_t e1 hx, ex_t e1 hy, fun L hL => ?_⟩⟩
        refine lc_zipT hll (fun i H' => Ex (upd H p (.tup [.ty "list", .ty "tuple"])) H' ∧ H' L = some (.lst ((List.replicate i true).map V.bl))) ?_ ?_ ?_ ?_
        · exact ⟨Ex.mut (Ex.refl _) hL, upd_same⟩
        · rintro i H' ⟨q1, q2⟩
          exact ⟨ex_t (e1.trans q1) hx, ex_t (e1.trans q1) hy⟩
        · rintro i x y H' T hxi hyi ⟨q1, q2⟩ hT
          obtain ⟨y', hy', hF⟩ := paired_at hp2 hxi
          have ey : y' = y := Option.some.inj (hy'.symm.trans hyi)
          subst ey
          have hLT : L ≠ T := ne_of_none q2 hT
          have il : i < xs.length := (List.getElem?_eq_some_iff.mp hxi).1
          refine ⟨T, [x, y'], rfl, SqT.of upd_same, rfl, x, [y'], rfl, y', [], rfl, rfl, rfl, ?_⟩
          refine ⟨_, rfl, _, rfl, x, y', rfl, sm_ex hR (e1.trans (q1.trans (Ex.new hT))) n _ _ hF, fun H2 e2 => ?_⟩
          have hL2 : H2 L = some (.lst ((List.replicate i true).map V.bl)) := e2 _ _ (by rw [upd_ne hLT]; exact q2)
          refine ⟨_, hL2, by rw [List.length_map, List.length_replicate]; exact sz_m (by omega), Ex.mut (q1.trans ((Ex.new hT).trans e2)) hL, ?_⟩
          rw [List.replicate_succ', List.map_append]
          exact upd_same
        · rintro H' ⟨q1, q2⟩
          refine ⟨L, List.replicate xs.length true, rfl, SqL.of q2, ?_⟩
          rw [all_true]
          exact k _ (e1.trans q1)
      · have ty : ∀ (H' : Hp) (c : Addr), H' c = some (.dK (omK l)) → TyF K H' (.ref c) (.type "dict") := fun H' c h => .inl (.base (.dK h))
        refine ⟨_, rfl, by show 2 ≤ sizeLine; decide, fun p hp => ?_⟩
        have e1 : Ex H (upd H p (.tup [.ty "list", .ty "tuple"])) := Ex.new hp
        refine ⟨.ref b, p, _, _, [.type "list", .type "tuple"], false, rfl, upd_same, .cons (.ty _) (.cons (.ty _) .nil), ty _ _ (e1 _ _ hb), kit_no2 (by decide +kernel) (by decide +kernel), false, rfl, ?_⟩
        refine iteF ?_
        refine ⟨_, rfl, .ref b, _, _, .type "dict", true, rfl, .ty _, ty _ _ (e1 _ _ hb), kit_ty (by decide +kernel), true, rfl, ?_⟩
        refine iteT ?_
        refine ⟨_, rfl, .ref a, _, _, .type "dict", true, rfl, .ty _, ty _ _ (e1 _ _ ha), kit_ty (by decide +kernel), true, rfl, ?_⟩
        refine iteT ?_
        refine ⟨_, rfl, a, omK l, rfl, e1 _ _ ha, fun H2 p2 ts2 e2 _ _ _ g2 pr2 => ?_⟩
        refine ⟨_, rfl, b, omK l, rfl, e2 _ _ (e1 _ _ hb), fun H3 p3 ts3 e3 _ _ _ g3 pr3 => ?_⟩
        refine ⟨.ref p2, .ref p3, rfl, ?_, fun H4 e4 => k _ (e1.trans (Ex.trans e2 (Ex.trans e3 e4)))⟩
        have hlen : (omK l).length = l.length := by
          unfold omK
          rw [List.length_map]
        rcases hn0 with ⟨rfl, hn0⟩ | hn0
        · obtain ⟨m, rfl⟩ : ∃ m, n = m + 1 := ⟨n - 1, by omega⟩
          have ts2e : ts2 = [] := List.eq_nil_of_length_eq_zero pr2.length
          have ts3e : ts3 = [] := List.eq_nil_of_length_eq_zero pr3.length
          subst ts2e ts3e
          exact .inr (.inl ⟨p2, p3, [], [], rfl, rfl, SqL.of (e3 _ _ g2), SqL.of g3, .nil, Nat.zero_le _⟩)
        · obtain ⟨m, rfl⟩ : ∃ m, n = m + 3 := ⟨n - 3, by omega⟩
          refine .inr (.inl ⟨p2, p3, _, _, rfl, rfl, SqL.of (e3 _ _ g2), SqL.of g3, same_items (fun t xs h => e3 _ _ h) l ts2 ts3 pr2 pr3, ?_⟩)
          rw [List.length_map, pr2.length, hlen]
          omega
end
end AA

set_option Elab.async false
set_option linter.all false
set_option maxRecDepth 100000
set_option maxHeartbeats 4000000
/-! Steps in order: sorted of a list of them. -/
namespace AA
open PySem PySem.Spec PyProof.Rows L2 Evl
def pqLt (s t : St5) : Bool := if s.p = t.p then decide (s.q < t.q) else decide (s.p < t.p)
def stLt (s t : St5) : Bool :=
  if s.one = t.one then
    if s.other = t.other then
      if s.p = t.p ∧ s.q = t.q then
        if s.ticks = t.ticks then decide (s.change < t.change) else decide (s.ticks < t.ticks)
      else pqLt s t
    else decide (s.other < t.other)
  else decide (s.one < t.one)
theorem stLt_iff {s t : St5} : stLt s t = true ↔ s.one < t.one ∨ (s.one = t.one ∧ (s.other < t.other ∨ (s.other = t.other ∧ (s.p < t.p ∨ (s.p = t.p ∧ (s.q < t.q ∨ (s.q = t.q ∧ (s.ticks < t.ticks ∨ (s.ticks = t.ticks ∧ s.change < t.change))))))))) := by
  unfold stLt pqLt
  by_cases h1 : s.one = t.one
  · rw [if_pos h1]
    by_cases h2 : s.other = t.other
    · rw [if_pos h2]
      by_cases h3 : s.p = t.p ∧ s.q = t.q
      · rw [if_pos h3]
        by_cases h4 : s.ticks = t.ticks
        · rw [if_pos h4, decide_eq_true_eq]
          omega
        · rw [if_neg h4, decide_eq_true_eq]
          omega
      · rw [if_neg h3]
        by_cases h4 : s.p = t.p
        · rw [if_pos h4, decide_eq_true_eq]
          omega
        · rw [if_neg h4, decide_eq_true_eq]
          omega
    · rw [if_neg h2, decide_eq_true_eq]
      omega
  · rw [if_neg h1, decide_eq_true_eq]
    omega
theorem stLt_no {s t : St5} : stLt s t = false ↔ ¬ (s.one < t.one ∨ (s.one = t.one ∧ (s.other < t.other ∨ (s.other = t.other ∧ (s.p < t.p ∨ (s.p = t.p ∧ (s.q < t.q ∨ (s.q = t.q ∧ (s.ticks < t.ticks ∨ (s.ticks = t.ticks ∧ s.change < t.change)))))))))) := by
  rw [← stLt_iff]
  cases stLt s t <;> simp
theorem swo_st (k : Value → St5) : SrtO.Swo fun v u => stLt (k v) (k u) := by
  refine ⟨fun x y h => ?_, fun x y z h1 h2 => ?_⟩
  · have a := stLt_iff.mp h
    refine stLt_no.mpr ?_
    omega
  · have a := stLt_no.mp h1
    have b := stLt_no.mp h2
    refine stLt_no.mpr ?_
    omega
/-- a step stands at v -/
def IsSt (h : Heap) (v : Value) (s : St5) : Prop := ∃ (a u : Addr) (o r : Obj) (n m : Nat) (t1 t2 t3 t4 t5 t6 : Tok), v = .ref a ∧ h.get? a = some o ∧ o.cls = .type "tuple" ∧
  o.data = .seq #[.int s.one t1, .int s.other t2, .ref u, .int s.ticks t3, .int s.change t4] n ∧ h.get? u = some r ∧ r.cls = .type "tuple" ∧ r.data = .seq #[.int s.p t5, .int s.q t6] m
theorem IsSt.keeps {h h' : Heap} {v : Value} {s : St5} (x : IsSt h v s) (k : ∀ b o, h.get? b = some o → o.cls = .type "tuple" → h'.get? b = some o) : IsSt h' v s := by
  obtain ⟨a, u, o, r, n, m, t1, t2, t3, t4, t5, t6, e, h1, h2, h3, h4, h5, h6⟩ := x
  exact ⟨a, u, o, r, n, m, t1, t2, t3, t4, t5, t6, e, k _ _ h1 h2, h2, h3, k _ _ h4 h5, h5, h6⟩
section
variable {prog : Program} {w : World} {A : Around} {E : Value → Shared → Prop} {s : Shared}
theorem st_cmp {vs : List Value} {k : Value → St5} (hu : A.units + 1 < cLine) (hp : ∀ v ∈ vs, IsSt s.heap v (k v)) : SrtO.Cmp prog w A s (tuples' true) (fun p => p.1 ∈ vs) (SrtO.lt2 fun v u => stLt (k v) (k u)) := by
  intro p q hm hm'
  have h1 := hp _ hm
  have h2 := hp _ hm'
  show wpAny (model prog w) A (keyLt' (tuples' true) p.1 q.1) (fun r s' => s' = s ∧ r = stLt (k p.1) (k q.1)) (fun _ _ => False) s
  generalize k p.1 = x at h1 ⊢
  generalize k q.1 = y at h2 ⊢
  obtain ⟨a, u, o, r, n, m, t1, t2, t3, t4, t5, t6, e, g1, g2, g3, g4, g5, g6⟩ := h1
  obtain ⟨a', u', o', r', n', m', u1, u2, u3, u4, u5, u6, e', j1, j2, j3, j4, j5, j6⟩ := h2
  rw [e, e']
  refine PySem.W.kat_lt g1 g3 j1 j3 ?_
  show PySem.W.KatLex prog w A true (decide (5 < 5)) _ [(.int x.one t1, .int y.one u1), (.int x.other t2, .int y.other u2), (.ref u, .ref u'), (.int x.ticks t3, .int y.ticks u3), (.int x.change t4, .int y.change u4)] 0 s
  refine PySem.W.kat_cons (SeqAt.EqAt.int_int _ _ _ _ prog w _ _ ?_)
  refine PySem.W.kat_go (fun e1 => ?ye1) (fun e1 => ?ne1)
  case ne1 =>
    have ex : ¬ x.one = y.one := by simpa using e1
    refine PySem.W.kat_no (oneLt_int ⟨rfl, ?_⟩)
    unfold stLt
    rw [if_neg ex]
  have ex : x.one = y.one := by simpa using e1
  refine PySem.W.kat_yes (PySem.W.kat_cons (SeqAt.EqAt.int_int _ _ _ _ prog w _ _ ?_))
  refine PySem.W.kat_go (fun e2 => ?ye2) (fun e2 => ?ne2)
  case ne2 =>
    have ey : ¬ x.other = y.other := by simpa using e2
    refine PySem.W.kat_no (PySem.W.kat_one _ _ (PyProof.Rows.lt_int (Q := PySem.W.BoolBack _) ⟨rfl, ?_⟩))
    unfold stLt
    rw [if_pos ex, if_neg ey]
  have ey : x.other = y.other := by simpa using e2
  have k1 : IsTupleKey (PySem.intKind prog w) s.heap [x.p, x.q] u := ⟨r, _, m, g4, g5, g6, .cons (by simp [PySem.intKind, Value.isInt]) (.cons (by simp [PySem.intKind, Value.isInt]) .nil)⟩
  have k2 : IsTupleKey (PySem.intKind prog w) s.heap [y.p, y.q] u' := ⟨r', _, m', j4, j5, j6, .cons (by simp [PySem.intKind, Value.isInt]) (.cons (by simp [PySem.intKind, Value.isInt]) .nil)⟩
  refine PySem.W.kat_yes (PySem.W.kat_cons (wpAny_eqBool_tuple (by omega) k1 k2 ?_))
  refine PySem.W.kat_go (fun e3 => ?ye3) (fun e3 => ?ne3)
  case ne3 =>
    have ez : ¬ (x.p = y.p ∧ x.q = y.q) := by simpa using e3
    refine PySem.W.kat_no (PySem.W.kat_one _ _ (HT.lt_tupInts (ns := [x.p, x.q]) (ms := [y.p, y.q]) ⟨r, g4, g5, m, g6⟩ ⟨r', j4, j5, m', j6⟩ (.cons _ _ (.cons _ _ .nil)) (.cons _ _ (.cons _ _ .nil)) (by omega) ⟨rfl, ?_⟩))
    unfold stLt
    rw [if_pos ex, if_pos ey, if_neg ez]
    show HT.lexLt [x.p, x.q] [y.p, y.q] = pqLt x y
    rw [HT.lexLt_cons, HT.lexLt_cons, HT.lexLt_nil_nil]
    unfold pqLt
    by_cases hpp : x.p = y.p
    · rw [if_pos hpp, if_pos hpp, if_neg (fun z => ez ⟨hpp, z⟩)]
    · rw [if_neg hpp, if_neg hpp]
  have ez : x.p = y.p ∧ x.q = y.q := by simpa using e3
  refine PySem.W.kat_yes (PySem.W.kat_cons (SeqAt.EqAt.int_int _ _ _ _ prog w _ _ ?_))
  refine PySem.W.kat_go (fun e4 => ?ye4) (fun e4 => ?ne4)
  case ne4 =>
    have et : ¬ x.ticks = y.ticks := by simpa using e4
    refine PySem.W.kat_no (PySem.W.kat_one _ _ (PyProof.Rows.lt_int (Q := PySem.W.BoolBack _) ⟨rfl, ?_⟩))
    unfold stLt
    rw [if_pos ex, if_pos ey, if_pos ez, if_neg et]
  have et : x.ticks = y.ticks := by simpa using e4
  refine PySem.W.kat_yes (PySem.W.kat_cons (SeqAt.EqAt.int_int _ _ _ _ prog w _ _ ?_))
  refine PySem.W.kat_go (fun e5 => ?ye5) (fun e5 => ?ne5)
  case ne5 =>
    refine PySem.W.kat_no (PySem.W.kat_one _ _ (PyProof.Rows.lt_int (Q := PySem.W.BoolBack _) ⟨rfl, ?_⟩))
    unfold stLt
    rw [if_pos ex, if_pos ey, if_pos ez, if_pos et]
  have ec : x.change = y.change := by simpa using e5
  refine PySem.W.kat_yes (PySem.W.kat_nil ⟨rfl, ?_⟩)
  unfold stLt
  rw [if_pos ex, if_pos ey, if_pos ez, if_pos et, ec]
  exact (decide_eq_false (Int.lt_irrefl _)).symm
theorem st_firsts {h : Heap} : ∀ {vs : List Value}, (∀ v ∈ vs, ∃ s, IsSt h v s) → ∃ fs : List Value, PySem.W.KatTups h vs fs ∧ fs.length = vs.length ∧ ∀ f ∈ fs, ∃ x t, f = Value.int x t
  | [], _ => ⟨[], PySem.W.KatTups.nil, rfl, fun _ hm => absurd hm (by simp)⟩
  | v :: vs, hp => by
    obtain ⟨fs, h1, h2, h3⟩ := st_firsts (vs := vs) fun v' hm => hp v' (List.mem_cons_of_mem _ hm)
    obtain ⟨s, a, u, o, r, n, m, t1, t2, t3, t4, t5, t6, rfl, g1, g2, g3, _⟩ := hp v List.mem_cons_self
    refine ⟨.int s.one t1 :: fs, PySem.W.KatTups.cons g1 g2 g3 rfl h1, by rw [List.length_cons, List.length_cons, h2], fun f hm => ?_⟩
    rcases List.mem_cons.mp hm with rfl | hm
    · exact ⟨_, _, rfl⟩
    · exact h3 f hm
theorem st_sortable {a : Addr} {vs : List Value} {k : Value → St5} (hu : A.units + 1 < cLine) (h0 : 0 < vs.length) (hp : ∀ v ∈ vs, IsSt s.heap v (k v)) (ha : ∀ o, s.heap.get? a = some o → o.cls ≠ .type "tuple") :
    SrtO.SortableO prog w A s a vs fun v u => stLt (k v) (k u) := by
  intro h' keep
  have hp' : ∀ v ∈ vs, IsSt h' v (k v) := fun v hm => (hp v hm).keeps fun b o e c => keep b o (fun z => ha o (by rw [← z]; exact e) c) e
  obtain ⟨fs, h1, h2, h3⟩ := st_firsts fun v hm => ⟨_, hp' v hm⟩
  refine ⟨tuples' true, fun Q E hq => ?_, st_cmp hu hp'⟩
  refine PySem.W.kat_kind (T := .type "int") h1 (by omega) (fun f hm => ?_) (by rfl) ?_
  · obtain ⟨x, t, rfl⟩ := h3 f hm
    exact PySem.W.Looks.now
  · have e : (Value.type "int" != Value.type "tuple") = true := by decide +kernel
    rw [e]
    exact hq
end
section
open Classical
variable {X : Cx} {pins : List (Addr × Obj)} {σ : L2.St} {H : Hp} {s : Shared}
theorem is_st {v : V} {u : Value} {t : St5} (I : Inv X pins σ H s) (d : Dp X.K H v (stD t)) (r : RelV v u) : IsSt s.heap u t := by
  obtain ⟨a, b, rfl, h1, h2⟩ := stD_inv d
  cases (show u = Value.ref a from r)
  obtain ⟨i1, r1, ⟨o, g1, g2, n, g3⟩, _⟩ := I.tuple h1
  obtain ⟨i2, r2, ⟨o2, j1, j2, m, j3⟩, _⟩ := I.tuple h2
  cases r1 with
  | cons q1 r1 =>
    cases r1 with
    | cons q2 r1 =>
      cases r1 with
      | cons q3 r1 =>
        cases r1 with
        | cons q4 r1 =>
          cases r1 with
          | cons q5 r1 =>
            cases r1
            cases r2 with
            | cons p1 r2 =>
              cases r2 with
              | cons p2 r2 =>
                cases r2
                obtain ⟨t1, rfl⟩ := q1
                obtain ⟨t2, rfl⟩ := q2
                obtain rfl := q3
                obtain ⟨t3, rfl⟩ := q4
                obtain ⟨t4, rfl⟩ := q5
                obtain ⟨t5, rfl⟩ := p1
                obtain ⟨t6, rfl⟩ := p2
                exact ⟨a, b, o, o2, n, m, t1, t2, t3, t4, t5, t6, rfl, g1, g2, g3, j1, j2, j3⟩
theorem IsSt.uniq {h : Heap} {v : Value} {s t : St5} (x : IsSt h v s) (y : IsSt h v t) : s = t := by
  obtain ⟨a, u, o, r, n, m, t1, t2, t3, t4, t5, t6, rfl, g1, g2, g3, g4, g5, g6⟩ := x
  obtain ⟨a', u', o', r', n', m', u1, u2, u3, u4, u5, u6, e', j1, j2, j3, j4, j5, j6⟩ := y
  cases e'
  rw [g1] at j1
  cases j1
  rw [g3] at j3
  injection j3 with j3 _
  injection j3 with j3
  simp only [List.cons.injEq, Value.int.injEq, Value.ref.injEq, and_true] at j3
  obtain ⟨⟨e1, _⟩, ⟨e2, _⟩, e3, ⟨e4, _⟩, e5, _⟩ := j3
  subst e3
  rw [g4] at j4
  cases j4
  rw [g6] at j6
  injection j6 with j6 _
  injection j6 with j6
  simp only [List.cons.injEq, Value.int.injEq, and_true] at j6
  obtain ⟨⟨e6, _⟩, e7, _⟩ := j6
  cases s
  cases t
  simp_all
/-- steps in order -/
def SrS (ts : List St5) : Prop := ts.Pairwise fun x y => stLt y x = false
theorem dpa_of {K : PySem.W.Frag} {H : Hp} {k : Value → St5} : ∀ {l : List Value}, (∀ u ∈ l, Dp K H (backV u) (stD (k u))) → DpAll K H (l.map backV) ((l.map k).map stD)
  | [], _ => .nil
  | u :: l, h => .cons (h u List.mem_cons_self) (dpa_of fun v m => h v (List.mem_cons_of_mem _ m))
theorem ks_eq {k : Value → St5} (I : Inv X pins σ H s) : ∀ {xs : List V} {its : List Value} {ss : List St5}, Vals xs its → DpAll X.K H xs (ss.map stD) → (∀ v ∈ its, IsSt s.heap v (k v)) → its.map k = ss
  | [], _, ss, r, h, _ => by
    cases r
    cases ss with
    | nil => rfl
    | cons => cases h
  | x :: xs, _, [], r, h, _ => by cases h
  | x :: xs, _, t :: ss, r, h, hk => by
    cases r with
    | cons r1 r2 =>
      cases h with
      | cons h1 h2 =>
        rw [List.map_cons, ks_eq I r2 h2 fun v m => hk v (List.mem_cons_of_mem _ m), (hk _ List.mem_cons_self).uniq (is_st I h1 r1)]
/-- sorted of a list of steps: the same ones in order -/
def rSortSt (K : PySem.W.Frag) : List V → Hp → VK → Prop := fun vs H Q => ∃ (a : Addr) (xs : List V) (ss : List St5), vs = [V.ref a] ∧ SqL K H a xs ∧ DpAll K H xs (ss.map stD) ∧
  ∀ (ys : List V) (ts : List St5) (p : Addr), ys.Perm xs → ts.Perm ss → DpAll K H ys (ts.map stD) → SrS ts → H p = none → Q (.ref p) (upd H p (.lst ys))
theorem cr_sortSt {j : Nat} (hr : Room j X.A) : CallR X (.builtin "sorted") (rSortSt X.K) := by
  intro pins s σ H vs us Q I r h
  obtain ⟨a, xs, ss, rfl, hs, hD0, q⟩ := h
  have hx : ∀ x ∈ xs, ∃ t, Dp X.K H x (stD t) := fun x hx => by
    obtain ⟨i, hi⟩ := List.mem_iff_getElem?.mp hx
    obtain ⟨d, h1, h2⟩ := dpa_get hD0 hi
    rw [List.getElem?_map] at h1
    cases q : ss[i]? with
    | none =>
      rw [q] at h1
      cases h1
    | some t =>
      rw [q] at h1
      cases h1
      exact ⟨t, h2⟩
  obtain ⟨its, rv, hl, hz⟩ := I.list hs
  obtain ⟨u, rfl, ru⟩ := vals1 r
  cases (show u = Value.ref a from ru)
  have hun := hr.un
  have all : ∀ v ∈ its, ∃ t, IsSt s.heap v t := fun v hv => by
    obtain ⟨i, hi⟩ := List.mem_iff_getElem?.mp hv
    have hlen := rv.length
    have hil : i < its.length := (List.getElem?_eq_some_iff.mp hi).1
    have hx1 : xs[i]? = some (xs[i]'(by omega)) := List.getElem?_eq_getElem (by omega)
    obtain ⟨w', hw, rw'⟩ := rv.get hx1
    rw [hi] at hw
    cases hw
    obtain ⟨t, ht⟩ := hx _ (mem_of_get hx1)
    exact ⟨t, is_st I ht rw'⟩
  let k : Value → St5 := fun v => if h : ∃ t, IsSt s.heap v t then Classical.choose h else ⟨0, 0, 0, 0, 0, 0⟩
  have hk : ∀ v ∈ its, IsSt s.heap v (k v) := fun v hv => by
    have e : k v = Classical.choose (all v hv) := dif_pos (all v hv)
    rw [e]
    exact Classical.choose_spec (all v hv)
  have hks := ks_eq I rv hD0 hk
  obtain ⟨e1, e2⟩ := refs_back rv fun x m => by
    obtain ⟨t, ht⟩ := hx x m
    obtain ⟨b, c, e, _⟩ := stD_inv ht
    exact ⟨b, e⟩
  refine SrtO.sorted_ord (swo_st k) hl.isList (by rw [← rv.length]; exact hz) (fun h2 h₁ b hb kk => ?_) fun out h1 h2 => ?_
  · refine st_sortable (s := { s with heap := h₁ }) (show X.A.in1.in1.units + 1 < cLine by show X.A.units + 1 + 1 + 1 < cLine; omega) (by omega) (fun v hv => (hk v hv).keeps fun c o e _ => (kk c o e).2) fun o e => ?_
    cases (show some o = some (seqObj "list" its.toArray 0) from e.symm.trans hb)
    intro c
    exact absurd (Value.type.inj c) (by decide)
  · have h3 : ∀ u ∈ out, ∃ a, u = Value.ref a := fun u hu => e2 u (h2.perm.mem_iff.mp hu)
    obtain ⟨n, hn⟩ := PyProof.Rows.sortedAll_at s.heap its out.toArray
    have hp : (out.map backV).Perm xs := by
      rw [e1]
      exact h2.perm.map backV
    have hD : DpAll X.K H (out.map backV) ((out.map k).map stD) := dpa_of fun u hu => by
      obtain ⟨b, rfl⟩ := h3 u hu
      obtain ⟨t, ht⟩ := hx (backV (.ref b)) (hp.mem_iff.mp (List.mem_map.mpr ⟨_, hu, rfl⟩))
      have h5 := is_st I ht (show RelV (backV (.ref b)) (.ref b) from rfl)
      rw [(hk _ (h2.perm.mem_iff.mp hu)).uniq h5]
      exact ht
    have hO : SrS (out.map k) := List.pairwise_map.mpr h1
    refine ⟨.ref (s.heap.objs.size + 1), upd H (s.heap.objs.size + 1) (.lst (out.map backV)), I.laid (t' := s.toks) (fun b o e => PyProof.Rows.sortedAll_old e) (Nat.le_succ _) ⟨?_, out, n, vals_back h3, hn⟩, rfl, q _ _ _ hp (by rw [← hks]; exact h2.perm.map k) hD hO (I.hok.fresh (Nat.le_succ _))⟩
    rw [hp.length_eq]
    exact hz
end
end AA

set_option Elab.async false
set_option linter.all false
set_option maxRecDepth 100000
set_option maxHeartbeats 4000000
/-! A dict whose keys are steps (tuples with a tuple in them), whose values are True. -/
namespace AA
open PySem PySem.Spec PyProof.Rows L2 Evl
def stK (s : St5) : NestedKey := .tup [.num s.one, .num s.other, .tup [.num s.p, .num s.q], .num s.ticks, .num s.change]
theorem stK_inj {s t : St5} (h : stK s = stK t) : s = t := by
  unfold stK at h
  injection h with h
  injection h with a1 h
  injection h with a2 h
  injection h with a3 h
  injection h with a4 h
  injection h with a5 _
  injection a1 with a1
  injection a2 with a2
  injection a4 with a4
  injection a5 with a5
  injection a3 with a3
  injection a3 with b1 a3
  injection a3 with b2 _
  injection b1 with b1
  injection b2 with b2
  cases s
  cases t
  simp_all
theorem IsSt.nested {h : Heap} {b : Addr} {s : St5} (x : IsSt h (.ref b) s) : NestedIs h (stK s) (.ref b) := by
  obtain ⟨a, u, o, r, n, m, t1, t2, t3, t4, t5, t6, e, g1, g2, g3, g4, g5, g6⟩ := x
  cases e
  exact .tup g1 g2 g3 (.cons (.int _ _) (.cons (.int _ _) (.cons (.tup g4 g5 g6 (.cons (.int _ _) (.cons (.int _ _) .nil))) (.cons (.int _ _) (.cons (.int _ _) .nil)))))
theorem IsSt.key {prog : Program} {w : World} {h : Heap} {b : Addr} {s : St5} (x : IsSt h (.ref b) s) : (nestedKind prog w).is h (stK s) b := ⟨x.nested, by simp [stK, NestedKey.depth, NestedKey.depthAll]⟩
/-- the entries of the dict -/
def sdEn (x : St5 × Addr) : NestedKey × Addr × Value := (stK x.1, x.2, .bool true)
/-- a dict at a, its keys these steps at these places -/
def SD (P : Program) (w : World) (a : Addr) (ks : List (St5 × Addr)) : HO := .ext fun h => ks.length ≤ sizeLine ∧ (a == sysModules) = false ∧ (ks.map (·.1)).Nodup ∧
  ∃ o es ep, h.get? a = some o ∧ o.ExactDict ∧ o.data = .dict es ep ∧ es.toList = (ks.map sdEn).map (entryOfKey (nestedKind P w))
/-- and its keys stand -/
def KsOk (K : PySem.W.Frag) (H : Hp) (ks : List (St5 × Addr)) : Prop := ∀ x ∈ ks, Dp K H (.ref x.2) (stD x.1)
theorem KsOk.ex {K : PySem.W.Frag} {H H' : Hp} {ks : List (St5 × Addr)} (h : KsOk K H ks) (e : Ex H H') : KsOk K H' ks := fun x m => dp_ex e _ _ (h x m)
theorem KsOk.nil {K : PySem.W.Frag} {H : Hp} : KsOk K H [] := fun _ m => absurd m (by simp)
theorem KsOk.snoc {K : PySem.W.Frag} {H : Hp} {ks : List (St5 × Addr)} {s : St5} {b : Addr} (h : KsOk K H ks) (d : Dp K H (.ref b) (stD s)) : KsOk K H (ks ++ [(s, b)]) := fun x m => by
  rcases List.mem_append.mp m with m | m
  · exact h x m
  · rw [List.mem_singleton] at m
    subst m
    exact d
theorem sd_nodup : ∀ {ks : List (St5 × Addr)}, (ks.map (·.1)).Nodup → ((ks.map sdEn).map (·.1)).Nodup := by
  intro ks h
  have e : (ks.map sdEn).map (·.1) = (ks.map (·.1)).map stK := by
    rw [List.map_map, List.map_map]
    rfl
  rw [e]
  exact h.map stK fun x y n z => n (stK_inj z)
theorem sd_at (t : St5) : ∀ ks : List (St5 × Addr), (atKey (ks.map sdEn) (stK t)).isSome = decide (t ∈ ks.map (·.1))
  | [] => rfl
  | x :: r => by
    have ih := sd_at t r
    by_cases e : x.1 = t
    · have h1 : (stK x.1 = stK t) := by rw [e]
      have h2 : atKey ((x :: r).map sdEn) (stK t) = some (x.2, .bool true) := by simp [atKey, sdEn, h1]
      rw [h2, List.map_cons, decide_eq_true (List.mem_cons.mpr (.inl e.symm))]
      rfl
    · have h1 : ¬ stK x.1 = stK t := fun z => e (stK_inj z)
      have h2 : atKey ((x :: r).map sdEn) (stK t) = atKey (r.map sdEn) (stK t) := by simp [atKey, sdEn, h1]
      rw [h2, ih]
      exact decide_eq_decide.mpr ⟨fun m => List.mem_cons_of_mem _ m, fun m => (List.mem_cons.mp m).elim (fun z => absurd z.symm e) id⟩
theorem sd_none {t : St5} {ks : List (St5 × Addr)} (h : t ∉ ks.map (·.1)) : atKey (ks.map sdEn) (stK t) = none := by
  have := sd_at t ks
  rw [decide_eq_false h] at this
  cases q : atKey (ks.map sdEn) (stK t) with
  | none => rfl
  | some x =>
    rw [q] at this
    cases this
section
variable {X : Cx} {pins : List (Addr × Obj)} {σ : L2.St} {H : Hp} {s : Shared} {a : Addr} {ks : List (St5 × Addr)} {A : Around} {E : Value → Shared → Prop}
theorem sd_is {x : St5 × Addr} (I : Inv X pins σ H s) (d : Dp X.K H (.ref x.2) (stD x.1)) : (nestedKind X.prog X.w).is s.heap (stK x.1) x.2 :=
  IsSt.key (is_st I d rfl)
theorem sd_of (I : Inv X pins σ H s) (e : H a = some (SD X.prog X.w a ks)) (k : KsOk X.K H ks) : ks.length ≤ sizeLine ∧ (a == sysModules) = false ∧ (ks.map (·.1)).Nodup ∧ s.heap.DictOfH (nestedKind X.prog X.w) a (ks.map sdEn) := by
  obtain ⟨⟨z, hd, hn, o, es, ep, h1, h2, h3, h4⟩, _, _⟩ := (show ObjOk X.prog X.w H s.heap a (SD X.prog X.w a ks) from I.hok a _ e)
  refine ⟨z, hd, hn, o, es, ep, h1, h2, h3, h4, fun y hy => ?_, sd_nodup hn⟩
  obtain ⟨x, hx, rfl⟩ := List.mem_map.mp hy
  exact sd_is I (k x hx)
theorem sd_ok {P : Program} {w : World} {H' : Hp} {h' : Heap} (z : ks.length ≤ sizeLine) (hd : (a == sysModules) = false) (hn : (ks.map (·.1)).Nodup) (d : h'.DictOfH (nestedKind P w) a (ks.map sdEn)) : ObjOk P w H' h' a (SD P w a ks) := by
  obtain ⟨o, es, ep, h1, h2, h3, h4, _⟩ := d
  exact ⟨⟨z, hd, hn, o, es, ep, h1, h2, h3, h4⟩, ⟨o, h1⟩, fun h1' h2' p k => by
    obtain ⟨z, hd, hn, o, es, ep, g1, g⟩ := p
    exact ⟨z, hd, hn, o, es, ep, k _ g1, g⟩⟩
/-- found[step] = True, the step new -/
theorem sd_set {t : St5} {b : Addr} {Q : Unit → Shared → Prop} (hu : A.units + 9 < cLine) (I : Inv X pins σ H s) (e : H a = some (SD X.prog X.w a ks)) (k : KsOk X.K H ks) (d : Dp X.K H (.ref b) (stD t)) (hn : t ∉ ks.map (·.1)) (hl : ks.length < sizeLine)
    (h : ∀ s', Inv X pins σ (upd H a (SD X.prog X.w a (ks ++ [(t, b)]))) s' → Q () s') : wpAny (model X.prog X.w) A (setItem (.ref a) (.ref b) (.bool true)) Q E s := by
  obtain ⟨z, hd, nd, dd⟩ := sd_of I e k
  refine wpAny_setItem_heap (hsz := by rw [List.length_map]; exact z) (show A.in1.units + 8 < cLine by rw [Around.in1_units]; omega) (sd_is (x := (t, b)) I d) dd fun h' dd' hs => h _ ?_
  rw [storedH_new (sd_none hn)] at dd'
  have e2 : ks.map sdEn ++ [(stK t, b, Value.bool true)] = (ks ++ [(t, b)]).map sdEn := by rw [List.map_append]; rfl
  rw [show ((stK (t, b).1), b, Value.bool true) = (stK t, b, Value.bool true) from rfl, e2] at dd'
  obtain ⟨q, es, ep, hq, h2⟩ := id dd'
  refine d_write I (by rw [e]; exact True.intro) hs ⟨q, hq⟩ (sd_ok (by rw [List.length_append]; exact hl) hd ?_ dd')
  rw [List.map_append, List.nodup_append]
  refine ⟨nd, by simp, fun x hx y hy => ?_⟩
  simp only [List.map_cons, List.map_nil, List.mem_singleton] at hy
  subst hy
  exact fun q => hn (q ▸ hx)
theorem sd_in {t : St5} {b : Addr} {Q : Value → Shared → Prop} (hu : A.units + 9 < cLine) (I : Inv X pins σ H s) (e : H a = some (SD X.prog X.w a ks)) (k : KsOk X.K H ks) (d : Dp X.K H (.ref b) (stD t))
    (h : ∀ s', Inv X pins σ H s' → Q (.bool (decide (t ∈ ks.map (·.1)))) s') : wpAny (model X.prog X.w) A (compareOp .In (.ref b) (.ref a)) Q E s := by
  obtain ⟨z, hd, nd, dd⟩ := sd_of I e k
  refine wpAny_in_heap (show A.in1.units + 8 < cLine by rw [Around.in1_units]; omega) (sd_is (x := (t, b)) I d) hd dd ?_
  rw [sd_at]
  exact h _ (I.tok _)
theorem sd_notIn {t : St5} {b : Addr} {Q : Value → Shared → Prop} (hu : A.units + 9 < cLine) (I : Inv X pins σ H s) (e : H a = some (SD X.prog X.w a ks)) (k : KsOk X.K H ks) (d : Dp X.K H (.ref b) (stD t))
    (h : ∀ s', Inv X pins σ H s' → Q (.bool (!decide (t ∈ ks.map (·.1)))) s') : wpAny (model X.prog X.w) A (compareOp .NotIn (.ref b) (.ref a)) Q E s := by
  obtain ⟨z, hd, nd, dd⟩ := sd_of I e k
  refine wpAny_notIn_heap (show A.in1.units + 8 < cLine by rw [Around.in1_units]; omega) (sd_is (x := (t, b)) I d) hd dd ?_
  rw [sd_at]
  exact h _ (I.tok _)
end
end AA

set_option Elab.async false
set_option linter.all false
set_option maxRecDepth 100000
set_option maxHeartbeats 4000000
/-! The same: None looked up, the rules for the program's text, list of it, a comprehension that makes one. -/
namespace AA
open PySem PySem.Spec PyProof.Rows L2 Evl
section
variable {prog : Program} {w : World} {A : Around} {E : Value → Shared → Prop} {s : Shared}
theorem find_none {d : Addr} {o : Obj} {es : Array DictEntry} {ep : Nat} {hh : Int} {Q : Option Nat → Shared → Prop} (hu : A.units + 8 < cLine) (ho : s.heap.get? d = some o) (hd : o.data = .dict es ep)
    (hk : ∀ e ∈ es, ∃ t b, e.key = .ref b ∧ IsSt s.heap (.ref b) t) (hq : Q none s) : wpAny (model prog w) A (dictFind d .none hh) Q E s := by
  have key : ∀ (i : Nat) (e : DictEntry), es[i]? = some e → ∃ t b, e.key = .ref b ∧ IsSt s.heap (.ref b) t := fun i e h => hk e (Array.mem_of_getElem? h)
  unfold dictFind
  try with_reducible refine wpAny_holding ?_
  refine wpAny_bind (wpAny_dictEntries ho hd ?_)
  dsimp only
  by_cases hc : ((Value.none :: (placesWithHash es.size (fun i => es[i]?.map (·.hash)) hh).filterMap (fun i => es[i]?.map (·.key))).all carriedByValue) = true
  · rw [if_pos hc]
    have hp : ∀ i ∈ placesWithHash es.size (fun i => es[i]?.map (·.hash)) hh, es[i]? = none := fun i hi => by
      cases q : es[i]? with
      | none => rfl
      | some e =>
        obtain ⟨t, b, e1, _⟩ := key i e q
        have m : e.key ∈ (placesWithHash es.size (fun i => es[i]?.map (·.hash)) hh).filterMap (fun i => es[i]?.map (·.key)) := List.mem_filterMap.mpr ⟨i, hi, by rw [q]; rfl⟩
        have := List.all_eq_true.mp hc _ (List.mem_cons_of_mem _ m)
        rw [e1] at this
        cases this
    unfold dictWalkPlain
    refine wpAny_bind ?_
    refine wpAny_forIn_list _ (fun rest b s' => s' = s ∧ b = (none, ()) ∧ ∀ i ∈ rest, es[i]? = none) _ ?_ ?_ _ _ ⟨rfl, rfl, hp⟩
    · rintro x rest b s' ⟨rfl, rfl, hr⟩
      rw [hr x List.mem_cons_self]
      exact wpAny_pure ⟨rfl, rfl, fun i hi => hr i (List.mem_cons_of_mem _ hi)⟩
    · rintro b s' ⟨rfl, rfl, _⟩
      exact wpAny_pure hq
  · rw [if_neg hc]
    have hst : ∀ v ∈ (placesWithHash es.size (fun i => es[i]?.map (·.hash)) hh).filterMap (fun i => es[i]?.map (·.key)), ∃ t b, v = .ref b ∧ IsSt s.heap (.ref b) t := fun v hv => by
      obtain ⟨i, _, hi⟩ := List.mem_filterMap.mp hv
      cases q : es[i]? with
      | none =>
        rw [q] at hi
        cases hi
      | some e =>
        rw [q] at hi
        obtain rfl : e.key = v := by simpa using hi
        exact key i e q
    have tell : ∀ (st : List Value) (R : Bool → Shared → Prop), (∀ v ∈ st, ∃ t b, v = .ref b ∧ IsSt s.heap (.ref b) t) → R false s → wpAny (model prog w) A (tableMayTell .none st) R E s := by
      intro st R hv hR
      unfold tableMayTell
      split
      · exact wpAny_pure hR
      · refine wpAny_bind (quiet_key .none _ 8 s .none (by simp [NestedKey.depth]) A E _ ?_)
        simp only [Bool.not_true, Bool.false_eq_true, if_false]
        refine wpAny_bind ?_
        refine wpAny_forIn_list _ (fun rest r s' => s' = s ∧ r = (none, ()) ∧ ∀ v ∈ rest, ∃ t b, v = .ref b ∧ IsSt s.heap (.ref b) t) _ ?_ ?_ _ _ ⟨rfl, rfl, hv⟩
        · rintro x rest r s' ⟨rfl, rfl, hr⟩
          obtain ⟨t, b, rfl, hb⟩ := hr x List.mem_cons_self
          refine wpAny_bind (quiet_key (stK t) _ 8 s' hb.nested (by simp [stK, NestedKey.depth, NestedKey.depthAll]) A E _ ?_)
          simp only [Bool.not_true, Bool.false_eq_true, if_false]
          exact wpAny_pure ⟨rfl, rfl, fun v m => hr v (List.mem_cons_of_mem _ m)⟩
        · rintro r s' ⟨rfl, rfl, _⟩
          exact wpAny_pure hR
    rw [if_neg (fun z => ?bad)]
    case bad =>
      have z1 := eq_of_beq z
      obtain ⟨t, b, q, _⟩ := hst .none (by rw [z1]; exact List.mem_cons_self)
      cases q
    refine wpAny_bind (tell _ _ hst ?_)
    rw [if_neg (by simp)]
    refine wpAny_bind ?_
    refine wpAny_forIn_list _ (fun rest b s' => s' = s ∧ b = (none, none)) _ ?_ ?_ _ _ ⟨rfl, rfl⟩
    · rintro x rest b s' ⟨rfl, rfl⟩
      cases q : es[x]? with
      | none => exact wpAny_pure ⟨rfl, rfl⟩
      | some e =>
        obtain ⟨t, b, e1, hb⟩ := key x e q
        dsimp only
        by_cases hs : (e.hash == hh) = true
        · rw [if_pos hs]
          refine wpAny_bind (wpAny_dictEpoch ho hd (wpAny_bind ?_))
          rw [e1]
          refine eqAt_key (stK t) .none A s' _ _ hb.nested .none (by simp only [NestedKey.depth]; omega) _ _ _ _ ?_
          refine wpAny_bind (wpAny_dictEpoch ho hd ?_)
          rw [if_neg (by simp)]
          rw [if_neg (by simp [stK, NestedKey.beq])]
          refine wpAny_bind (wpAny_rule ?_)
          rw [if_neg (by simp)]
          exact wpAny_pure ⟨rfl, rfl⟩
        · rw [if_neg hs]
          exact wpAny_pure ⟨rfl, rfl⟩
    · rintro b s' ⟨rfl, rfl⟩
      exact wpAny_pure hq
theorem get_none {d : Addr} {o : Obj} {es : Array DictEntry} {ep : Nat} {Q : Option Value → Shared → Prop} (hu : A.units + 8 < cLine) (ho : s.heap.get? d = some o) (hd : o.data = .dict es ep)
    (hk : ∀ e ∈ es, ∃ t b, e.key = .ref b ∧ IsSt s.heap (.ref b) t) (hq : Q none { s with toks := s.toks + 1 }) : wpAny (model prog w) A (dictGet d .none) Q E s := by
  unfold dictGet
  try with_reducible refine wpAny_holding ?_
  exact wpAny_bind (pyHash_key .none .none A s _ .none (by simp only [NestedKey.depth]; omega) (wpAny_bind (find_none (s := { s with toks := s.toks + 1 }) hu ho hd hk (wpAny_pure hq))))
theorem notIn_none {d : Addr} {o : Obj} {es : Array DictEntry} {ep : Nat} {Q : Value → Shared → Prop} (hu : A.units + 9 < cLine) (hs : (d == sysModules) = false) (ho : s.heap.get? d = some o) (hx : o.ExactDict) (hd : o.data = .dict es ep)
    (hk : ∀ e ∈ es, ∃ t b, e.key = .ref b ∧ IsSt s.heap (.ref b) t) (hq : Q (.bool true) { s with toks := s.toks + 1 }) : wpAny (model prog w) A (compareOp .NotIn .none (.ref d)) Q E s := by
  have hT : s.TypeIs (.ref d) "dict" := ⟨o, ho, hx.1⟩
  show wpAny _ _ (contains (.ref d) .none >>= fun b => pure (.bool (!b))) Q E s
  refine wpAny_bind (wpAny_contains_slot hT slot_dict_contains (wpAny_call_entry slot_dict_contains hT entry_dict_contains ?_ (args_dict_contains _ _)))
  show wpAny _ _ (dictGet d .none >>= _) _ _ s
  refine wpAny_bind (get_none (by rw [Around.in1_units]; omega) ho hd hk ?_)
  exact wpAny_bind (wpAny_pendingKey_other hs (wpAny_pure ⟨_, rfl, wpAny_truthy_bool (wpAny_pure hq)⟩))
end
section
variable {X : Cx} {o i e value : Expr} {pos pos' tpos : Pos} {j : Nat} {td ty tv : TE}
theorem sd_ents {pins : List (Addr × Obj)} {σ : L2.St} {H : Hp} {s : Shared} {a : Addr} {ks : List (St5 × Addr)} (I : Inv X pins σ H s) (e : H a = some (SD X.prog X.w a ks)) (k : KsOk X.K H ks) :
    (a == sysModules) = false ∧ ks.length ≤ sizeLine ∧ ∃ o es ep, s.heap.get? a = some o ∧ o.ExactDict ∧ o.data = .dict es ep ∧ es.toList = (ks.map sdEn).map (entryOfKey (nestedKind X.prog X.w)) ∧ ∀ e ∈ es, ∃ t b, e.key = .ref b ∧ IsSt s.heap (.ref b) t := by
  obtain ⟨⟨z, hd, hn, o, es, ep, h1, h2, h3, h4⟩, _, _⟩ := (show ObjOk X.prog X.w H s.heap a (SD X.prog X.w a ks) from I.hok a _ e)
  refine ⟨hd, z, o, es, ep, h1, h2, h3, h4, fun en hen => ?_⟩
  have m : en ∈ (ks.map sdEn).map (entryOfKey (nestedKind X.prog X.w)) := h4 ▸ Array.mem_toList_iff.mpr hen
  obtain ⟨y, hy, rfl⟩ := List.mem_map.mp m
  obtain ⟨x, hx, rfl⟩ := List.mem_map.mp hy
  exact ⟨x.1, x.2, rfl, is_st I (k x hx) rfl⟩
/-- {}, to hold steps -/
def tSNew (X : Cx) : TE := fun _ H Q => ∀ p, H p = none → Q (.ref p) (upd H p (SD X.prog X.w p []))
theorem sd_empty {P : Program} {w : World} {H : Hp} (h : Heap) (hb : sysModules < h.objs.size) : ObjOk P w H (h.push { cls := .type "dict", data := .dict #[] }) h.objs.size (SD P w h.objs.size []) :=
  sd_ok (Nat.zero_le _) (beq_eq_false_iff_ne.mpr (Ne.symm (Nat.ne_of_lt hb))) List.nodup_nil (Heap.DictOfH.new h)
theorem pe_snew : PE X (.Dict [] [] pos) (tSNew X) := ⟨fun pins s σ H Q I h =>
  have hf : s.heap.objs.size ≤ s.heap.objs.size := Nat.le_refl _
  wpAny_Dict_empty ⟨.ref s.heap.objs.size, _, I.laid (t' := s.toks) (o := SD X.prog X.w s.heap.objs.size []) (fun _ _ q => Heap.get?_push_of_some _ q) hf (sd_empty s.heap I.big), rfl, h _ (I.hok.fresh hf)⟩⟩
/-- the step y among the dict's keys -/
def SHas (X : Cx) (H : Hp) (x y : V) (r : Bool) : Prop := ∃ a ks b t, x = .ref a ∧ y = .ref b ∧ H a = some (SD X.prog X.w a ks) ∧ KsOk X.K H ks ∧ Dp X.K H (.ref b) (stD t) ∧ r = decide (t ∈ ks.map (·.1))
/-- None is not -/
def SNon (X : Cx) (H : Hp) (x y : V) : Prop := ∃ a ks, x = .ref a ∧ y = .non ∧ H a = some (SD X.prog X.w a ks) ∧ KsOk X.K H ks
def tSIn (X : Cx) (ty td : TE) : TE := fun σ H Q => ty σ H fun y H1 => td σ H1 fun x H2 => ∃ r, SHas X H2 x y r ∧ Q (.bl r) H2
def tSNot (X : Cx) (ty td : TE) : TE := fun σ H Q => ty σ H fun y H1 => td σ H1 fun x H2 => (∃ r, SHas X H2 x y r ∧ Q (.bl (!r)) H2) ∨ (SNon X H2 x y ∧ Q (.bl true) H2)
def sSPut (X : Cx) (td ty : TE) : TS := fun D σ H => td σ H fun x H2 => ty σ H2 fun y H3 => ∃ a ks b t, x = .ref a ∧ y = .ref b ∧ H3 a = some (SD X.prog X.w a ks) ∧ KsOk X.K H3 ks ∧ Dp X.K H3 (.ref b) (stD t) ∧ t ∉ ks.map (·.1) ∧ ks.length < sizeLine ∧
  D.nx σ (upd H3 a (SD X.prog X.w a (ks ++ [(t, b)])))
theorem pc_sin (hu : X.A.units + 9 < cLine) (hi : PE X i ty) (ho : PE X o td) : PC X .In i o (tSIn X ty td) := ⟨fun pins s σ H Q I h =>
  thn (hi.run pins s σ H _ I h) fun iv s1 ⟨y, H1, I1, ry, q1⟩ => thn (ho.run pins s1 σ H1 _ I1 q1) fun u s2 ⟨x, H2, I2, rx, r, g, q2⟩ => by
    obtain ⟨a, ks, b, t, rfl, rfl, e, k, d, rfl⟩ := g
    cases (show u = Value.ref a from rx)
    cases (show iv = Value.ref b from ry)
    exact sd_in hu I2 e k d fun s3 I3 => ⟨.bl _, H2, I3, rfl, q2⟩⟩
theorem pc_snot (hu : X.A.units + 9 < cLine) (hi : PE X i ty) (ho : PE X o td) : PC X .NotIn i o (tSNot X ty td) := ⟨fun pins s σ H Q I h =>
  thn (hi.run pins s σ H _ I h) fun iv s1 ⟨y, H1, I1, ry, q1⟩ => thn (ho.run pins s1 σ H1 _ I1 q1) fun u s2 ⟨x, H2, I2, rx, q2⟩ => by
    rcases q2 with ⟨r, ⟨a, ks, b, t, rfl, rfl, e, k, d, rfl⟩, q2⟩ | ⟨⟨a, ks, rfl, rfl, e, k⟩, q2⟩
    · cases (show u = Value.ref a from rx)
      cases (show iv = Value.ref b from ry)
      exact sd_notIn hu I2 e k d fun s3 I3 => ⟨.bl _, H2, I3, rfl, q2⟩
    · cases (show u = Value.ref a from rx)
      cases (show iv = Value.none from ry)
      obtain ⟨hs, _, o, es, ep, h1, h2, h3, _, h5⟩ := sd_ents I2 e k
      exact notIn_none hu hs h1 h2 h3 h5 ⟨.bl true, H2, I2.tok _, rfl, q2⟩⟩
theorem ps_sput (hu : X.A.units + 9 < cLine) (ho : PE X o td) (hi : PE X i ty) (hs : swapsWith (.Constant (.bool true) j tpos) (some (.Subscript o i pos')) pos.line X.env = pure false) :
    PS X (.Assign [.Subscript o i pos'] (.Constant (.bool true) j tpos) pos) (sSPut X td ty) := ⟨fun pins s σ H D I h =>
  wpAny_Assign_Subscript (Constant_bool (thn (ho.run pins s σ H _ I h) fun u s2 ⟨x, H2, I2, rx, q2⟩ => thn (hi.run pins s2 σ H2 _ I2 q2) fun iv s3 ⟨y, H3, I3, ry, g⟩ => by
    obtain ⟨a, ks, b, t, rfl, rfl, e, k, d, hn, hl, q⟩ := g
    cases (show u = Value.ref a from rx)
    cases (show iv = Value.ref b from ry)
    exact sd_set hu I3 e k d hn hl fun s4 I4 => ⟨σ, _, I4, q⟩)) hs⟩
/-- list(d): the steps in the order in which they came -/
theorem call_list_sd (hc : X.calm = true) : CallR X (.type "list") (fun xs H Q => ∃ d ks, xs = [V.ref d] ∧ H d = some (SD X.prog X.w d ks) ∧ KsOk X.K H ks ∧ ∀ p, H p = none → Q (.ref p) (upd H p (.lst (ks.map fun x => V.ref x.2)))) := by
  intro pins s σ H xs us Q I r h
  obtain ⟨d, ks, rfl, hd, hk, q⟩ := h
  obtain ⟨u, rfl, rx⟩ := r.one
  cases rx
  obtain ⟨hs, hz, o, es, ep, ho, hx, hdt, he, _⟩ := sd_ents I hd hk
  have l1 : es.size = ks.length := by rw [size_of_entries he, List.length_map]
  refine PySem.W.kdl_call (kdl_raw hs hx hdt) (I.ok.hd hc) ho (by omega) fun h' tk acc' c' kp e it => ?_
  have ea : acc'.toList = (ks.map fun x => x.2).map Value.ref := by
    apply List.ext_getElem?
    intro j
    rw [List.getElem?_map, List.getElem?_map]
    by_cases hj : j < ks.length
    · have hj2 : j < acc'.toList.length := by rw [Array.length_toList, it.1]; omega
      have ej := List.getElem?_eq_getElem hj2
      obtain ⟨en, hen, hv⟩ := it.2 j _ (by rw [← Array.getElem?_toList]; exact ej)
      have qe := entry_at he j
      rw [hen, List.getElem?_map, List.getElem?_eq_getElem hj] at qe
      have e2 : en = entryOfKey (nestedKind X.prog X.w) (sdEn ks[j]) := Option.some.inj qe
      rw [ej, List.getElem?_eq_getElem hj, hv, e2]
      rfl
    · rw [List.getElem?_eq_none (by rw [Array.length_toList, it.1]; omega), List.getElem?_eq_none (by omega)]
      rfl
  have rv : Vals ((ks.map fun x => x.2).map V.ref) acc'.toList := by
    rw [ea]
    exact vals_refs _
  have em : (ks.map fun x => x.2).map V.ref = ks.map fun x => V.ref x.2 := by
    rw [List.map_map]
    rfl
  rw [em] at rv
  have hf : s.heap.objs.size ≤ s.heap.objs.size := Nat.le_refl _
  exact ⟨.ref s.heap.objs.size, _, I.laid (t' := tk) (o := .lst (ks.map fun x => V.ref x.2)) kp hf ⟨by rw [List.length_map]; exact hz, acc'.toList, c', rv, by rw [Array.toArray_toList]; exact e⟩, rfl, q _ (I.hok.fresh hf)⟩
end
end AA

set_option Elab.async false
set_option linter.all false
set_option maxRecDepth 100000
set_option maxHeartbeats 4000000
/-! {step: True for .. in ..}: a comprehension that makes a dict of steps (by way of compLoop_anyD, as dc_core goes for dicts with plain keys). -/
namespace AA
open PySem PySem.Spec PyProof.Rows L2 Evl
section
variable {X : Cx} {pins : List (Addr × Obj)} {σ : L2.St} {H : Hp} {s : Shared}
theorem sd_dictSet {E : Value → Shared → Prop} {D b : Addr} {ks : List (St5 × Addr)} {t : St5} {Q : Unit → Shared → Prop} (hu : X.A.units + 8 < cLine) (I : Inv X pins σ H s) (e : H D = some (SD X.prog X.w D ks)) (k : KsOk X.K H ks) (d : Dp X.K H (.ref b) (stD t))
    (hn : t ∉ ks.map (·.1)) (hl : ks.length < sizeLine) (h : ∀ s', Inv X pins σ (upd H D (SD X.prog X.w D (ks ++ [(t, b)]))) s' → Q () s') : wpAny (model X.prog X.w) X.A (dictSet D (.ref b) (.bool true)) Q E s := by
  obtain ⟨z, hd, nd, dd⟩ := sd_of I e k
  refine wpAny_dictSet_heap (hsz := by rw [List.length_map]; exact z) (show X.A.units + 8 < cLine from hu) (sd_is (x := (t, b)) I d) dd fun h' dd' hs => h _ ?_
  rw [storedH_new (sd_none hn)] at dd'
  have e2 : ks.map sdEn ++ [(stK (t, b).1, b, Value.bool true)] = (ks ++ [(t, b)]).map sdEn := by rw [List.map_append]; rfl
  rw [e2] at dd'
  obtain ⟨q, es, ep, hq, h2⟩ := id dd'
  refine d_write I (by rw [e]; exact True.intro) hs ⟨q, hq⟩ (sd_ok (by rw [List.length_append]; exact hl) hd ?_ dd')
  rw [List.map_append, List.nodup_append]
  refine ⟨nd, by simp, fun x hx y hy => ?_⟩
  simp only [List.map_cons, List.map_nil, List.mem_singleton] at hy
  subst hy
  exact fun q => hn (q ▸ hx)
end
/-- the key y goes into the dict at D -/
def SNext (X : Cx) (H : Hp) (D : Addr) (y : V) (Nx : Hp → Prop) : Prop := ∃ ks b t, y = .ref b ∧ H D = some (SD X.prog X.w D ks) ∧ KsOk X.K H ks ∧ Dp X.K H (.ref b) (stD t) ∧ t ∉ ks.map (·.1) ∧ ks.length < sizeLine ∧ Nx (upd H D (SD X.prog X.w D (ks ++ [(t, b)])))
def tSc (X : Cx) (wi : TI) (g : TG) (tk : TE) (vs : List Nat) : TE := fun σ G Q => wi σ G fun J G1 => ∀ D, G1 D = none → ∃ W : Nat → Nat → Hp → Prop, (∃ m, W 0 m (upd G1 D (SD X.prog X.w D []))) ∧ ∀ i m G, W i m G →
  (J.stop i G ∧ Q (.ref D) G) ∨ (J.go i G ∧ ∃ Nx : Hp → Prop, (∀ G', Nx G' → ∃ m', m' < m ∧ W (i + 1) m' G') ∧ ∀ x G', J.yld i G x G' → g x (wipe σ vs) G' fun σ2 G2 => wipe σ2 vs = wipe σ vs ∧ tk σ2 G2 fun y G4 => SNext X G4 D y Nx)
section
variable {X : Cx}
theorem sc_core {pins : List (Addr × Obj)} {t0 : Shared} {σ : L2.St} {G : Hp} {Q : VK} {kx tg iter : Expr} {scope : Scope} {own : List (Str × Nat)} {j : Nat} {p0 p1 p2 : Pos} {wi : TI} {g : TG} {tk : TE} {use : Option (Value → Sem Unit)} {Qf : Value → Shared → Prop}
    (hu : X.A.units + 8 < cLine) (hc : X.calm = true) (hN : X.N.Nodup) (I0 : Inv X pins σ G t0) (hi : PI X tg iter wi) (ok : BlkOk X.N X.env.scope scope own)
    (hg : ∀ (t : Shared) (G : Hp) (C : Addr) (cl : List (Str × Addr)) (fp : List Addr), PG (X.blk t G scope (compEnvC scope cl C X.env) fp) tg g)
    (hk : ∀ (t : Shared) (G : Hp) (C : Addr) (cl : List (Str × Addr)) (fp : List Addr), PE (X.blk t G scope (compEnvC scope cl C X.env) fp) kx tk) (hs : ∀ x, foldedSetIterable iter X.env x = pure x)
    (h : tSc X wi g tk (own.map (·.2)) σ G Q)
    (back : ∀ D C s' m G', Inv X pins σ G' s' → Q (.ref D) G' → s'.heap.Ns C m → FpOk X pins G' C → compPost (model X.prog X.w) X.A X.xe use Qf (.ref D) C (.ok .next) s') :
    wpAny (model X.prog X.w) X.A (comprehension (.DictComp kx (.Constant (.bool true) j p2) [⟨tg, iter, [], 0⟩] scope p0) scope X.env p1 newDict false (eval iter X.env) use) Qf X.xe t0 := by
  have fr : ∀ y ∈ scope.names, y.2 = .free → ∃ c, X.env.cells.lookup y.1 = some c := fun y hy e => (ok.free y hy e).elim (fun k => I0.ok.has _ (.inl k)) (fun k => I0.ok.has _ (.inr k))
  refine wpAny_comprehension_free (use := use) rfl hs (closure_ok fr) ok.kind (fun y hy e => by rw [ok.uniq y hy, e]) (thn (hi.run pins t0 σ G _ I0 h) fun xv t1 hx => thn hx fun itv t2 got => ?_)
  obtain ⟨it, fp, tn, J, G2, rfl, I2, T, st2, f2, q⟩ := got
  refine wpAny_newObj_type (newEnv_comp ?_)
  generalize hD : t2.heap.objs.size = D
  have hDn : G2 D = none := I2.hok.fresh (Nat.le_of_eq hD)
  obtain ⟨W, ⟨m0, w0⟩, turn⟩ := q D hDn
  generalize ht3 : ({ t2 with heap := t2.heap.push { cls := .type "dict", data := .dict #[] } } : Shared) = t3
  have e3 : t3.heap = t2.heap.push { cls := .type "dict", data := .dict #[] } := by rw [← ht3]
  have I3 : Inv X pins σ (upd G2 D (SD X.prog X.w D [])) t3 := by
    rw [← ht3]
    refine I2.laid (t' := t2.toks) (fun b o e => Heap.get?_push_of_some _ e) (Nat.le_of_eq hD) ?_
    rw [← hD]
    exact sd_empty t2.heap I2.big
  have f3 : ∀ b ∈ fp, FpOk X pins (upd G2 D (SD X.prog X.w D [])) b ∧ b < t3.heap.objs.size := fun b hb => by
    obtain ⟨o, e, _⟩ := T.obj _ _ st2 b hb
    have hlt := Heap.lt_size e
    refine ⟨⟨?_, (f2 b hb).2⟩, by rw [e3, Heap.size_push]; exact Nat.lt_succ_of_lt hlt⟩
    rw [upd_ne (by rw [← hD]; exact Nat.ne_of_lt hlt)]
    exact (f2 b hb).1
  have st3 : tn 0 t3.heap := T.keep _ _ _ st2 fun b _ o e => by rw [e3]; exact Heap.get?_push_of_some _ e
  have I4 := block_start I3 ok hN f3
  have pg := hg t3 (upd G2 D (SD X.prog X.w D [])) t3.heap.objs.size (cellsFrom (t3.heap.objs.size + 1) scope.names (cloFrom X.env.cells scope.names [])) fp
  have pk := hk t3 (upd G2 D (SD X.prog X.w D [])) t3.heap.objs.size (cellsFrom (t3.heap.objs.size + 1) scope.names (cloFrom X.env.cells scope.names [])) fp
  show codeAny _ _ (.compStart (.DictComp kx (.Constant (.bool true) j p2) [⟨tg, iter, [], 0⟩] scope p0) 0 (.ref it) (.ref D) (compEnvC scope (cellsFrom (t3.heap.objs.size + 1) scope.names (cloFrom X.env.cells scope.names [])) t3.heap.objs.size X.env)) (compPost (model X.prog X.w) X.A X.xe use Qf (.ref D) t3.heap.objs.size) { t3 with heap := pushCells (t3.heap.push { cls := .type "dict", data := .dict #[] }) scope.names }
  have nfp : ∀ b ∈ fp, (upd G2 D (SD X.prog X.w D [])) b = none := fun b hb => (f3 b hb).1.1
  generalize hce : compEnvC scope (cellsFrom (t3.heap.objs.size + 1) scope.names (cloFrom X.env.cells scope.names [])) t3.heap.objs.size X.env = ce at I4 pg pk ⊢
  have cL : ce.locals = t3.heap.objs.size := by subst hce; rfl
  generalize hG3 : upd G2 D (SD X.prog X.w D []) = G3 at I3 I4 pg pk w0 nfp f3
  generalize ht4 : ({ t3 with heap := pushCells (t3.heap.push { cls := .type "dict", data := .dict #[] }) scope.names } : Shared) = t4 at I4 ⊢
  have st4 : tn 0 t4.heap := T.keep _ _ _ st3 fun b _ o e => by rw [← ht4]; exact pushCells_keeps _ _ _ _ (Heap.get?_push_of_some _ e)
  have stat : ∀ {σ' : L2.St} {G' : Hp} {s' : Shared}, Inv (X.blk t3 G3 scope ce fp) [] σ' G' s' → (∀ b ∈ fp, G' b = none) → ∀ b ∈ fp, FpOk (X.blk t3 G3 scope ce fp) [] G' b := fun {σ' G' s'} I' hn b hb =>
    ⟨hn b hb, (I'.ok.exf b hb).1, I'.ok.exfs b hb, .inl hb, fun x c e => (I'.ok.exf b hb).2 x c e, fun p hp => absurd (show p ∈ ([] : List (Addr × Obj)) ++ [] from hp) (by simp)⟩
  have loop : codeAny (model X.prog X.w) X.A (.compLoop (.DictComp kx (.Constant (.bool true) j p2) [⟨tg, iter, [], 0⟩] scope p0) 0 (.ref it) (.ref D) ce) (compPost (model X.prog X.w) X.A X.xe use Qf (.ref D) t3.heap.objs.size) t4 := by
    refine compLoop_anyD (fun n s' => ∃ i G', Inv (X.blk t3 G3 scope ce fp) [] (wipe σ (own.map (·.2))) G' s' ∧ tn i s'.heap ∧ (∀ b ∈ fp, G' b = none) ∧ W i n G') ?_ m0 ⟨0, G3, I4, st4, nfp, w0⟩
    rintro n t5 ⟨i, G5, I5, st5, n5, w5⟩
    rcases turn i n G5 w5 with ⟨stop, qq⟩ | ⟨go, Nx, hNx, step⟩
    · have td := T.done (X.blk t3 G3 scope ce fp) rfl rfl rfl hc i [] t5 _ G5 (fun _ _ => False) I5 (stat I5 n5) st5 stop
      refine thnF td fun r t6 ⟨hr, I6⟩ => ?_
      subst hr
      have I7 : Inv X pins σ G5 t6 := I3.call' (ch := fp) I6.os I6.base I6.hok I6.bare fun b hb => ⟨(f3 b hb).1.2.2.2.1, (f3 b hb).1.2.1, (f3 b hb).1.2.2.2.2.1, (f3 b hb).1.2.2.2.2.2⟩
      have nC : G5 t3.heap.objs.size = none := by
        have z : G5 ce.locals = none := I6.free
        rw [cL] at z
        exact z
      obtain ⟨m, hn, _⟩ := I6.loc
      have hn : t6.heap.Ns ce.locals m := hn
      rw [cL] at hn
      exact back D t3.heap.objs.size t6 m G5 I7 qq hn (I3.fpOk (Nat.le_refl _) nC)
    · have ti := T.item (X.blk t3 G3 scope ce fp) rfl rfl rfl hc i [] t5 _ G5 (fun _ _ => False) I5 (stat I5 n5) st5 go
      refine thnF ti fun r t6 ⟨u, hr, h6⟩ => ?_
      subst hr
      refine thnF h6 fun _ t7 ⟨x, G7, I7, r7, y7, st7, n7⟩ => ?_
      have I7' := I7.pinned (stat I7 n7) (T.obj _ _ st7)
      refine thnF (pg.run _ t7 _ G7 x u _ I7' r7 (step x G7 y7)) fun _ t8 ⟨σ8, G8, I8, hw8, q8⟩ => ?_
      refine wpAny_pure ?_
      simp only [if_true]
      refine thnF (pk.run _ t8 σ8 G8 _ I8 q8) fun z t9 ⟨yk, G9, I9, r9, ks, b, t, ek, hD9, hk9, hd9, hn9, hl9, nx⟩ => ?_
      subst ek
      cases (show z = Value.ref b from r9)
      refine Constant_bool ?_
      refine sd_dictSet (X := X.blk t3 G3 scope ce fp) hu I9 hD9 hk9 hd9 hn9 hl9 fun s' I' => ?_
      obtain ⟨m', hm, w'⟩ := hNx _ nx
      have pin' : ∀ b ∈ fp, ∀ o, t7.heap.get? b = some o → s'.heap.get? b = some o ∧ _ = none := fun b hb o e =>
        let z := I'.pin (b, o) (List.mem_append_right _ (List.mem_append_right _ (mem_pinsAt hb e)))
        ⟨z.1, z.2.1⟩
      have hl : (wipe σ (own.map (·.2))).length = σ8.length := by rw [← hw8, wipe_length]
      refine ⟨m', hm, i + 1, _, (I'.unpinned (pins := [])).weak hl (fun j v e => ?_), T.keep _ _ _ st7 fun b hb o e => (pin' b hb o e).1, fun b hb => ?_, w'⟩
      · rw [← hw8] at e
        exact (wipe_some e).1
      · obtain ⟨o, e, _⟩ := T.obj _ _ st7 b hb
        exact (pin' b hb o e).2
  exact codeAny_compStart_dict loop (T.self X.A 0 _ _ _ st4 loop)
theorem pe_sc {kx tg iter : Expr} {scope : Scope} {own : List (Str × Nat)} {j : Nat} {p0 p2 : Pos} {wi : TI} {g : TG} {tk : TE} (hu : X.A.units + 8 < cLine) (hc : X.calm = true) (hN : X.N.Nodup) (hi : PI X tg iter wi) (ok : BlkOk X.N X.env.scope scope own)
    (hg : ∀ (t : Shared) (G : Hp) (C : Addr) (cl : List (Str × Addr)) (fp : List Addr), PG (X.blk t G scope (compEnvC scope cl C X.env) fp) tg g)
    (hk : ∀ (t : Shared) (G : Hp) (C : Addr) (cl : List (Str × Addr)) (fp : List Addr), PE (X.blk t G scope (compEnvC scope cl C X.env) fp) kx tk) (hs : ∀ x, foldedSetIterable iter X.env x = pure x := by intro _; rfl) :
    PE X (.DictComp kx (.Constant (.bool true) j p2) [⟨tg, iter, [], 0⟩] scope p0) (tSc X wi g tk (own.map (·.2))) := ⟨fun pins t0 σ G Q I0 h => by
  rw [arm_eval_DictComp]
  refine sc_core hu hc hN I0 hi ok hg hk hs h fun D C s' m G' I' q hn f => ⟨m, hn, fun h'' sb => ?_⟩
  obtain ⟨f0, f1, f2, f3, f4, f5⟩ := f
  exact ⟨.ref D, G', I'.turned (t' := s'.toks) (fun b o hb e => (sb.2 b hb).trans e) f0 f1 f3 f4 f5, rfl, q⟩⟩
/-- over a list that stays -/
theorem sc_list {K : PySem.W.Frag} {a : Addr} {xs : List V} {g : TG} {tk : TE} {vs : List Nat} {σ : L2.St} {G1 : Hp} {D : Addr} {Qd : Hp → Prop} (Pv : Nat → Hp → Prop) (h0 : Pv 0 (upd G1 D (SD X.prog X.w D []))) (hl : ∀ i G, i ≤ xs.length → Pv i G → SqL K G a xs)
    (hs : ∀ i x G, xs[i]? = some x → Pv i G → g x (wipe σ vs) G fun σ2 G2 => wipe σ2 vs = wipe σ vs ∧ tk σ2 G2 fun y G4 => SNext X G4 D y (Pv (i + 1))) (hd : ∀ G, Pv xs.length G → Qd G) :
    ∃ W : Nat → Nat → Hp → Prop, (∃ m, W 0 m (upd G1 D (SD X.prog X.w D []))) ∧ ∀ i m G, W i m G →
      ((Itl K a).stop i G ∧ Qd G) ∨ ((Itl K a).go i G ∧ ∃ Nx : Hp → Prop, (∀ G', Nx G' → ∃ m', m' < m ∧ W (i + 1) m' G') ∧ ∀ x G', (Itl K a).yld i G x G' → g x (wipe σ vs) G' fun σ2 G2 => wipe σ2 vs = wipe σ vs ∧ tk σ2 G2 fun y G4 => SNext X G4 D y Nx) := by
  refine ⟨fun i m G => m = xs.length - i ∧ i ≤ xs.length ∧ Pv i G, ⟨xs.length, by simp, Nat.zero_le _, h0⟩, fun i m G w => ?_⟩
  obtain ⟨rfl, hi, p⟩ := w
  have q := hl i G hi p
  by_cases hlt : i < xs.length
  · refine .inr ⟨⟨xs, xs[i], q, by simp [hlt]⟩, Pv (i + 1), fun G' p' => ⟨xs.length - (i + 1), by omega, rfl, hlt, p'⟩, fun x G' y => ?_⟩
    obtain ⟨rfl, y⟩ := y
    exact hs i x _ (y xs q) p
  · obtain rfl : i = xs.length := by omega
    exact .inl ⟨⟨xs, q, Nat.le_refl _⟩, hd G p⟩
end
end AA

set_option Elab.async false
set_option linter.all false
set_option maxRecDepth 100000
set_option maxHeartbeats 4000000
/-! The program's checks: is_integer, is_list, is_integers. -/
namespace AA
open PySem PySem.Spec PyProof.Rows L2 Evl
/-! ### the heap without tables of code objects: they alone grow -/
def nt (H : Hp) : Hp := fun x => match H x with
  | some (.tbl _) => none
  | o => o
theorem nt_some {H : Hp} {x : Addr} {o : HO} (h : nt H x = some o) : H x = some o ∧ ∀ ps, o ≠ .tbl ps := by
  unfold nt at h
  split at h
  · cases h
  · rename_i hn
    exact ⟨h, fun ps e => hn ps (by rw [h, e])⟩
theorem nt_of {H : Hp} {x : Addr} {o : HO} (h : H x = some o) (n : ∀ ps, o ≠ .tbl ps) : nt H x = some o := by
  unfold nt
  split
  · rename_i ps hp
    rw [h] at hp
    exact absurd (Option.some.inj hp) (n ps)
  · exact h
theorem nt_le {H : Hp} : Ex (nt H) H := fun x o h => (nt_some h).1
theorem nt_mono {H H' : Hp} (e : Ex H H') : Ex (nt H) (nt H') := fun x o h => nt_of (e _ _ (nt_some h).1) (nt_some h).2
theorem nt_idem {H : Hp} : Ex (nt H) (nt (nt H)) := fun x o h => nt_of h (nt_some h).2
theorem sql_nt {K : PySem.W.Frag} {H : Hp} {a : Addr} {xs : List V} (h : SqL K H a xs) : SqL K (nt H) a xs := by
  rcases h with h | h
  · refine .inl ?_
    rcases h with h | ⟨u, h⟩
    · exact .inl (nt_of h fun ps z => nomatch z)
    · exact .inr ⟨u, nt_of h fun ps z => nomatch z⟩
  · exact .inr h
theorem sqt_nt {K : PySem.W.Frag} {H : Hp} {a : Addr} {xs : List V} (h : SqT K H a xs) : SqT K (nt H) a xs := by
  rcases h with h | h
  · refine .inl ?_
    rcases h with h | ⟨u, h⟩
    · exact .inl (nt_of h fun ps z => nomatch z)
    · exact .inr ⟨u, nt_of h fun ps z => nomatch z⟩
  · exact .inr h
mutual
theorem dp_nt {K : PySem.W.Frag} {H : Hp} : ∀ (d : PyData) (v : V), Dp K H v d → Dp K (nt H) v d
  | .none, _, h => by
    cases h
    exact .non
  | .bool b, _, h => by
    cases h
    exact .bl _
  | .int i, _, h => by
    cases h
    exact .int _
  | .str x, _, h => by
    cases h
    exact .str _
  | .list ds, _, h => by
    cases h with
    | lst h1 h2 => exact .lst (sql_nt h1) (dpa_nt ds _ h2)
  | .tuple ds, _, h => by
    cases h with
    | tup h1 h2 => exact .tup (sqt_nt h1) (dpa_nt ds _ h2)
  | .dict _, _, h => by cases h
theorem dpa_nt {K : PySem.W.Frag} {H : Hp} : ∀ (ds : List PyData) (vs : List V), DpAll K H vs ds → DpAll K (nt H) vs ds
  | [], _, h => by
    cases h
    exact .nil
  | d :: ds, _, h => by
    cases h with
    | cons h1 h2 => exact .cons (dp_nt d _ h1) (dpa_nt ds _ h2)
end
/-- the name of the type of data -/
def tnD : PyData → String
  | .none => "NoneType"
  | .bool _ => "bool"
  | .int _ => "int"
  | .str _ => "str"
  | .list _ => "list"
  | .tuple _ => "tuple"
  | .dict _ => "dict"
def isIntD : PyData → Bool
  | .int _ => true
  | _ => false
def isListD : PyData → Bool
  | .list _ => true
  | .tuple _ => true
  | _ => false
def isIntsD (m : Int) : PyData → Bool
  | .list xs => decide ((xs.length : Int) = m) && xs.all isIntD
  | .tuple xs => decide ((xs.length : Int) = m) && xs.all isIntD
  | _ => false
theorem ty_dp {K : PySem.W.Frag} {H : Hp} {v : V} {d : PyData} (h : Dp K H v d) : TyF K H v (.type (tnD d)) := by
  cases h with
  | non => exact .inl (.base .non)
  | bl b => exact .inl (.base (.bl b))
  | int i => exact .inl (.base (.int i))
  | str x => exact .inl (.base (.str x))
  | lst h1 _ => exact .inl (ty_l h1)
  | tup h1 _ => exact .inl (ty_t h1)
def isBoolD : PyData → Bool
  | .bool _ => true
  | _ => false
theorem kd_int {K : PySem.W.Frag} (d : PyData) : PySem.W.kitOne K (.type (tnD d)) (.type "int") = some (isIntD d || isBoolD d) := by
  cases d with
  | none => exact kit_ty (show kitB "NoneType" "int" = some false by decide +kernel)
  | bool => exact kit_ty (show kitB "bool" "int" = some true by decide +kernel)
  | int => exact kit_ty (show kitB "int" "int" = some true by decide +kernel)
  | str => exact kit_ty (show kitB "str" "int" = some false by decide +kernel)
  | list => exact kit_ty (show kitB "list" "int" = some false by decide +kernel)
  | tuple => exact kit_ty (show kitB "tuple" "int" = some false by decide +kernel)
  | dict => exact kit_ty (show kitB "dict" "int" = some false by decide +kernel)
theorem kd_bool {K : PySem.W.Frag} (d : PyData) : PySem.W.kitOne K (.type (tnD d)) (.type "bool") = some (isBoolD d) := by
  cases d with
  | none => exact kit_ty (show kitB "NoneType" "bool" = some false by decide +kernel)
  | bool => exact kit_ty (show kitB "bool" "bool" = some true by decide +kernel)
  | int => exact kit_ty (show kitB "int" "bool" = some false by decide +kernel)
  | str => exact kit_ty (show kitB "str" "bool" = some false by decide +kernel)
  | list => exact kit_ty (show kitB "list" "bool" = some false by decide +kernel)
  | tuple => exact kit_ty (show kitB "tuple" "bool" = some false by decide +kernel)
  | dict => exact kit_ty (show kitB "dict" "bool" = some false by decide +kernel)
theorem kd_seq {K : PySem.W.Frag} (d : PyData) : PySem.W.kitAny K (.type (tnD d)) [.type "list", .type "tuple"] = some (isListD d) := by
  cases d with
  | list => exact seq_yes_l
  | tuple => exact seq_yes_t
  | none => exact kit_no2 (T := "NoneType") (by decide +kernel) (by decide +kernel)
  | bool => exact kit_no2 (T := "bool") (by decide +kernel) (by decide +kernel)
  | int => exact kit_no2 (T := "int") (by decide +kernel) (by decide +kernel)
  | str => exact kit_no2 (T := "str") (by decide +kernel) (by decide +kernel)
  | dict => exact kit_no2 (T := "dict") (by decide +kernel) (by decide +kernel)
section
variable {P : Program} {w : World} {K : PySem.W.Frag} {mg : Str → Option Value} {base : Heap}
def spIsInteger (K : PySem.W.Frag) : Sp := fun vs H Q _ => ∃ (v : V) (d : PyData), vs = [v] ∧ Dp K H v d ∧ Q (.bl (isIntD d)) H
theorem scIsInteger : FnScope ["thing"] ["thing"] (defScope sIsInteger) := ⟨rfl, rfl, rfl, by decide +kernel, rfl, by decide +kernel, by decide +kernel⟩
theorem ok_isInteger {f : Addr} {fd : FuncData} (F : L2.Fun K "is_integer" "is_integer" sIsInteger f fd) (T : Bn mg) : FnOk P w K mg base CX0 1 f fd ["thing"] (spIsInteger K) := by
  refine F.ok scIsInteger (fun vs H Q E h => ?_) (fun cdv A outer s H vs Q E hr h => ?_)
  · obtain ⟨v, d, rfl, _⟩ := h
    rfl
  · obtain ⟨v, d, rfl, hd, k⟩ := h
    refine ⟨_, pss_one (ps_ret (pe_and (pe_callB call_is1 (by rfl) T.isinstance boot_isinstance (pa_cons (pv 0) (pa_cons (pe_bltn (v := .ty "int") (by rfl) T.int boot_int rfl) pa_nil)))
      (pe_one (pe_not (pe_callB call_is1 (by rfl) T.isinstance boot_isinstance (pa_cons (pv 0) (pa_cons (pe_bltn (v := .ty "bool") (by rfl) T.bool boot_bool rfl) pa_nil))))))), ?_⟩
    refine ⟨_, rfl, v, _, _, .type "int", _, rfl, .ty _, ty_dp hd, kd_int d, _, rfl, ?_⟩
    by_cases hi : isIntD d = true
    · rw [hi] at k ⊢
      refine iteT ?_
      refine ⟨_, rfl, v, _, _, .type "bool", _, rfl, .ty _, ty_dp hd, kd_bool d, _, rfl, ?_⟩
      cases d <;> first | exact k | cases hi
    · have hf : isIntD d = false := by simpa using hi
      rw [hf] at k ⊢
      cases d with
      | bool b =>
        refine iteT ?_
        exact ⟨_, rfl, v, _, _, .type "bool", _, rfl, .ty _, ty_dp hd, kd_bool _, _, rfl, k⟩
      | int i => cases hf
      | _ => exact iteF k
/-- what a thing is asked by is_list, in this heap and later ones -/
def Lk (K : PySem.W.Frag) (H : Hp) (v : V) (b : Bool) : Prop := ∃ t : Value, (∀ H', Ex (nt H) H' → TyF K H' v t) ∧ PySem.W.kitAny K t [.type "list", .type "tuple"] = some b
theorem lk_dp {H : Hp} {v : V} {d : PyData} (h : Dp K H v d) : Lk K H v (isListD d) := ⟨_, fun H' e => ty_dp (dp_ex e d v (dp_nt d v h)), kd_seq d⟩
theorem Lk.ex {H H' : Hp} {v : V} {b : Bool} (h : Lk K H v b) (e : Ex H H') : Lk K H' v b := by
  obtain ⟨t, h1, h2⟩ := h
  exact ⟨t, fun H2 e2 => h1 H2 ((nt_mono e).trans e2), h2⟩
theorem Lk.nt {H : Hp} {v : V} {b : Bool} (h : Lk K H v b) : Lk K (AA.nt H) v b := by
  obtain ⟨t, h1, h2⟩ := h
  exact ⟨t, fun H2 e2 => h1 H2 (nt_idem.trans e2), h2⟩
def spIsList (K : PySem.W.Frag) : Sp := fun vs H Q _ => ∃ (v : V) (b : Bool), vs = [v] ∧ Lk K H v b ∧ ∀ H', Ex H H' → Q (.bl b) H'
theorem scIsList : FnScope ["thing"] ["thing"] (defScope sIsList) := ⟨rfl, rfl, rfl, by decide +kernel, rfl, by decide +kernel, by decide +kernel⟩
theorem ok_isList {f : Addr} {fd : FuncData} (F : L2.Fun K "is_list" "is_list" sIsList f fd) (T : Bn mg) : FnOk P w K mg base CX0 1 f fd ["thing"] (spIsList K) := by
  refine F.ok scIsList (fun vs H Q E h => ?_) (fun cdv A outer s H vs Q E hr h => ?_)
  · obtain ⟨v, b, rfl, _⟩ := h
    rfl
  · obtain ⟨v, b, rfl, ⟨t, hty, hk⟩, k⟩ := h
    refine ⟨_, pss_one (ps_ret (pe_callB call_isN (by rfl) T.isinstance boot_isinstance (pa_cons (pv 0) (pa_cons (pe_tup (pa_cons (pe_bltn (v := .ty "list") (by rfl) T.list boot_list rfl) (pa_cons (pe_bltn (v := .ty "tuple") (by rfl) T.tuple boot_tuple rfl) pa_nil))) pa_nil)))), ?_⟩
    refine ⟨_, rfl, by show 2 ≤ sizeLine; decide, fun p hp => ?_⟩
    have e1 : Ex H (upd H p (.tup [.ty "list", .ty "tuple"])) := Ex.new hp
    exact ⟨v, p, _, t, [.type "list", .type "tuple"], b, rfl, upd_same, .cons (.ty _) (.cons (.ty _) .nil), hty _ (nt_le.trans e1), hk, k _ e1⟩
/-- a list or a tuple of data -/
theorem dp_seq {H : Hp} {v : V} {d : PyData} (h : Dp K H v d) (l : isListD d = true) : ∃ (a : Addr) (xs : List V) (ds : List PyData), v = .ref a ∧ DpAll K H xs ds ∧ ((d = .list ds ∧ SqL K H a xs) ∨ (d = .tuple ds ∧ SqT K H a xs)) := by
  cases h with
  | lst h1 h2 => exact ⟨_, _, _, rfl, h2, .inl ⟨rfl, h1⟩⟩
  | tup h1 h2 => exact ⟨_, _, _, rfl, h2, .inr ⟨rfl, h1⟩⟩
  | _ => cases l
def itemsD : PyData → List PyData
  | .list xs => xs
  | .tuple xs => xs
  | _ => []
end
end AA

set_option Elab.async false
set_option linter.all false
set_option maxRecDepth 100000
set_option maxHeartbeats 4000000
/-! read_step. -/
namespace AA
open PySem PySem.Spec PyProof.Rows L2 Evl
/-- the step that a thing is, between n places -/
def rdStep (n : Int) (d : PyData) : Option St5 :=
  match itemsD d with
  | [.int a, .int b, c, .int e, .int f] =>
    match itemsD c with
    | [.int p, .int q] => if 0 ≤ a ∧ a < n ∧ 0 ≤ b ∧ b < n ∧ 1 ≤ e then some ⟨a, b, p, q, e, f⟩ else none
    | _ => none
  | _ => none
theorem int_of {d : PyData} (h : isIntD d = true) : ∃ i, d = .int i := by
  cases d with
  | int i => exact ⟨i, rfl⟩
  | _ => cases h
theorem ints_of {m : Int} {d : PyData} (h : isIntsD m d = true) : ((itemsD d).length : Int) = m ∧ (itemsD d).all isIntD = true ∧ isListD d = true := by
  cases d with
  | list xs =>
    have h' : (decide ((xs.length : Int) = m) && xs.all isIntD) = true := h
    rw [Bool.and_eq_true] at h'
    exact ⟨of_decide_eq_true h'.1, h'.2, rfl⟩
  | tuple xs =>
    have h' : (decide ((xs.length : Int) = m) && xs.all isIntD) = true := h
    rw [Bool.and_eq_true] at h'
    exact ⟨of_decide_eq_true h'.1, h'.2, rfl⟩
  | _ => cases h
theorem rd_len {n : Int} {d : PyData} {s : St5} (h : rdStep n d = some s) : (itemsD d).length = 5 := by
  unfold rdStep at h
  split at h
  · rename_i e
    rw [e]
    rfl
  · cases h
theorem rd_list {n : Int} {d : PyData} {s : St5} (h : rdStep n d = some s) : isListD d = true := by
  have := rd_len h
  cases d with
  | list => rfl
  | tuple => rfl
  | _ => cases this
theorem rd_ints {n : Int} {d d0 d1 d2 d3 d4 : PyData} {s : St5} (hd : itemsD d = [d0, d1, d2, d3, d4]) (h : rdStep n d = some s) : isIntsD 4 (.list [d0, d1, d3, d4]) = true ∧ isIntsD 2 d2 = true := by
  unfold rdStep at h
  rw [hd] at h
  split at h
  · rename_i a b c e f q
    cases q
    split at h
    · rename_i p q e2
      refine ⟨rfl, ?_⟩
      cases d2 with
      | list xs =>
        obtain rfl : xs = [.int p, .int q] := e2
        rfl
      | tuple xs =>
        obtain rfl : xs = [.int p, .int q] := e2
        rfl
      | _ => cases e2
    · cases h
  · cases h
theorem rd_at {n a b e f p q : Int} {d c : PyData} (hd : itemsD d = [.int a, .int b, c, .int e, .int f]) (hc : itemsD c = [.int p, .int q]) :
    rdStep n d = if 0 ≤ a ∧ a < n ∧ 0 ≤ b ∧ b < n ∧ 1 ≤ e then some ⟨a, b, p, q, e, f⟩ else none := by
  unfold rdStep
  rw [hd]
  show (match itemsD c with | [.int p, .int q] => if 0 ≤ a ∧ a < n ∧ 0 ≤ b ∧ b < n ∧ 1 ≤ e then some (⟨a, b, p, q, e, f⟩ : St5) else none | _ => none) = _
  rw [hc]
theorem four_of {d0 d1 d3 d4 : PyData} (h : isIntsD 4 (.list [d0, d1, d3, d4]) = true) : ∃ a b e f, d0 = .int a ∧ d1 = .int b ∧ d3 = .int e ∧ d4 = .int f := by
  have := (ints_of h).2.1
  have h2 : (isIntD d0 && (isIntD d1 && (isIntD d3 && (isIntD d4 && true)))) = true := this
  simp only [Bool.and_eq_true] at h2
  obtain ⟨a, rfl⟩ := int_of h2.1
  obtain ⟨b, rfl⟩ := int_of h2.2.1
  obtain ⟨e, rfl⟩ := int_of h2.2.2.1
  obtain ⟨f, rfl⟩ := int_of h2.2.2.2.1
  exact ⟨a, b, e, f, rfl, rfl, rfl, rfl⟩
theorem two_of {d : PyData} (h : isIntsD 2 d = true) : ∃ p q, itemsD d = [.int p, .int q] := by
  obtain ⟨h1, h2, _⟩ := ints_of h
  generalize itemsD d = l at h1 h2
  match l, h1, h2 with
  | [x, y], _, h2 =>
    have h3 : (isIntD x && (isIntD y && true)) = true := h2
    simp only [Bool.and_eq_true] at h3
    obtain ⟨p, rfl⟩ := int_of h3.1
    obtain ⟨q, rfl⟩ := int_of h3.2.1
    exact ⟨p, q, rfl⟩
  | [], h1, _ => cases h1
  | [x], h1, _ => cases h1
  | x :: y :: z :: r, h1, _ =>
    simp only [List.length_cons] at h1
    omega
/-- what read_step answers -/
def RdR (K : PySem.W.Frag) (H : Hp) (r : V) : Option St5 → Prop
  | none => r = .non
  | some s => Dp K H r (stD s)
theorem pg_or {X : Cx} {tg : Expr} {g1 g2 : TG} (h1 : PG X tg g1) (h2 : PG X tg g2) : PG X tg (fun v σ H Q => g1 v σ H Q ∨ g2 v σ H Q) :=
  ⟨fun pins s σ H v u Q I r hw => hw.elim (h1.run pins s σ H v u Q I r) (h2.run pins s σ H v u Q I r)⟩
theorem gun_or {K : PySem.W.Frag} {n : Nat} {t : TGs} {v : V} {σ : L2.St} {H : Hp} {Q : L2.St → Hp → Prop} {a : Addr} {xs : List V} (e : v = .ref a) (h : SqL K H a xs ∨ SqT K H a xs) (hn : xs.length = n) (ht : t xs σ H Q) : gUnl K n t v σ H Q ∨ gTup K n t v σ H Q :=
  h.imp (fun h => ⟨a, xs, e, h, hn, ht⟩) (fun h => ⟨a, xs, e, h, hn, ht⟩)
theorem five_of {α : Type} {xs : List α} (h : xs.length = 5) : ∃ a b c d e, xs = [a, b, c, d, e] := by
  match xs, h with
  | [a, b, c, d, e], _ => exact ⟨a, b, c, d, e, rfl⟩
theorem dpa_five {K : PySem.W.Frag} {H : Hp} {x0 x1 x2 x3 x4 : V} {ds : List PyData} (h : DpAll K H [x0, x1, x2, x3, x4] ds) :
    ∃ d0 d1 d2 d3 d4, ds = [d0, d1, d2, d3, d4] ∧ Dp K H x0 d0 ∧ Dp K H x1 d1 ∧ Dp K H x2 d2 ∧ Dp K H x3 d3 ∧ Dp K H x4 d4 := by
  cases h with
  | cons h0 h =>
    cases h with
    | cons h1 h =>
      cases h with
      | cons h2 h =>
        cases h with
        | cons h3 h =>
          cases h with
          | cons h4 h =>
            cases h
            exact ⟨_, _, _, _, _, rfl, h0, h1, h2, h3, h4⟩
section
variable {P : Program} {w : World} {K : PySem.W.Frag} {mg : Str → Option Value} {base : Heap}
/-- a list or a tuple stands there -/
def SqA (K : PySem.W.Frag) (H : Hp) (a : Addr) (xs : List V) : Prop := SqL K H a xs ∨ SqT K H a xs
theorem SqA.ex {H H' : Hp} {a : Addr} {xs : List V} (h : SqA K H a xs) (e : Ex H H') : SqA K H' a xs := h.imp (fun h => ex_l e h) (fun h => ex_t e h)
theorem SqA.nt {H : Hp} {a : Addr} {xs : List V} (h : SqA K H a xs) : SqA K (AA.nt H) a xs := h.imp sql_nt sqt_nt
theorem lk_sq {H : Hp} {a : Addr} {xs : List V} (h : SqA K H a xs) : Lk K H (.ref a) true := h.elim (fun h => ⟨_, fun H' e => .inl (ty_l (ex_l e (sql_nt h))), seq_yes_l⟩) (fun h => ⟨_, fun H' e => .inl (ty_t (ex_t e (sqt_nt h))), seq_yes_t⟩)
/-- a thing that is no integer, in this heap and later ones -/
def NotI (K : PySem.W.Frag) (H : Hp) (v : V) : Prop := ∃ (t : Value) (i b : Bool), (∀ H', Ex (nt H) H' → TyF K H' v t) ∧ PySem.W.kitOne K t (.type "int") = some i ∧ PySem.W.kitOne K t (.type "bool") = some b ∧ (i && !b) = false
theorem NotI.ex {H H' : Hp} {v : V} (h : NotI K H v) (e : Ex H H') : NotI K H' v := by
  obtain ⟨t, i, b, h1, h2⟩ := h
  exact ⟨t, i, b, fun H2 e2 => h1 H2 ((nt_mono e).trans e2), h2⟩
theorem NotI.nt {H : Hp} {v : V} (h : NotI K H v) : NotI K (AA.nt H) v := by
  obtain ⟨t, i, b, h1, h2⟩ := h
  exact ⟨t, i, b, fun H2 e2 => h1 H2 (nt_idem.trans e2), h2⟩
theorem ni_dp {H : Hp} {v : V} {d : PyData} (h : Dp K H v d) (hd : isIntD d = false) : NotI K H v := ⟨_, _, _, fun H' e => ty_dp (dp_ex e d v (dp_nt d v h)), kd_int d, kd_bool d, by cases d <;> first | rfl | cases hd⟩
theorem ni_fn {H : Hp} {f : Addr} {o : Obj} (h1 : K.lookup f = some o) (h2 : o.cls = .type "function") : NotI K H (.ref f) := ⟨.type "function", false, false, fun H' e => .inr ⟨f, o, rfl, h1, h2, rfl⟩, kit_ty (by decide +kernel), kit_ty (by decide +kernel), rfl⟩
theorem ni_dict {H : Hp} {p : Addr} (h : H p = some (.dK [])) : NotI K H (.ref p) := ⟨.type "dict", false, false, fun H' e => .inl (.base (.dK (e _ _ (nt_of h fun ps z => nomatch z)))), kit_ty (by decide +kernel), kit_ty (by decide +kernel), rfl⟩
theorem ni_sq {H : Hp} {a : Addr} {xs : List V} (h : SqA K H a xs) : NotI K H (.ref a) := h.elim (fun h => ⟨_, false, false, fun H' e => .inl (ty_l (ex_l e (sql_nt h))), kit_ty (by decide +kernel), kit_ty (by decide +kernel), rfl⟩) (fun h => ⟨_, false, false, fun H' e => .inl (ty_t (ex_t e (sqt_nt h))), kit_ty (by decide +kernel), kit_ty (by decide +kernel), rfl⟩)
theorem lk_fn {H : Hp} {f : Addr} {o : Obj} (h1 : K.lookup f = some o) (h2 : o.cls = .type "function") : Lk K H (.ref f) false := ⟨.type "function", fun H' e => .inr ⟨f, o, rfl, h1, h2, rfl⟩, kit_no2 (by decide +kernel) (by decide +kernel)⟩
theorem lk_dict {H : Hp} {p : Addr} (h : H p = some (.dK [])) : Lk K H (.ref p) false := ⟨.type "dict", fun H' e => .inl (.base (.dK (e _ _ (nt_of h fun ps z => nomatch z)))), kit_no2 (by decide +kernel) (by decide +kernel)⟩
/-- a thing that read_step tells to be none -/
def RdNo (K : PySem.W.Frag) (n : Int) (H : Hp) (v : V) : Prop :=
  Lk K H v false ∨ ∃ (a : Addr) (xs : List V), v = .ref a ∧ SqA K H a xs ∧ (xs.length ≠ 5 ∨ ∃ x0 x1 x2 x3 x4, xs = [x0, x1, x2, x3, x4] ∧
    (Lk K H x2 false ∨ ∃ (b : Addr) (ys : List V), x2 = .ref b ∧ SqA K H b ys ∧ (ys.length ≠ 2 ∨ ∃ y0 y1, ys = [y0, y1] ∧
      ((∃ (is : List Int) (z : V) (r : List V), [x0, x1, y0, y1, x3, x4] = is.map V.int ++ z :: r ∧ NotI K H z) ∨
        ∃ i0 i1 p q i3 i4 : Int, [x0, x1, y0, y1, x3, x4] = [V.int i0, V.int i1, V.int p, V.int q, V.int i3, V.int i4] ∧ ¬ (0 ≤ i0 ∧ i0 < n ∧ 0 ≤ i1 ∧ i1 < n ∧ 1 ≤ i3)))))
theorem RdNo.ex {n : Int} {H H' : Hp} {v : V} (h : RdNo K n H v) (e : Ex H H') : RdNo K n H' v := by
  rcases h with h | ⟨a, xs, h1, h2, h⟩
  · exact .inl (h.ex e)
  · refine .inr ⟨a, xs, h1, h2.ex e, h.imp id ?_⟩
    rintro ⟨x0, x1, x2, x3, x4, h3, h⟩
    refine ⟨x0, x1, x2, x3, x4, h3, h.imp (fun z => z.ex e) ?_⟩
    rintro ⟨b, ys, h4, h5, h⟩
    refine ⟨b, ys, h4, h5.ex e, h.imp id ?_⟩
    rintro ⟨y0, y1, h6, h⟩
    refine ⟨y0, y1, h6, h.imp ?_ id⟩
    rintro ⟨is, z, r, h7, h8⟩
    exact ⟨is, z, r, h7, h8.ex e⟩
theorem RdNo.nt {n : Int} {H : Hp} {v : V} (h : RdNo K n H v) : RdNo K n (AA.nt H) v := by
  rcases h with h | ⟨a, xs, h1, h2, h⟩
  · exact .inl h.nt
  · refine .inr ⟨a, xs, h1, h2.nt, h.imp id ?_⟩
    rintro ⟨x0, x1, x2, x3, x4, h3, h⟩
    refine ⟨x0, x1, x2, x3, x4, h3, h.imp (fun z => z.nt) ?_⟩
    rintro ⟨b, ys, h4, h5, h⟩
    refine ⟨b, ys, h4, h5.nt, h.imp id ?_⟩
    rintro ⟨y0, y1, h6, h⟩
    refine ⟨y0, y1, h6, h.imp ?_ id⟩
    rintro ⟨is, z, r, h7, h8⟩
    exact ⟨is, z, r, h7, h8.nt⟩
def spReadStep (K : PySem.W.Frag) : Sp := fun vs H Q _ => ∃ (n : Int) (v : V), vs = [.int n, v] ∧ ((RdNo K n H v ∧ ∀ H', Ex H H' → Q .non H') ∨ ∃ d, Dp K H v d ∧ ∀ H' r, Ex H H' → RdR K H' r (rdStep n d) → Q r H')
theorem scReadStep : FnScope ["places", "thing", "one", "other", "amounts", "ticks", "change", "number"] ["places", "thing"] (defScope sReadStep) := ⟨rfl, rfl, rfl, by decide +kernel, rfl, by decide +kernel, by decide +kernel⟩
theorem rd_six {n : Int} {d d0 d1 d2 d3 d4 : PyData} {s : St5} (hd : itemsD d = [d0, d1, d2, d3, d4]) (h : rdStep n d = some s) : isListD d2 = true ∧ ∃ e0 e1, itemsD d2 = [e0, e1] ∧ ∀ z ∈ [d0, d1, e0, e1, d3, d4], isIntD z = true := by
  obtain ⟨h4, h2⟩ := rd_ints hd h
  obtain ⟨a, b, e, f, rfl, rfl, rfl, rfl⟩ := four_of h4
  obtain ⟨p, q, hc⟩ := two_of h2
  refine ⟨(ints_of h2).2.2, _, _, hc, fun z hz => ?_⟩
  simp only [List.mem_cons, List.not_mem_nil, or_false] at hz
  rcases hz with rfl | rfl | rfl | rfl | rfl | rfl <;> rfl
theorem two_ofl {α : Type} {xs : List α} (h : xs.length = 2) : ∃ a b, xs = [a, b] := by
  match xs, h with
  | [a, b], _ => exact ⟨a, b, rfl⟩
theorem dpa_two {K : PySem.W.Frag} {H : Hp} {x0 x1 : V} {ds : List PyData} (h : DpAll K H [x0, x1] ds) : ∃ d0 d1, ds = [d0, d1] ∧ Dp K H x0 d0 ∧ Dp K H x1 d1 := by
  cases h with
  | cons h0 h =>
    cases h with
    | cons h1 h =>
      cases h
      exact ⟨_, _, rfl, h0, h1⟩
theorem ix_at {K : PySem.W.Frag} {G : Hp} {b : Addr} {ys : List V} {j : Nat} {y : V} {Q : V → Hp → Prop} (h : SqL K G b ys ∨ SqT K G b ys) (e : ys[j]? = some y) (k : Q y G) : rIx K (.ref b) (.int (j : Nat)) G Q :=
  h.elim (fun h => .inl ⟨b, ys, _, y, rfl, rfl, h, atI_nat e, k⟩) (fun h => .inr (.inl ⟨b, ys, _, y, rfl, rfl, h, atI_nat e, k⟩))
theorem ok_readStep {f : Addr} {fd : FuncData} (F : L2.Fun K "read_step" "read_step" sReadStep f fd) (T : Bn mg) (cL : C8.Cal P w K mg base 1 "is_list" (spIsList K) []) :
    FnOk P w K mg base CX0 3 f fd ["places", "thing"] (spReadStep K) := by
  refine F.ok scReadStep (fun vs H Q E h => ?_) (fun cdv A outer s H vs Q E hr h => ?_)
  · obtain ⟨n, v, rfl, _⟩ := h
    rfl
  · obtain ⟨n, v, rfl, h⟩ := h
    refine ⟨_, pss_cons (ps_if (PW.pt (pw_or (pt_not (pt_val (C8.pe_c cL hr (by decide) (by rfl) (pa_cons (pv 1) pa_nil)))) (pw_or1 (pt_cmpR op_ne (pe_callB call_len_seq (by rfl) T.len PySem.boot_len (pa_cons (pv 1) pa_nil)) pe_int (nomark _)))))
        (pss_one (ps_ret pe_non)) pss_nil)
      (pss_cons (ps_asg (pv 1) (pg_or (pg_unl (n := 5) rfl (pgs_cons (pg_name (i := 2) scReadStep.nd rfl (Or.inl rfl)) (pgs_cons (pg_name (i := 3) scReadStep.nd rfl (Or.inl rfl)) (pgs_cons (pg_name (i := 4) scReadStep.nd rfl (Or.inl rfl)) (pgs_cons (pg_name (i := 5) scReadStep.nd rfl (Or.inl rfl)) (pgs_cons (pg_name (i := 6) scReadStep.nd rfl (Or.inl rfl)) pgs_nil))))))
          (pg_tup (n := 5) rfl (pgs_cons (pg_name (i := 2) scReadStep.nd rfl (Or.inl rfl)) (pgs_cons (pg_name (i := 3) scReadStep.nd rfl (Or.inl rfl)) (pgs_cons (pg_name (i := 4) scReadStep.nd rfl (Or.inl rfl)) (pgs_cons (pg_name (i := 5) scReadStep.nd rfl (Or.inl rfl)) (pgs_cons (pg_name (i := 6) scReadStep.nd rfl (Or.inl rfl)) pgs_nil))))))))
      (pss_cons (ps_if (PW.pt (pw_or (pt_not (pt_val (C8.pe_c cL hr (by decide) (by rfl) (pa_cons (pv 4) pa_nil)))) (pw_or1 (pt_cmpR op_ne (pe_callB call_len_seq (by rfl) T.len PySem.boot_len (pa_cons (pv 4) pa_nil)) pe_int (nomark _)))))
        (pss_one (ps_ret pe_non)) pss_nil)
      (pss_cons (ps_for PassesOwn.never rfl (pi_tup (pe_tup (pa_cons (pv 2) (pa_cons (pv 3) (pa_cons (pe_ix ix_seq (pv 4) pe_int (fun _ _ => rfl)) (pa_cons (pe_ix ix_seq (pv 4) pe_int (fun _ _ => rfl)) (pa_cons (pv 5) (pa_cons (pv 6) pa_nil)))))))) (pg_name (i := 7) scReadStep.nd rfl (Or.inl rfl))
        (pss_one (ps_if (PW.pt (pw_or (pt_not (pt_val (pe_callB call_is1 (by rfl) T.isinstance boot_isinstance (pa_cons (pv 7) (pa_cons (pe_bltn (v := .ty "int") (by rfl) T.int boot_int rfl) pa_nil)))))
            (pw_or1 (pt_val (pe_callB call_is1 (by rfl) T.isinstance boot_isinstance (pa_cons (pv 7) (pa_cons (pe_bltn (v := .ty "bool") (by rfl) T.bool boot_bool rfl) pa_nil)))))))
          (pss_one (ps_ret pe_non)) pss_nil)))
      (pss_cons (ps_if (PW.pt (pw_or (pt_cmpR op_lt (pv 2) pe_int (nomark _)) (pw_or (pt_cmpR op_ge (pv 2) (pv 0) (nomark _)) (pw_or (pt_cmpR op_lt (pv 3) pe_int (nomark _)) (pw_or (pt_cmpR op_ge (pv 3) (pv 0) (nomark _)) (pw_or1 (pt_cmpR op_lt (pv 5) pe_int (nomark _))))))))
        (pss_one (ps_ret pe_non)) pss_nil)
      (pss_one (ps_ret (pe_tup (pa_cons (pv 2) (pa_cons (pv 3) (pa_cons (pe_callTy call_tuple_of (by rfl) T.tuple boot_tuple (pa_cons (pv 4) pa_nil)) (pa_cons (pv 5) (pa_cons (pv 6) pa_nil)))))))))))), ?_⟩
    rcases h with ⟨hno, k⟩ | ⟨d, hd, k⟩
    · rcases hno with hl | ⟨a, xs, rfl, hs, hno⟩
      · exact ⟨_, rfl, v, _, rfl, hl, fun H1 e1 => ⟨_, rfl, iteT (iteT (k _ e1))⟩⟩
      refine ⟨_, rfl, .ref a, _, rfl, lk_sq hs, fun H1 e1 => ⟨_, rfl, iteF ?_⟩⟩
      have hs1 := hs.ex e1
      refine ⟨_, rfl, a, xs, rfl, hs1, rfl, _, rfl, ?_⟩
      rcases hno with h5 | ⟨x0, x1, x2, x3, x4, rfl, hno⟩
      · rw [decide_eq_false (fun z => h5 (by have := V.int.inj z; omega))]
        exact iteT (k _ e1)
      rw [decide_eq_true (show V.int (([x0, x1, x2, x3, x4] : List V).length : Int) = V.int 5 from rfl)]
      refine iteF ?_
      refine ⟨_, rfl, gun_or rfl hs1 rfl ⟨x0, _, rfl, x1, _, rfl, x2, _, rfl, x3, _, rfl, x4, _, rfl, rfl, ?_⟩⟩
      rcases hno with hl2 | ⟨b, ys, rfl, hs2, hno⟩
      · exact ⟨_, rfl, x2, _, rfl, hl2.ex e1, fun G2 e2 => ⟨_, rfl, iteT (iteT (k _ (e1.trans e2)))⟩⟩
      refine ⟨_, rfl, .ref b, _, rfl, lk_sq (hs2.ex e1), fun G2 eG2 => ⟨_, rfl, iteF ?_⟩⟩
      have e2 := e1.trans eG2
      have hs2' : SqL K G2 b ys ∨ SqT K G2 b ys := hs2.ex e2
      refine ⟨_, rfl, b, ys, rfl, hs2', rfl, _, rfl, ?_⟩
      rcases hno with h2 | ⟨y0, y1, rfl, hno⟩
      · rw [decide_eq_false (fun z => h2 (by have := V.int.inj z; omega))]
        exact iteT (k _ e2)
      rw [decide_eq_true (show V.int (([y0, y1] : List V).length : Int) = V.int 2 from rfl)]
      refine iteF ?_
      refine ⟨_, rfl, _, rfl, _, rfl, ix_at (j := 0) hs2' rfl ?_⟩
      refine ⟨_, rfl, ix_at (j := 1) hs2' rfl ?_⟩
      refine ⟨_, rfl, _, rfl, by show 6 ≤ sizeLine; decide, fun L hL => ?_⟩
      have e3 := e2.trans (Ex.new (o := .tup [x0, x1, y0, y1, x3, x4]) hL)
      refine ⟨L, rfl, ⟨_, SqT.of upd_same⟩, ?_⟩
      rcases hno with ⟨is, z, r, hz, hni⟩ | ⟨i0, i1, p, q, i3, i4, hz, hno⟩
      · have hln : is.length + 1 + r.length = 6 := by
          have := congrArg List.length hz
          simp only [List.length_cons, List.length_nil, List.length_append, List.length_map] at this
          omega
        refine for_tup (K := K) (a := L) (xs := [x0, x1, y0, y1, x3, x4]) (fun i σ G => ∃ x7 : Option V, σ = [some (.int n), some (.ref a), some x0, some x1, some (.ref b), some x3, some x4, x7] ∧ G = upd G2 L (.tup [x0, x1, y0, y1, x3, x4]) ∧ i ≤ is.length)
          ⟨none, rfl, rfl, Nat.zero_le _⟩ (fun i σ G _ ⟨_, _, e, _⟩ => by rw [e]; exact SqT.of upd_same) ?_ ?_
        · rintro i y σ G hy ⟨x7, rfl, rfl, hi⟩
          by_cases hlt : i < is.length
          · rw [hz, List.getElem?_append_left (by rw [List.length_map]; exact hlt)] at hy
            obtain ⟨c, _, rfl⟩ := get_ints hy
            refine ⟨_, rfl, _, _, _, .type "int", _, rfl, .ty _, ty_dp (d := .int c) (.int c), kd_int (.int c), _, rfl, ?_⟩
            refine iteF ?_
            exact ⟨_, rfl, _, _, _, .type "bool", _, rfl, .ty _, ty_dp (d := .int c) (.int c), kd_bool (.int c), _, rfl, iteF ⟨_, rfl, rfl, hlt⟩⟩
          · have hie : i = is.length := by omega
            subst hie
            rw [hz, List.getElem?_append_right (by rw [List.length_map]; exact Nat.le_refl _), List.length_map, Nat.sub_self] at hy
            cases (Option.some.inj hy)
            obtain ⟨t, bi, bb, h1, h2, h3, h4⟩ := hni
            refine ⟨_, rfl, _, _, _, .type "int", _, rfl, .ty _, h1 _ (nt_le.trans e3), h2, _, rfl, ?_⟩
            cases bi with
            | false => exact iteT (iteT (k _ e3))
            | true =>
              refine iteF ?_
              refine ⟨_, rfl, _, _, _, .type "bool", _, rfl, .ty _, h1 _ (nt_le.trans e3), h3, _, rfl, ?_⟩
              cases bb with
              | true => exact iteT (k _ e3)
              | false => cases h4
        · rintro σ G ⟨x7, rfl, rfl, hi⟩
          have hi : 6 ≤ is.length := hi
          omega
      · simp only [List.cons.injEq, and_true] at hz
        obtain ⟨rfl, rfl, rfl, rfl, rfl, rfl⟩ := hz
        refine for_tup (K := K) (a := L) (xs := [.int i0, .int i1, .int p, .int q, .int i3, .int i4]) (fun i σ G => ∃ x7 : Option V, σ = [some (.int n), some (.ref a), some (.int i0), some (.int i1), some (.ref b), some (.int i3), some (.int i4), x7] ∧ G = upd G2 L (.tup [.int i0, .int i1, .int p, .int q, .int i3, .int i4]))
          ⟨none, rfl, rfl⟩ (fun i σ G _ ⟨_, _, e⟩ => by rw [e]; exact SqT.of upd_same) ?_ ?_
        · rintro i y σ G hy ⟨x7, rfl, rfl⟩
          obtain ⟨c, _, rfl⟩ := get_ints (ns := [i0, i1, p, q, i3, i4]) hy
          refine ⟨_, rfl, _, _, _, .type "int", _, rfl, .ty _, ty_dp (d := .int c) (.int c), kd_int (.int c), _, rfl, ?_⟩
          refine iteF ?_
          exact ⟨_, rfl, _, _, _, .type "bool", _, rfl, .ty _, ty_dp (d := .int c) (.int c), kd_bool (.int c), _, rfl, iteF ⟨_, rfl, rfl⟩⟩
        · rintro σ G ⟨x7, rfl, rfl⟩
          have no : Q .non (upd G2 L (.tup [.int i0, .int i1, .int p, .int q, .int i3, .int i4])) := k _ e3
          refine ⟨_, rfl, _, _, rfl, rfl, _, rfl, ?_⟩
          refine dec_ite (fun z => ?_) (fun z1 => ?_)
          · exact iteT no
          refine ⟨_, rfl, _, rfl, _, _, rfl, rfl, _, rfl, ?_⟩
          refine dec_ite (fun z => ?_) (fun z2 => ?_)
          · exact iteT no
          refine ⟨_, rfl, _, _, rfl, rfl, _, rfl, ?_⟩
          refine dec_ite (fun z => ?_) (fun z3 => ?_)
          · exact iteT no
          refine ⟨_, rfl, _, rfl, _, _, rfl, rfl, _, rfl, ?_⟩
          refine dec_ite (fun z => ?_) (fun z4 => ?_)
          · exact iteT no
          refine ⟨_, rfl, _, _, rfl, rfl, _, rfl, ?_⟩
          refine dec_ite (fun z => ?_) (fun z5 => ?_)
          · exact no
          exact absurd ⟨by omega, by omega, by omega, by omega, by omega⟩ hno
    have kn : rdStep n d = none → ∀ H', Ex H H' → Q .non H' := fun e H' e' => k H' .non e' (by rw [e]; rfl)
    refine ⟨_, rfl, v, _, rfl, lk_dp hd, fun H1 e1 => ?_⟩
    refine ⟨_, rfl, ?_⟩
    by_cases hl : isListD d = true
    · rw [hl]
      refine iteF ?_
      obtain ⟨a, xs, ds, rfl, hX, hs⟩ := dp_seq hd hl
      have hlen := dpa_len hX
      have hit : itemsD d = ds := by
        rcases hs with ⟨rfl, _⟩ | ⟨rfl, _⟩ <;> rfl
      refine ⟨_, rfl, a, xs, rfl, hs.imp (fun z => ex_l e1 z.2) (fun z => ex_t e1 z.2), rfl, _, rfl, ?_⟩
      by_cases h5 : xs.length = 5
      · have h5' : V.int (xs.length : Int) = V.int 5 := by rw [h5]; rfl
        rw [decide_eq_true h5']
        refine iteF ?_
        obtain ⟨x0, x1, x2, x3, x4, rfl⟩ := five_of h5
        obtain ⟨d0, d1, d2, d3, d4, rfl, hx0, hx1, hx2, hx3, hx4⟩ := dpa_five hX
        refine ⟨_, rfl, gun_or rfl (hs.imp (fun z => ex_l e1 z.2) (fun z => ex_t e1 z.2)) rfl ⟨x0, _, rfl, x1, _, rfl, x2, _, rfl, x3, _, rfl, x4, _, rfl, rfl, ?_⟩⟩
        have nope : (isListD d2 = true → ∀ e0 e1, itemsD d2 = [e0, e1] → (∀ z ∈ [d0, d1, e0, e1, d3, d4], isIntD z = true) → False) → rdStep n d = none := fun z => by
          cases q : rdStep n d with
          | none => rfl
          | some s =>
            obtain ⟨z1, e0, e1, z2, z3⟩ := rd_six hit q
            exact (z z1 e0 e1 z2 z3).elim
        refine ⟨_, rfl, x2, _, rfl, lk_dp (dp_ex e1 _ _ hx2), fun G2 eG2 => ⟨_, rfl, ?_⟩⟩
        have e2 := e1.trans eG2
        by_cases hl2 : isListD d2 = true
        · rw [hl2]
          refine iteF ?_
          obtain ⟨b, ys, es, rfl, hY, hs2⟩ := dp_seq hx2 hl2
          have hit2 : itemsD d2 = es := by
            rcases hs2 with ⟨rfl, _⟩ | ⟨rfl, _⟩ <;> rfl
          have hylen := dpa_len hY
          have hs2' : SqL K G2 b ys ∨ SqT K G2 b ys := hs2.imp (fun z => ex_l e2 z.2) (fun z => ex_t e2 z.2)
          refine ⟨_, rfl, b, ys, rfl, hs2', rfl, _, rfl, ?_⟩
          by_cases h2 : ys.length = 2
          · have h2' : V.int (ys.length : Int) = V.int 2 := by rw [h2]; rfl
            rw [decide_eq_true h2']
            refine iteF ?_
            obtain ⟨y0, y1, rfl⟩ := two_ofl h2
            obtain ⟨c0, c1, rfl, hy0, hy1⟩ := dpa_two hY
            refine ⟨_, rfl, _, rfl, _, rfl, ix_at (j := 0) hs2' rfl ?_⟩
            refine ⟨_, rfl, ix_at (j := 1) hs2' rfl ?_⟩
            refine ⟨_, rfl, _, rfl, by show 6 ≤ sizeLine; decide, fun L hL => ?_⟩
            have e3 := e2.trans (Ex.new (o := .tup [x0, x1, y0, y1, x3, x4]) hL)
            have hA : DpAll K (upd G2 L (.tup [x0, x1, y0, y1, x3, x4])) [x0, x1, y0, y1, x3, x4] [d0, d1, c0, c1, d3, d4] := dpa_ex e3 _ _ (.cons hx0 (.cons hx1 (.cons hy0 (.cons hy1 (.cons hx3 (.cons hx4 .nil))))))
            refine ⟨L, rfl, ⟨_, SqT.of upd_same⟩, ?_⟩
            refine for_tup (K := K) (a := L) (xs := [x0, x1, y0, y1, x3, x4]) (fun i σ G => ∃ x7 : Option V, σ = [some (.int n), some (.ref a), some x0, some x1, some (.ref b), some x3, some x4, x7] ∧ G = upd G2 L (.tup [x0, x1, y0, y1, x3, x4]) ∧ ∀ z ∈ ([d0, d1, c0, c1, d3, d4] : List PyData).take i, isIntD z = true)
              ⟨none, rfl, rfl, fun z hz => by simp at hz⟩ (fun i σ G _ ⟨_, _, e, _⟩ => by rw [e]; exact SqT.of upd_same) ?_ ?_
            · rintro i y σ G hy ⟨x7, rfl, rfl, hi⟩
              obtain ⟨di, hdi, hyd⟩ := dpa_get hA hy
              have hmem := mem_of_get hdi
              refine ⟨_, rfl, y, _, _, .type "int", _, rfl, .ty _, ty_dp hyd, kd_int di, _, rfl, ?_⟩
              have bad : isIntD di = false → Q .non (upd G2 L (.tup [x0, x1, y0, y1, x3, x4])) := fun z => kn (nope fun _ f0 f1 hf hz => by
                rw [hit2] at hf
                cases hf
                have := hz di hmem
                rw [z] at this
                cases this) _ e3
              cases hi1 : isIntD di with
              | true =>
                refine iteF ?_
                refine ⟨_, rfl, y, _, _, .type "bool", _, rfl, .ty _, ty_dp hyd, kd_bool di, ?_⟩
                obtain ⟨i', rfl⟩ := int_of hi1
                refine ⟨_, rfl, iteF ⟨_, rfl, rfl, fun z hz => ?_⟩⟩
                rw [List.take_succ, hdi] at hz
                rcases List.mem_append.mp hz with hz | hz
                · exact hi z hz
                · simp at hz
                  subst hz
                  rfl
              | false =>
                cases di with
                | bool b' =>
                  refine iteF ?_
                  refine ⟨_, rfl, y, _, _, .type "bool", _, rfl, .ty _, ty_dp hyd, kd_bool _, ?_⟩
                  exact ⟨_, rfl, iteT (bad hi1)⟩
                | int => cases hi1
                | _ => exact iteT (iteT (bad hi1))
            · rintro σ G ⟨x7, rfl, rfl, hi⟩
              have hall : ∀ z ∈ [d0, d1, c0, c1, d3, d4], isIntD z = true := fun z hz => hi z (by simpa using hz)
              obtain ⟨i0, rfl⟩ := int_of (hall d0 (by simp))
              obtain ⟨i1, rfl⟩ := int_of (hall d1 (by simp))
              obtain ⟨p, rfl⟩ := int_of (hall c0 (by simp))
              obtain ⟨q, rfl⟩ := int_of (hall c1 (by simp))
              obtain ⟨i3, rfl⟩ := int_of (hall d3 (by simp))
              obtain ⟨i4, rfl⟩ := int_of (hall d4 (by simp))
              have hr5 := rd_at (n := n) hit hit2
              cases hx0
              cases hx1
              cases hx3
              cases hx4
              cases hy0
              cases hy1
              have no : ¬ (0 ≤ i0 ∧ i0 < n ∧ 0 ≤ i1 ∧ i1 < n ∧ 1 ≤ i3) → Q .non (upd G2 L (.tup [.int i0, .int i1, .int p, .int q, .int i3, .int i4])) := fun z => kn (by rw [hr5, if_neg z]) _ e3
              refine ⟨_, rfl, _, _, rfl, rfl, _, rfl, ?_⟩
              refine dec_ite (fun z => ?_) (fun z1 => ?_)
              · exact iteT (no (fun y => by omega))
              refine ⟨_, rfl, _, rfl, _, _, rfl, rfl, _, rfl, ?_⟩
              refine dec_ite (fun z => ?_) (fun z2 => ?_)
              · exact iteT (no (fun y => by omega))
              refine ⟨_, rfl, _, _, rfl, rfl, _, rfl, ?_⟩
              refine dec_ite (fun z => ?_) (fun z3 => ?_)
              · exact iteT (no (fun y => by omega))
              refine ⟨_, rfl, _, rfl, _, _, rfl, rfl, _, rfl, ?_⟩
              refine dec_ite (fun z => ?_) (fun z4 => ?_)
              · exact iteT (no (fun y => by omega))
              refine ⟨_, rfl, _, _, rfl, rfl, _, rfl, ?_⟩
              refine dec_ite (fun z => ?_) (fun z5 => ?_)
              · exact no (fun y => by omega)
              rw [if_pos ⟨by omega, by omega, by omega, by omega, by omega⟩] at hr5
              refine ⟨_, rfl, _, rfl, _, rfl, b, [.int p, .int q], rfl, ?_⟩
              rcases hs2 with ⟨_, hs2⟩ | ⟨_, hs2⟩
              · refine .inl ⟨ex_l e3 hs2, fun l hl => ⟨_, rfl, _, rfl, by show 5 ≤ sizeLine; decide, fun t ht => ?_⟩⟩
                refine k _ _ ((e3.trans (Ex.new hl)).trans (Ex.new ht)) ?_
                rw [hr5]
                exact stD_mk (s := ⟨i0, i1, p, q, i3, i4⟩) (SqT.of upd_same) (SqT.of (by rw [upd_ne (ne_of_none upd_same ht)]; exact upd_same))
              · refine .inr ⟨ex_t e3 hs2, _, rfl, _, rfl, by show 5 ≤ sizeLine; decide, fun t ht => ?_⟩
                refine k _ _ (e3.trans (Ex.new ht)) ?_
                rw [hr5]
                exact stD_mk (s := ⟨i0, i1, p, q, i3, i4⟩) (SqT.of upd_same) (ex_t (e3.trans (Ex.new ht)) hs2)
          · rw [decide_eq_false (fun z => h2 (by have := V.int.inj z; omega))]
            refine iteT (kn (nope fun _ f0 f1 hf _ => h2 ?_) _ e2)
            rw [hylen, ← hit2, hf]
            rfl
        · have hf : isListD d2 = false := by simpa using hl2
          rw [hf]
          exact iteT (iteT (kn (nope fun z _ _ _ _ => hl2 z) _ e2))
      · have hn : rdStep n d = none := by
          cases q : rdStep n d with
          | none => rfl
          | some s => exact absurd (by rw [hlen, ← hit]; exact rd_len q) h5
        rw [decide_eq_false (fun z => h5 (by have := V.int.inj z; omega))]
        exact iteT (kn hn _ e1)
    · have hn : rdStep n d = none := by
        cases q : rdStep n d with
        | none => rfl
        | some s => exact absurd (rd_list q) hl
      have hf : isListD d = false := by simpa using hl
      rw [hf]
      exact iteT (iteT (kn hn _ e1))
end
end AA

set_option Elab.async false
set_option linter.all false
set_option maxRecDepth 100000
set_option maxHeartbeats 4000000
/-! enumerate over a list or a tuple. -/
namespace AA
open PySem PySem.Spec PyProof.Rows L2 Evl
theorem enumT_new {v : Value} {o : Obj} {Z : Heap → Prop} (B : Begins v o Z) :
    Meets (Builtin.«enumerate.__new__» ⟨[.type "enumerate", v], []⟩) (fun _ R s => Z s.heap ∧
      R (.ok (.ret (.ref (s.heap.push o).objs.size))) { s with heap := (s.heap.push o).push { cls := .type "enumerate", data := .fields #[.none, .bool false, .ref s.heap.objs.size, rawInt 0, .none, .none] } }) :=
  .of_wp fun prog w A R s h => by
    obtain ⟨hp, g, d, tk, os⟩ := s
    obtain ⟨z, h⟩ := h
    have sb := sub_enumerate
    have go : ∀ {A' : Around} {E : Value → Shared → Prop} {Q : Value → Shared → Prop}, Q (.ref hp.objs.size) ⟨hp.push o, g, d, tk, os⟩ → wpAny (model prog w) A' (pyIter v) Q E ⟨hp, g, d, tk, os⟩ := fun q => B.iter prog w _ _ ⟨hp, g, d, tk, os⟩ _ z q
    wp_walk using go
    refine wpAny_stack_any (fun st => wpAny_pure ?_)
    split
    · rename_i c _ _ _ _ _
      cases (c == Value.type "enumerate") <;> (wp_walk using go; exact ⟨_, rfl, h⟩)
    · wp_walk using go
      exact ⟨_, rfl, h⟩
section
variable {prog : Program} {w : World} {A : Around} {E : Value → Shared → Prop} {s : Shared}
theorem enumT_call {v : Value} {o : Obj} {Z : Heap → Prop} {Q : Value → Shared → Prop} (B : Begins v o Z) (z : Z s.heap)
    (h : ∀ h', IsEnum h' (s.heap.objs.size + 1) s.heap.objs.size 0 .none → h'.get? s.heap.objs.size = some o → h'.objs.size = s.heap.objs.size + 2 →
      (∀ b o, s.heap.get? b = some o → h'.get? b = some o) → Q (.ref (s.heap.objs.size + 1)) { s with heap := h' }) : wpAny (model prog w) A (call (.type "enumerate") [v]) Q E s := by
  have hz : (s.heap.push o).objs.size = s.heap.objs.size + 1 := Heap.size_push ..
  have he : IsEnum ((s.heap.push o).push { cls := .type "enumerate", data := .fields #[.none, .bool false, .ref s.heap.objs.size, rawInt 0, .none, .none] }) (s.heap.objs.size + 1) s.heap.objs.size 0 .none := by
    have q := Heap.get?_push_size (s.heap.push o) (o := { cls := .type "enumerate", data := .fields #[.none, .bool false, .ref s.heap.objs.size, rawInt 0, .none, .none] }) rfl
    rw [hz] at q
    exact q
  refine callType_new F.called_enumerate (by decide) (F.typeCall_enumerate_1 _) (F.newCall_enumerate_1 _) (fun obj => F.args_object_init_2 obj _) F.entry_enumerate_new (enumT_new B) ⟨z, ?_⟩
  show _ ∧ _
  rw [hz]
  exact ⟨⟨_, he, rfl⟩, h _ he (Heap.get?_push_of_some _ (Heap.get?_push_size _ B.free)) (by rw [Heap.size_push, hz]) (fun b u x => Heap.get?_push_of_some _ (Heap.get?_push_of_some _ x))⟩
end
/-- the tuple at a, each item in a new pair -/
def IteT (K : PySem.W.Frag) (a : Addr) : It :=
  ⟨fun i H => ∃ (xs : List V) (x : V), SqT K H a xs ∧ xs[i]? = some x, fun i H v H' => ∃ T x, v = .ref T ∧ H T = none ∧ H' = upd H T (.tup [.int (i : Nat), x]) ∧ (∀ xs, SqT K H a xs → xs[i]? = some x), fun i H => ∃ xs : List V, SqT K H a xs ∧ xs.length = i⟩
theorem turn_enumT {P : Program} {w : World} {K : PySem.W.Frag} {elts : List Expr} {kk : Nat} {tpos : Pos} {a e it : Addr} (ai : a ≠ it) (hne : e ≠ it) (hea : e ≠ a) :
    Turn P w K (.Tuple elts kk tpos) (IteT K a) [e, it] e (fun i h => (∃ old, IsEnum h e it ((i : Nat) : Int) old) ∧ h.IsTupleIter it a i) where
  mem := List.mem_cons_self
  obj := fun i h st b hb => by
    obtain ⟨⟨old, he⟩, ⟨o, ho, hc, hd⟩⟩ := st
    rcases List.mem_cons.mp hb with rfl | z
    · exact ⟨_, he, fun v q => nomatch q⟩
    · obtain rfl := List.mem_singleton.mp z
      exact ⟨o, ho, fun v q => by rw [hd] at q; cases q⟩
  keep := fun i h h' st k => by
    obtain ⟨⟨old, he⟩, hi⟩ := st
    exact ⟨⟨old, k e List.mem_cons_self _ he⟩, hi.at fun o q => k it (by simp) o q⟩
  item := by
    intro X hP hw hK hc i pins s σ H E I hf st hg
    subst hP hw hK
    obtain ⟨⟨old, he⟩, hit⟩ := st
    obtain ⟨xs, x, hq, hx⟩ := hg
    obtain ⟨its, rv, p, hz⟩ := I.tuple hq
    obtain ⟨u, hu, ru⟩ := rv.get hx
    have hel : e < s.heap.objs.size := Heap.lt_size he
    have hil : it < s.heap.objs.size := by
      obtain ⟨_, q, _⟩ := hit
      exact Heap.lt_size q
    have hin : i < its.toArray.size := by
      have := (List.getElem?_eq_some_iff.mp hu).1
      simpa using this
    have pt : s.heap.IsTuple a its.toArray := p
    refine wpAny_pyNext_enum_itemD (Draws.tuple (A := X.A.in1) (I.ok.hd hc) it a ai its.toArray) he ⟨hit, pt⟩ hin hne (by simp [hne, hea]) fun y h' tk hy ho hst hT hsz hk => ?_
    have ey : u = y := by
      have h1 : its.toArray[i]? = some u := by simpa using hu
      exact Option.some.inj (h1.symm.trans hy)
    subst ey
    refine ⟨_, rfl, wpAny_letOwnedTupleGo_enum (s := { s with heap := h', toks := tk + 1 }) ho fun h'' he' sb => ?_⟩
    have hT2 : h''.get? s.heap.objs.size = some { cls := .type "tuple", data := .seq #[.int i tk, u] } := (sb.2 _ (Nat.ne_of_gt hel)).trans hT
    have new : ObjOk X.prog X.w (upd H s.heap.objs.size (.tup [.int (i : Nat), x])) h'' s.heap.objs.size (.tup [.int (i : Nat), x]) :=
      ⟨by show 2 ≤ sizeLine; decide, [.int i tk, u], .cons ⟨_, rfl⟩ (.cons ru .nil), _, hT2, rfl, _, rfl⟩
    have I1 : Inv X pins σ (upd H s.heap.objs.size (.tup [.int (i : Nat), x])) { s with heap := h'', toks := tk + 1 } :=
      I.turnedNew (ch := [e, it]) (fun b ob hb q => (sb.2 b (fun z => hb (by simp [z]))).trans (hk b ob (fun z => hb (by simp [z])) (fun z => hb (by simp [z])) q)) hf (Nat.le_refl _) new
    have e1 : ((i + 1 : Nat) : Int) = (i : Int) + 1 := by omega
    refine ⟨.ref s.heap.objs.size, _, I1, rfl, ⟨_, x, rfl, I.hok.fresh (Nat.le_refl _), rfl, fun ys hy => by rw [I.tuple_inj hy hq]; exact hx⟩, ⟨⟨u, by rw [e1]; exact he'⟩, hst.1.at fun o q => (sb.2 it (Ne.symm hne)).trans q⟩, fun b hb => ?_⟩
    have hb' : b < s.heap.objs.size := by
      rcases List.mem_cons.mp hb with rfl | z
      · exact hel
      · obtain rfl := List.mem_singleton.mp z
        exact hil
    rw [upd_ne (Nat.ne_of_lt hb')]
    exact (hf b hb).1
  done := by
    intro X hP hw hK hc i pins s σ H E I hf st hg
    subst hP hw hK
    obtain ⟨⟨old, he⟩, hit⟩ := st
    obtain ⟨xs, hq, hx⟩ := hg
    obtain ⟨its, rv, p, hz⟩ := I.tuple hq
    obtain ⟨f0, f1, f2, f3, f4, f5⟩ := hf it (by simp)
    have hl := rv.length
    have pt : s.heap.IsTuple a its.toArray := p
    have hi : i = its.toArray.size := by
      rw [← hx, hl]
      simp
    subst hi
    exact wpAny_pyNext_enum_endD (Draws.tuple (A := X.A.in1) (I.ok.hd hc) it a ai its.toArray) he ⟨hit, pt⟩ fun h' eb => ⟨rfl, I.turned (t' := s.toks) (fun b o hb q => eb b o hb q) f0 f1 f3 f4 f5⟩
  self := fun A i s Q E st h => by
    obtain ⟨⟨_, he⟩, _⟩ := st
    exact wpAny_pyIter_enum he h
/-- enumerate(list) or enumerate(tuple) -/
def iEnumA (K : PySem.W.Frag) (ta : TA) : TI := fun σ H R => ta σ H fun vs H1 => ∃ a xs, vs = [.ref a] ∧ ((SqL K H1 a xs ∧ R (Ite K a) H1) ∨ (SqT K H1 a xs ∧ R (IteT K a) H1))
theorem pi_enumA {X : Cx} {e : Expr} {ta : TA} {p pos tpos : Pos} {elts : List Expr} {kk : Nat} (hg : Gl X "enumerate") (hm : X.mg "enumerate" = none) (ha : PA X [e] ta) (hs : starEach [e] X.env = [(false, eval e X.env)] := by rfl) :
    PI X (.Tuple elts kk tpos) (.Call (.Name "enumerate" p) [e] [] pos) (iEnumA X.K ta) := ⟨fun pins s σ H R I h =>
  Call_ (ld_blt I hg hm boot_enumerate (PyProof.Rows.callWith_type1 (thn (ha.run pos pins s σ H _ I h) fun us s1 ⟨vs, H1, I1, r1, a, xs, ex, q1⟩ => by
    subst ex
    obtain ⟨u, rfl, ru⟩ := vals1 r1
    cases (show u = Value.ref a from ru)
    have fresh : ∀ b ∈ [s1.heap.objs.size + 1, s1.heap.objs.size], FpOk X pins H1 b := fun b hb => by
      have hle : s1.heap.objs.size ≤ b := by
        rcases List.mem_cons.mp hb with rfl | z
        · exact Nat.le_add_right _ _
        · exact Nat.le_of_eq (List.mem_singleton.mp z).symm
      exact I1.fpOk hle (I1.hok.fresh hle)
    rcases q1 with ⟨hq, q⟩ | ⟨hq, q⟩
    · obtain ⟨its, rv, p', hz⟩ := I1.list hq
      refine call_enumerate_list p'.isList fun h' he hit hsz hk => wpAny_pyIter_enum he ?_
      exact ⟨s1.heap.objs.size + 1, _, _, _, H1, rfl, I1.kept (t' := s1.toks) hk, turn_enum a (s1.heap.objs.size + 1) s1.heap.objs.size, ⟨⟨.none, he⟩, hit, Nat.succ_ne_self _⟩, fresh, q⟩
    · obtain ⟨its, rv, p', hz⟩ := I1.tuple hq
      have hal : a < s1.heap.objs.size := p'.lt
      refine enumT_call (begins_tuple a its.toArray) p' fun h' he hit hsz hk => wpAny_pyIter_enum he ?_
      exact ⟨s1.heap.objs.size + 1, _, _, _, H1, rfl, I1.kept (t' := s1.toks) hk, turn_enumT (a := a) (e := s1.heap.objs.size + 1) (it := s1.heap.objs.size) (Nat.ne_of_lt hal) (Nat.succ_ne_self _) (Ne.symm (Nat.ne_of_lt (Nat.lt_succ_of_lt hal))), ⟨⟨.none, he⟩, ⟨_, hit, rfl, rfl⟩⟩, fresh, q⟩) hs rfl))⟩
theorem for_enumT {K : PySem.W.Frag} {a : Addr} {xs : List V} {g : TG} {tb : TS} {D : Ends} {σ : L2.St} {H : Hp} (Pv : Nat → L2.St → Hp → Prop) (h0 : Pv 0 σ H) (hl : ∀ i σ H, i ≤ xs.length → Pv i σ H → SqT K H a xs)
    (hs : ∀ (i : Nat) (x : V) (σ : L2.St) (H : Hp) (T : Addr), xs[i]? = some x → Pv i σ H → H T = none → g (.ref T) σ (upd H T (.tup [.int (i : Nat), x])) fun σ2 H2 => tb { D with nx := Pv (i + 1), ct := Pv (i + 1), bk := D.nx } σ2 H2) (hd : ∀ σ H, Pv xs.length σ H → D.nx σ H) :
    ∃ W : Nat → Nat → L2.St → Hp → Prop, (∃ m, W 0 m σ H) ∧ ∀ i m σ H, W i m σ H →
      ((IteT K a).stop i H ∧ D.nx σ H) ∨ ((IteT K a).go i H ∧ ∃ N : L2.St → Hp → Prop, (∀ σ' H', N σ' H' → ∃ m', m' < m ∧ W (i + 1) m' σ' H') ∧ ∀ x H', (IteT K a).yld i H x H' → g x σ H' fun σ2 H2 => tb { D with nx := N, ct := N, bk := D.nx } σ2 H2) := by
  refine ⟨fun i m σ H => m = xs.length - i ∧ i ≤ xs.length ∧ Pv i σ H, ⟨xs.length, by simp, Nat.zero_le _, h0⟩, ?_⟩
  rintro i m σ H ⟨rfl, hi, p⟩
  have q := hl i σ H hi p
  by_cases hlt : i < xs.length
  · refine .inr ⟨⟨xs, xs[i], q, by simp [hlt]⟩, Pv (i + 1), fun σ' H' p' => ⟨xs.length - (i + 1), by omega, rfl, hlt, p'⟩, fun x H' y => ?_⟩
    obtain ⟨T, z, rfl, hT, rfl, e⟩ := y
    exact hs i z σ _ T (e xs q) p hT
  · have e : i = xs.length := by omega
    subst e
    exact .inl ⟨⟨xs, q, rfl⟩, hd σ H p⟩
theorem for_enumA {K : PySem.W.Frag} {a : Addr} {xs : List V} {g : TG} {tb : TS} {D : Ends} {σ : L2.St} {H0 H : Hp} (hq : SqL K H0 a xs ∨ SqT K H0 a xs) (Pv : Nat → L2.St → Hp → Prop) (h0 : Pv 0 σ H) (he : ∀ i σ G, Pv i σ G → Ex H0 G)
    (hs : ∀ (i : Nat) (x : V) (σ : L2.St) (H : Hp) (T : Addr), xs[i]? = some x → Pv i σ H → H T = none → g (.ref T) σ (upd H T (.tup [.int (i : Nat), x])) fun σ2 H2 => tb { D with nx := Pv (i + 1), ct := Pv (i + 1), bk := D.nx } σ2 H2) (hd : ∀ σ H, Pv xs.length σ H → D.nx σ H) :
    (SqL K H a xs ∧ ∃ W : Nat → Nat → L2.St → Hp → Prop, (∃ m, W 0 m σ H) ∧ ∀ i m σ H, W i m σ H →
      ((Ite K a).stop i H ∧ D.nx σ H) ∨ ((Ite K a).go i H ∧ ∃ N : L2.St → Hp → Prop, (∀ σ' H', N σ' H' → ∃ m', m' < m ∧ W (i + 1) m' σ' H') ∧ ∀ x H', (Ite K a).yld i H x H' → g x σ H' fun σ2 H2 => tb { D with nx := N, ct := N, bk := D.nx } σ2 H2)) ∨
    (SqT K H a xs ∧ ∃ W : Nat → Nat → L2.St → Hp → Prop, (∃ m, W 0 m σ H) ∧ ∀ i m σ H, W i m σ H →
      ((IteT K a).stop i H ∧ D.nx σ H) ∨ ((IteT K a).go i H ∧ ∃ N : L2.St → Hp → Prop, (∀ σ' H', N σ' H' → ∃ m', m' < m ∧ W (i + 1) m' σ' H') ∧ ∀ x H', (IteT K a).yld i H x H' → g x σ H' fun σ2 H2 => tb { D with nx := N, ct := N, bk := D.nx } σ2 H2)) :=
  hq.imp (fun q => ⟨ex_l (he _ _ _ h0) q, for_enumL Pv h0 (fun i σ G hi p => ex_l (he i σ G p) q) hs hd⟩) (fun q => ⟨ex_t (he _ _ _ h0) q, for_enumT Pv h0 (fun i σ G hi p => ex_t (he i σ G p) q) hs hd⟩)
end AA

set_option Elab.async false
set_option linter.all false
set_option maxRecDepth 100000
set_option maxHeartbeats 4000000
/-! Exceptions of one field, made and raised. -/
namespace AA
open PySem PySem.Spec PyProof.Rows L2 Evl
section
variable {P : Program} {w : World} {K : PySem.W.Frag} {mg : Str → Option Value} {base : Heap}
/-- a def that may raise, asked where it doesn't -/
theorem fn_calm {k : Nat} {f : Addr} {fd : FuncData} {ps : List Str} {sp : Sp} (G : FnOk P w K mg base (L2.CX P w) k f fd ps sp) : FnOk P w K mg base CX0 k f fd ps (fun vs H Q _ => sp vs H Q E0) := by
  refine ⟨fun vs H Q E h => G.len vs H Q E0 h, fun A outer s H args us vs Q E hr e0 hb r h => ?_⟩
  refine codeAny_mono (G.run A outer s H args us vs Q E0 hr e0 hb r h) fun r s' hq => ?_
  cases r with
  | ok fl => cases fl <;> exact hq
  | error e =>
    obtain ⟨_, _, _, _, _, _, _, _, _, _, _, _, z⟩ := hq
    exact z.elim
/-- what the top has written of an exception's class x with the field m -/
structure ExT (K : PySem.W.Frag) (mg : Str → Option Value) (x m : Str) (CB fI : Addr) : Prop where
  ox : OexC K CB
  xf : XfC K CB
  no : PySem.W.findIn K (.ref CB) m = some none
  gC : mg x = some (.ref CB)
  iC : PySem.W.findIn K (.ref CB) "__init__" = some (some (.ref fI))
  tC : PySem.W.typeIn K (.ref fI) = some (.type "function")
def spExI (CB : Addr) (m : Str) : Sp := fun vs H Q _ => ∃ (a : Addr) (v : V), vs = [.ref a, v] ∧ H a = some (exo a CB none) ∧ ∀ dx, H dx = none → dx ≠ a → Q .non (upd (upd H dx (exd dx [(m, v)])) a (exo a CB (some dx)))
theorem scBadPl : FnScope ["self", "places"] ["self", "places"] (defScope sBadPlInit) := ⟨rfl, rfl, rfl, by decide +kernel, rfl, by decide +kernel, by decide +kernel⟩
theorem ok_badPl {CB f fI : Addr} {fd : FuncData} (F : L2.Fun K "__init__" "BadPlaces.__init__" sBadPlInit f fd) (T : ExT K mg "BadPlaces" "places" CB fI) : FnOk P w K mg base CX0 1 f fd ["self", "places"] (spExI CB "places") := by
  refine F.ok scBadPl (fun vs H Q E h => ?_) (fun cdv A outer s H vs Q E hr h => ?_)
  · obtain ⟨a, v, rfl, _⟩ := h
    rfl
  · obtain ⟨a, v, rfl, ha, k⟩ := h
    exact ⟨_, pss_one (ps_ost (pv 0) (pv 1) rfl), _, rfl, _, rfl, a, CB, rfl, T.ox, T.no, .inl ⟨ha, k⟩⟩
theorem scBadSt : FnScope ["self", "index"] ["self", "index"] (defScope sBadStInit) := ⟨rfl, rfl, rfl, by decide +kernel, rfl, by decide +kernel, by decide +kernel⟩
theorem ok_badSt {CB f fI : Addr} {fd : FuncData} (F : L2.Fun K "__init__" "BadSteps.__init__" sBadStInit f fd) (T : ExT K mg "BadSteps" "index" CB fI) : FnOk P w K mg base CX0 1 f fd ["self", "index"] (spExI CB "index") := by
  refine F.ok scBadSt (fun vs H Q E h => ?_) (fun cdv A outer s H vs Q E hr h => ?_)
  · obtain ⟨a, v, rfl, _⟩ := h
    rfl
  · obtain ⟨a, v, rfl, ha, k⟩ := h
    exact ⟨_, pss_one (ps_ost (pv 0) (pv 1) rfl), _, rfl, _, rfl, a, CB, rfl, T.ox, T.no, .inl ⟨ha, k⟩⟩
/-- an exception of this class with this field flies -/
def BadE (CB : Addr) (m : Str) (H : Hp) (v : V) (E : XK) : Prop := ∀ (H' : Hp) (dd : Addr), Ex H H' → H dd = none → H' dd = some (.xd [(m, v)]) → E (.ref CB) (some dd) H'
theorem BadE.ex {CB : Addr} {m : Str} {H H1 : Hp} {v : V} {E : XK} (h : BadE CB m H v E) (e : Ex H H1) : BadE CB m H1 v E := fun H' dd e' h0 h1 => h H' dd (e.trans e') (fresh_back e h0) h1
/-- raise C(e), read -/
theorem raise_go {CB : Addr} {m : Str} {H1 : Hp} {v : V} {E : XK} (kb : BadE CB m H1 v E) : ∀ a, H1 a = none → spExI CB m [.ref a, v] (upd H1 a (exo a CB none)) (fun u H2 => u = .non ∧ ∃ (d : Addr) (fs : List (Str × V)), H2 a = some (exo a CB (some d)) ∧ H2 d = some (exd d fs) ∧ H1 d = none ∧ E (.ref CB) (some d) (upd (del H2 a) d (.xd fs))) (fun _ _ _ => False) := by
  intro a ha
  refine ⟨a, v, rfl, upd_same, fun dx hdx ne => ⟨rfl, dx, _, upd_same, by rw [upd_ne ne]; exact upd_same, ?_, ?_⟩⟩
  · rw [upd_ne ne] at hdx
    exact hdx
  · have hd1 : H1 dx = none := by
      rw [upd_ne ne] at hdx
      exact hdx
    refine kb _ dx (fun b o hb => ?_) hd1 upd_same
    have hb1 : b ≠ dx := ne_of_none hb hd1
    have hb2 : b ≠ a := ne_of_none hb ha
    rw [upd_ne hb1, del_ne hb2, upd_ne hb2, upd_ne hb1, upd_ne hb2]
    exact hb
end
end AA

set_option Elab.async false
set_option linter.all false
set_option maxRecDepth 100000
set_option maxHeartbeats 4000000
/-! read_steps, of good steps. -/
namespace AA
open PySem PySem.Spec PyProof.Rows L2 Evl
theorem sqt_upd {K : PySem.W.Frag} {G : Hp} {p a : Addr} {φ : Heap → Prop} {o : HO} {xs : List V} (hp : G p = some (.ext φ)) (h : SqT K G a xs) : SqT K (upd G p o) a xs := by
  rcases h with h | h
  · refine .inl ?_
    rcases h with h | ⟨u, h⟩
    · exact .inl (by rw [upd_ne (fun z => by rw [z, hp] at h; cases h)]; exact h)
    · exact .inr ⟨u, by rw [upd_ne (fun z => by rw [z, hp] at h; cases h)]; exact h⟩
  · exact .inr h
theorem st_upd {K : PySem.W.Frag} {G : Hp} {p : Addr} {φ : Heap → Prop} {o : HO} {v : V} {s : St5} (hp : G p = some (.ext φ)) (h : Dp K G v (stD s)) : Dp K (upd G p o) v (stD s) := by
  obtain ⟨t, u, rfl, h1, h2⟩ := stD_inv h
  exact stD_mk (sqt_upd hp h1) (sqt_upd hp h2)
theorem ks_upd {K : PySem.W.Frag} {G : Hp} {p : Addr} {φ : Heap → Prop} {o : HO} {ks : List (St5 × Addr)} (hp : G p = some (.ext φ)) (h : KsOk K G ks) : KsOk K (upd G p o) ks := fun x m => st_upd hp (h x m)
theorem ks_dpa {K : PySem.W.Frag} {G : Hp} : ∀ {ks : List (St5 × Addr)}, KsOk K G ks → DpAll K G (ks.map fun x => V.ref x.2) ((ks.map (·.1)).map stD)
  | [], _ => .nil
  | x :: r, h => .cons (h x List.mem_cons_self) (ks_dpa fun y m => h y (List.mem_cons_of_mem _ m))
theorem map_get {α β : Type} {f : α → Option β} {xs : List α} {ys : List β} (h : xs.map f = ys.map some) {i : Nat} {x : α} (hx : xs[i]? = some x) : ∃ y, ys[i]? = some y ∧ f x = some y := by
  have h1 : (xs.map f)[i]? = some (f x) := by rw [List.getElem?_map, hx]; rfl
  rw [h, List.getElem?_map] at h1
  cases q : ys[i]? with
  | none =>
    rw [q] at h1
    cases h1
  | some y =>
    rw [q] at h1
    exact ⟨y, rfl, (Option.some.inj h1).symm⟩
theorem nodup_take {α : Type} {ys : List α} (h : ys.Nodup) {i : Nat} {y : α} (hy : ys[i]? = some y) : y ∉ ys.take i := by
  intro m
  obtain ⟨j, hj⟩ := List.mem_iff_getElem?.mp m
  rw [List.getElem?_take] at hj
  split at hj
  · rename_i hlt
    have : j = i := (List.getElem?_inj (List.getElem?_eq_some_iff.mp hj).1 h).mp (hj.trans hy.symm)
    omega
  · cases hj
section
variable {P : Program} {w : World} {K : PySem.W.Frag} {mg : Str → Option Value} {base : Heap}
def spIsIntegerV (K : PySem.W.Frag) : Sp := fun vs H Q _ => ∃ v : V, vs = [v] ∧ ((NotI K H v ∧ Q (.bl false) H) ∨ ∃ n, v = .int n ∧ Q (.bl true) H)
theorem ok_isIntegerV {f : Addr} {fd : FuncData} (F : L2.Fun K "is_integer" "is_integer" sIsInteger f fd) (T : Bn mg) : FnOk P w K mg base CX0 1 f fd ["thing"] (spIsIntegerV K) := by
  refine F.ok scIsInteger (fun vs H Q E h => ?_) (fun cdv A outer s H vs Q E hr h => ?_)
  · obtain ⟨v, rfl, _⟩ := h
    rfl
  · obtain ⟨v, rfl, h⟩ := h
    refine ⟨_, pss_one (ps_ret (pe_and (pe_callB call_is1 (by rfl) T.isinstance boot_isinstance (pa_cons (pv 0) (pa_cons (pe_bltn (v := .ty "int") (by rfl) T.int boot_int rfl) pa_nil)))
      (pe_one (pe_not (pe_callB call_is1 (by rfl) T.isinstance boot_isinstance (pa_cons (pv 0) (pa_cons (pe_bltn (v := .ty "bool") (by rfl) T.bool boot_bool rfl) pa_nil))))))), ?_⟩
    rcases h with ⟨⟨t, bi, bb, h1, h2, h3, h4⟩, k⟩ | ⟨n, rfl, k⟩
    · refine ⟨_, rfl, v, _, _, .type "int", _, rfl, .ty _, h1 _ nt_le, h2, _, rfl, ?_⟩
      cases bi with
      | false => exact iteF k
      | true =>
        refine iteT ?_
        refine ⟨_, rfl, v, _, _, .type "bool", _, rfl, .ty _, h1 _ nt_le, h3, _, rfl, ?_⟩
        cases bb with
        | true => exact k
        | false => cases h4
    · refine ⟨_, rfl, _, _, _, .type "int", _, rfl, .ty _, ty_dp (d := .int n) (.int n), kd_int (.int n), _, rfl, ?_⟩
      refine iteT ?_
      exact ⟨_, rfl, _, _, _, .type "bool", _, rfl, .ty _, ty_dp (d := .int n) (.int n), kd_bool (.int n), _, rfl, k⟩
/-- steps in a row, read -/
inductive RdAll (K : PySem.W.Frag) (n : Int) (H : Hp) : List V → List St5 → Prop
  | nil : RdAll K n H [] []
  | cons {v : V} {d : PyData} {s : St5} {vs : List V} {ss : List St5} (h : Dp K H v d) (hr : rdStep n d = some s) (t : RdAll K n H vs ss) : RdAll K n H (v :: vs) (s :: ss)
theorem RdAll.ex {n : Int} {H H' : Hp} (e : Ex H H') : ∀ {vs : List V} {ss : List St5}, RdAll K n H vs ss → RdAll K n H' vs ss
  | _, _, .nil => .nil
  | _, _, .cons h hr t => .cons (dp_ex e _ _ h) hr (RdAll.ex e t)
theorem RdAll.len {n : Int} {H : Hp} : ∀ {vs : List V} {ss : List St5}, RdAll K n H vs ss → vs.length = ss.length
  | _, _, .nil => rfl
  | _, _, .cons _ _ t => by rw [List.length_cons, List.length_cons, RdAll.len t]
theorem RdAll.get {n : Int} {H : Hp} : ∀ {vs : List V} {ss : List St5} {i : Nat} {v : V}, RdAll K n H vs ss → vs[i]? = some v → ∃ d s, Dp K H v d ∧ rdStep n d = some s ∧ ss[i]? = some s
  | _, _, _, _, .nil, e => by simp at e
  | _, _, 0, _, .cons h hr t, e => by
    cases (Option.some.inj e)
    exact ⟨_, _, h, hr, rfl⟩
  | _, _, i + 1, _, .cons h hr t, e => RdAll.get (i := i) t e
/-- what read_steps is handed: no list; a list whose first bad one is at an index; good steps -/
def StArg (K : PySem.W.Frag) (n : Int) (H : Hp) (v : V) (Bad : Nat → Prop) (Good : List St5 → Prop) : Prop :=
  (Lk K H v false ∧ Bad 0) ∨ ∃ (a : Addr) (xs : List V) (ss : List St5), v = .ref a ∧ SqA K H a xs ∧ ss.Nodup ∧ ss.length ≤ 1000000 ∧
    ((RdAll K n H xs ss ∧ Good ss) ∨ ∃ (pre : List V) (z : V) (r : List V), xs = pre ++ z :: r ∧ RdAll K n H pre ss ∧ (RdNo K n H z ∨ ∃ d s, Dp K H z d ∧ rdStep n d = some s ∧ s ∈ ss) ∧ Bad ss.length)
theorem StArg.ex {n : Int} {H H' : Hp} {v : V} {B : Nat → Prop} {G : List St5 → Prop} (h : StArg K n H v B G) (e : Ex H H') : StArg K n H' v B G := by
  rcases h with ⟨h1, h2⟩ | ⟨a, xs, ss, h1, h2, h3, h4, h⟩
  · exact .inl ⟨h1.ex e, h2⟩
  · refine .inr ⟨a, xs, ss, h1, h2.ex e, h3, h4, h.imp (fun z => ⟨z.1.ex e, z.2⟩) ?_⟩
    rintro ⟨pre, z, r, h5, h6, h7, h8⟩
    exact ⟨pre, z, r, h5, h6.ex e, h7.imp (fun y => y.ex e) (fun ⟨d, s, y1, y2⟩ => ⟨d, s, dp_ex e _ _ y1, y2⟩), h8⟩
theorem StArg.imp {n : Int} {H : Hp} {v : V} {B B' : Nat → Prop} {G G' : List St5 → Prop} (h : StArg K n H v B G) (hb : ∀ i, B i → B' i) (hg : ∀ ss, G ss → G' ss) : StArg K n H v B' G' := by
  rcases h with ⟨h1, h2⟩ | ⟨a, xs, ss, h1, h2, h3, h4, h⟩
  · exact .inl ⟨h1, hb _ h2⟩
  · refine .inr ⟨a, xs, ss, h1, h2, h3, h4, h.imp (fun z => ⟨z.1, hg _ z.2⟩) ?_⟩
    rintro ⟨pre, z, r, h5, h6, h7, h8⟩
    exact ⟨pre, z, r, h5, h6, h7, hb _ h8⟩
def spReadSteps (K : PySem.W.Frag) (CB : Addr) : Sp := fun vs H Q E => ∃ (n : Int) (v : V), vs = [.int n, v] ∧ StArg K n H v (fun i => BadE CB "index" H (.int (i : Nat)) E)
  (fun ss => ∀ H' p ys, Ex H H' → H p = none → H' p = some (.lst ys) → DpAll K H' ys (ss.map stD) → Q (.ref p) H')
theorem scReadSteps : FnScope ["places", "things", "found", "index", "thing", "step"] ["places", "things"] (defScope sReadSteps) := ⟨rfl, rfl, rfl, by decide +kernel, rfl, by decide +kernel, by decide +kernel⟩
theorem ok_readSteps {f CB fI : Addr} {fd fdI : FuncData} (F : L2.Fun K "read_steps" "read_steps" sReadSteps f fd) (T : Bn mg) (TB : ExT K mg "BadSteps" "index" CB fI) (GI : FnOk P w K mg base CX0 1 fI fdI ["self", "index"] (spExI CB "index")) (bI : Binds K fdI ["self", "index"] [])
    (cR : C8.Cal P w K mg base 3 "read_step" (spReadStep K) []) (cL : C8.Cal P w K mg base 1 "is_list" (spIsList K) []) :
    FnOk P w K mg base (L2.CX P w) 4 f fd ["places", "things"] (spReadSteps K CB) := by
  refine F.okX scReadSteps (fun vs H Q E h => ?_) (fun cdv A outer s H vs Q E hr h => ?_)
  · obtain ⟨n, v, rfl, _⟩ := h
    rfl
  · obtain ⟨n, v, rfl, h⟩ := h
    have hun := hr.un
    have hu9 : (A.deeper (envOfC "read_steps" (defScope sReadSteps) s.heap.objs.size f cdv)).units + 9 < cLine := by omega
    refine ⟨_, pss_cons (ps_if (pt_not (pt_val (C8.pe_c cL hr (by decide) (by rfl) (pa_cons (pv 1) pa_nil))))
        (pss_one (ps_raise rfl (takes_of rfl rfl rfl rfl) (pmk_oex TB.ox TB.iC TB.tC GI (hr.mono (by decide)) bI .nil pass0 (by rfl) TB.gC (pa_cons pe_int pa_nil)))) pss_nil)
      (pss_cons (ps_set (i := 2) scReadSteps.nd rfl (Or.inl rfl) pe_snew)
      (pss_cons (ps_for (passes_of rfl) rfl (pi_enumA (by rfl) T.enumerate (pa_cons (pv 1) pa_nil)) (pg_tup (n := 2) rfl (pgs_cons (pg_name (i := 3) scReadSteps.nd rfl (Or.inl rfl)) (pgs_cons (pg_name (i := 4) scReadSteps.nd rfl (Or.inl rfl)) pgs_nil)))
        (pss_cons (ps_set (i := 5) scReadSteps.nd rfl (Or.inl rfl) (C8.pe_c cR hr (by decide) (by rfl) (pa_cons (pv 0) (pa_cons (pv 4) pa_nil))))
        (pss_cons (ps_if (PW.pt (pw_or (pt_cmp (pc_isN (pv 5))) (pw_or1 (pt_cmp (pc_sin hu9 (pv 5) (pv 2))))))
          (pss_one (ps_raise rfl (takes_of rfl rfl rfl rfl) (pmk_oex TB.ox TB.iC TB.tC GI (hr.mono (by decide)) bI .nil pass0 (by rfl) TB.gC (pa_cons (pv 3) pa_nil)))) pss_nil)
        (pss_one (ps_sput hu9 (pv 2) (pv 5) (by rfl))))))
      (pss_one (ps_ret (pe_callTy (call_list_sd (by rfl)) (by rfl) T.list boot_list (pa_cons (pv 2) pa_nil)))))), ?_⟩
    rcases h with ⟨hl, kb⟩ | ⟨a, xs, ss, rfl, hs, hnd, hsz, h⟩
    · refine ⟨_, rfl, v, false, rfl, hl, fun H1 e1 => ⟨_, rfl, iteT ?_⟩⟩
      exact ⟨by show 1 ≤ 1000; decide, raise_go (kb.ex e1)⟩
    obtain ⟨pre, r, rfl, hpre, hr0⟩ : ∃ (pre r : List V), xs = pre ++ r ∧ RdAll K n H pre ss ∧ ((r = [] ∧ ∀ H' p ys, Ex H H' → H p = none → H' p = some (.lst ys) → DpAll K H' ys (ss.map stD) → Q (.ref p) H') ∨
        ∃ (z : V) (r' : List V), r = z :: r' ∧ (RdNo K n H z ∨ ∃ d s, Dp K H z d ∧ rdStep n d = some s ∧ s ∈ ss) ∧ BadE CB "index" H (.int (ss.length : Nat)) E) := by
      rcases h with ⟨h1, h2⟩ | ⟨pre, z, r, h1, h2, h3, h4⟩
      · exact ⟨xs, [], (List.append_nil _).symm, h1, .inl ⟨rfl, h2⟩⟩
      · exact ⟨pre, z :: r, h1, h2, .inr ⟨z, r, rfl, h3, h4⟩⟩
    have hlen := hpre.len
    refine ⟨_, rfl, .ref a, true, rfl, lk_sq hs, fun H1 e1 => ⟨_, rfl, ?_⟩⟩
    refine iteF ?_
    refine fun p hp => ?_
    refine ⟨_, rfl, a, pre ++ r, rfl, for_enumA (K := K) (a := a) (xs := pre ++ r) (H0 := H) hs
      (fun i σ G => ∃ (x3 x4 x5 : Option V) (ks : List (St5 × Addr)), σ = [some (.int n), some (.ref a), some (.ref p), x3, x4, x5] ∧ Ex H1 G ∧ G p = some (SD P w p ks) ∧ KsOk K G ks ∧ ks.map (·.1) = ss.take i ∧ i ≤ ss.length) ?_ ?_ ?_ ?_⟩
    · exact ⟨none, none, none, [], rfl, Ex.new hp, upd_same, KsOk.nil, by rw [List.take_zero]; rfl, Nat.zero_le _⟩
    · rintro i σ G ⟨x3, x4, x5, ks, rfl, q1, _⟩
      exact e1.trans q1
    · rintro i x σ G T hx ⟨x3, x4, x5, ks, rfl, q1, q2, q3, q4, q5⟩ hT
      have eT := Ex.new (o := .tup [.int (i : Nat), x]) hT
      refine ⟨T, _, rfl, SqT.of upd_same, rfl, _, _, rfl, _, _, rfl, rfl, ?_⟩
      have hkl : ks.length ≤ 1000000 := by
        have := congrArg List.length q4
        rw [List.length_map, List.length_take] at this
        omega
      by_cases hlt : i < pre.length
      · rw [List.getElem?_append_left hlt] at hx
        obtain ⟨di, si, hxd, hrd, hsi⟩ := hpre.get hx
        refine ⟨_, rfl, _, rfl, n, x, rfl, .inr ⟨di, dp_ex (e1.trans (q1.trans eT)) _ _ hxd, fun G2 r eG2 hr2 => ?_⟩⟩
        rw [hrd] at hr2
        obtain ⟨b, c, rfl, _⟩ := stD_inv hr2
        have hp2 : G2 p = some (SD P w p ks) := eG2 _ _ (eT _ _ q2)
        have hk2 : KsOk K G2 ks := (q3.ex eT).ex eG2
        have hni : si ∉ ks.map (·.1) := by
          rw [q4]
          exact nodup_take hnd hsi
        refine ⟨_, rfl, _, rfl, ?_⟩
        refine iteF ?_
        refine ⟨_, rfl, _, rfl, _, ⟨p, ks, b, si, rfl, rfl, hp2, hk2, hr2, rfl⟩, _, rfl, ?_⟩
        rw [decide_eq_false hni]
        refine iteF ?_
        refine ⟨_, rfl, _, rfl, p, ks, b, si, rfl, rfl, hp2, hk2, hr2, hni, sz_m hkl, ?_⟩
        refine ⟨_, _, _, ks ++ [(si, b)], rfl, Ex.mut ((q1.trans eT).trans eG2) hp, upd_same, (ks_upd hp2 hk2).snoc (st_upd hp2 hr2), ?_, by omega⟩
        rw [List.map_append, q4, List.take_succ, hsi]
        rfl
      · have hie : i = pre.length := by omega
        rcases hr0 with ⟨rfl, _⟩ | ⟨z, r', rfl, hbad, kb⟩
        · rw [List.append_nil] at hx
          exact absurd (List.getElem?_eq_some_iff.mp hx).1 hlt
        · rw [hie, List.getElem?_append_right (Nat.le_refl _), Nat.sub_self] at hx
          cases (Option.some.inj hx)
          have il : i = ss.length := by omega
          subst il
          rcases hbad with hno | ⟨d, s', hzd, hrs, hms⟩
          · refine ⟨_, rfl, _, rfl, n, _, rfl, .inl ⟨hno.ex (e1.trans (q1.trans eT)), fun G2 eG2 => ?_⟩⟩
            refine ⟨_, rfl, _, rfl, iteT (iteT ?_)⟩
            exact ⟨_, rfl, by show 1 ≤ 1000; decide, raise_go (kb.ex (e1.trans (q1.trans (eT.trans eG2))))⟩
          · refine ⟨_, rfl, _, rfl, n, _, rfl, .inr ⟨d, dp_ex (e1.trans (q1.trans eT)) _ _ hzd, fun G2 r eG2 hr2 => ?_⟩⟩
            rw [hrs] at hr2
            obtain ⟨b, c, rfl, _⟩ := stD_inv hr2
            have hp2 : G2 p = some (SD P w p ks) := eG2 _ _ (eT _ _ q2)
            have hk2 : KsOk K G2 ks := (q3.ex eT).ex eG2
            have hmi : s' ∈ ks.map (·.1) := by
              rw [q4, List.take_length]
              exact hms
            refine ⟨_, rfl, _, rfl, ?_⟩
            refine iteF ?_
            refine ⟨_, rfl, _, rfl, _, ⟨p, ks, b, s', rfl, rfl, hp2, hk2, hr2, rfl⟩, _, rfl, ?_⟩
            rw [decide_eq_true hmi]
            refine iteT ?_
            exact ⟨_, rfl, by show 1 ≤ 1000; decide, raise_go (kb.ex (e1.trans (q1.trans (eT.trans eG2))))⟩
    · rintro σ G ⟨x3, x4, x5, ks, rfl, q1, q2, q3, q4, q5⟩
      have hrn : r = [] := by
        rw [List.length_append] at q5
        exact List.eq_nil_of_length_eq_zero (by omega)
      subst hrn
      rcases hr0 with ⟨_, k⟩ | ⟨z, r', h0, _⟩
      · rw [List.append_nil, hlen, List.take_length] at q4
        refine ⟨_, rfl, p, ks, rfl, q2, q3, fun l hl2 => ?_⟩
        have e2 := e1.trans q1
        refine k _ l _ (e2.trans (Ex.new hl2)) (fresh_back e2 hl2) upd_same ?_
        have q5 := ks_dpa (q3.ex (Ex.new (o := .lst (ks.map fun x => V.ref x.2)) hl2))
        rw [q4] at q5
        exact q5
      · cases h0
end
end AA

set_option Elab.async false
set_option linter.all false
set_option maxRecDepth 100000
set_option maxHeartbeats 4000000
/-! The class of webs. -/
namespace AA
open PySem PySem.Spec PyProof.Rows L2 Evl
theorem nps_ : ¬ (("_places" : Str) = "_steps") := by decide +kernel
theorem npk_ : ¬ (("_places" : Str) = "known") := by decide +kernel
theorem nsk_ : ¬ (("_steps" : Str) = "known") := by decide +kernel
def wf (n : Int) (l kd : Addr) : List (Str × V) := putF "known" (.ref kd) (putF "_steps" (.ref l) (putF "_places" (.int n) []))
theorem wf_places (n : Int) (l kd : Addr) : (wf n l kd).lookup ("_places" : Str) = some (.int n) := by
  unfold wf
  rw [lookup_putF, if_neg npk_, lookup_putF, if_neg nps_, lookup_putF, if_pos rfl]
theorem wf_steps (n : Int) (l kd : Addr) : (wf n l kd).lookup ("_steps" : Str) = some (.ref l) := by
  unfold wf
  rw [lookup_putF, if_neg nsk_, lookup_putF, if_pos rfl]
theorem wf_known (n : Int) (l kd : Addr) : (wf n l kd).lookup ("known" : Str) = some (.ref kd) := by
  unfold wf
  rw [lookup_putF, if_pos rfl]
theorem wf_no (n : Int) (l kd : Addr) {m : Str} (h1 : ¬ m = "_steps") (h2 : ¬ m = "_places") (h3 : ¬ m = "known") : (wf n l kd).lookup m = none := by
  unfold wf
  rw [lookup_putF, if_neg h3, lookup_putF, if_neg h1, lookup_putF, if_neg h2]
  all_goals rfl
/-- a web stands at x: n places, the steps ss in some list -/
def WebAt (K : PySem.W.Frag) (C : Addr) (H : Hp) (x : Addr) (n : Int) (ss : List St5) : Prop := ∃ (dx l kd : Addr) (ys : List V), H x = some (.ins C dx (wf n l kd)) ∧ H l = some (.lst ys) ∧ DpAll K H ys (ss.map stD)
theorem WebAt.ex {K : PySem.W.Frag} {C : Addr} {H H' : Hp} {x : Addr} {n : Int} {ss : List St5} (h : WebAt K C H x n ss) (e : Ex H H') : WebAt K C H' x n ss := by
  obtain ⟨dx, l, kd, ys, h1, h2, h3⟩ := h
  exact ⟨dx, l, kd, ys, e _ _ h1, e _ _ h2, dpa_ex e _ _ h3⟩
/-- what the top has written of the class -/
structure WebTxt (K : PySem.W.Frag) (mg : Str → Option Value) (C : Addr) : Prop where
  cl : Cls K C
  nP : NoAttr K C "_places"
  nS : NoAttr K C "_steps"
  nK : NoAttr K C "known"
  mgC : mg "Web" = some (.ref C)
theorem sqt_upd2 {K : PySem.W.Frag} {G : Hp} {p a : Addr} {o : HO} {xs : List V} (hp : ∀ xs u, G p ≠ some (.tup xs) ∧ G p ≠ some (.frz u (.tup xs))) (h : SqT K G a xs) : SqT K (upd G p o) a xs := by
  rcases h with h | h
  · refine .inl ?_
    rcases h with h | ⟨u, h⟩
    · exact .inl (by rw [upd_ne (fun z => (hp xs { cls := .none, data := .fields #[] }).1 (by rw [← z]; exact h))]; exact h)
    · exact .inr ⟨u, by rw [upd_ne (fun z => (hp xs u).2 (by rw [← z]; exact h))]; exact h⟩
  · exact .inr h
theorem sts_upd {K : PySem.W.Frag} {G : Hp} {p : Addr} {o : HO} (hp : ∀ xs u, G p ≠ some (.tup xs) ∧ G p ≠ some (.frz u (.tup xs))) : ∀ {vs : List V} {ss : List St5}, DpAll K G vs (ss.map stD) → DpAll K (upd G p o) vs (ss.map stD)
  | [], [], _ => .nil
  | v :: vs, s :: ss, h => by
    cases h with
    | cons h1 h2 =>
      obtain ⟨t, u, rfl, h3, h4⟩ := stD_inv h1
      exact .cons (stD_mk (sqt_upd2 hp h3) (sqt_upd2 hp h4)) (sts_upd hp h2)
  | [], _ :: _, h => by cases h
  | _ :: _, [], h => by cases h
theorem hid_up {H : Hp} {x : Addr} {o : HO} : Ex (hid x x H) (upd H x o) := fun z u h => by
  obtain ⟨h1, h2, _⟩ := hid_some h
  rw [upd_ne h2]
  exact h1
theorem hid_up2 {H H' : Hp} {x : Addr} {o : HO} (e : Ex (hid x x H) H') : Ex (hid x x H) (upd H' x o) := fun z u h => by
  rw [upd_ne (hid_some h).2.1]
  exact e _ _ h
section
variable {P : Program} {w : World} {K : PySem.W.Frag} {mg : Str → Option Value} {base : Heap}
/-- what Web is made of -/
def WbArg (K : PySem.W.Frag) (H : Hp) (v u : V) (BadP : Prop) (BadS : Nat → Prop) (Good : Int → List St5 → Prop) : Prop :=
  ((NotI K H v ∨ ∃ n, v = .int n ∧ n < 1) ∧ BadP) ∨ ∃ n, v = .int n ∧ 1 ≤ n ∧ StArg K n H u BadS (Good n)
theorem WbArg.ex {H H' : Hp} {v u : V} {B : Prop} {S : Nat → Prop} {G : Int → List St5 → Prop} (h : WbArg K H v u B S G) (e : Ex H H') : WbArg K H' v u B S G :=
  h.imp (fun z => ⟨z.1.imp (fun y => y.ex e) id, z.2⟩) (fun ⟨n, z1, z2, z3⟩ => ⟨n, z1, z2, z3.ex e⟩)
theorem WbArg.imp {H : Hp} {v u : V} {B B' : Prop} {S S' : Nat → Prop} {G G' : Int → List St5 → Prop} (h : WbArg K H v u B S G) (hb : B → B') (hs : ∀ i, S i → S' i) (hg : ∀ n ss, G n ss → G' n ss) : WbArg K H v u B' S' G' :=
  Or.imp (fun z => ⟨z.1, hb z.2⟩) (fun ⟨n, z1, z2, z3⟩ => ⟨n, z1, z2, z3.imp hs (hg n)⟩) h
def spWebInit (K : PySem.W.Frag) (C CP CS : Addr) : Sp := fun vs H Q E => ∃ (x dx : Addr) (v u : V), vs = [.ref x, v, u] ∧ H x = some (.ins C dx []) ∧
  WbArg K (hid x x H) v u (BadE CP "places" (hid x x H) v E) (fun i => BadE CS "index" (hid x x H) (.int (i : Nat)) E)
    (fun n ss => ∀ (H' : Hp) (ts : List St5) (dy l kd : Addr) (ys : List V), Ex (hid x x H) H' → H' x = some (.ins C dy (wf n l kd)) → H l = none → H' l = some (.lst ys) → DpAll K H' ys (ts.map stD) → H kd = none → H' kd = some (.dK []) → ts.Perm ss → SrS ts → Q .non H')
theorem scWebInit : FnScope ["self", "places", "steps"] ["self", "places", "steps"] (defScope sWebInit) := ⟨rfl, rfl, rfl, by decide +kernel, rfl, by decide +kernel, by decide +kernel⟩
theorem ok_webInit {f C CP CS fP fS fR : Addr} {fd fdP fdR : FuncData} (F : L2.Fun K "__init__" "Web.__init__" sWebInit f fd) (B : Bn mg) (T : WebTxt K mg C) (TP : ExT K mg "BadPlaces" "places" CP fP) (GP : FnOk P w K mg base CX0 1 fP fdP ["self", "places"] (spExI CP "places")) (bP : Binds K fdP ["self", "places"] [])
    (cI : C8.Cal P w K mg base 1 "is_integer" (spIsIntegerV K) []) (GR : FnOk P w K mg base (L2.CX P w) 4 fR fdR ["places", "things"] (spReadSteps K CS)) (mR : mg "read_steps" = some (.ref fR)) (kR : PySem.W.keepIn K (.ref fR) = true) (bR : Binds K fdR ["places", "things"] []) :
    FnOk P w K mg base (L2.CX P w) 5 f fd ["self", "places", "steps"] (spWebInit K C CP CS) := by
  refine F.okX scWebInit (fun vs H Q E h => ?_) (fun cdv A outer s H vs Q E hr h => ?_)
  · obtain ⟨x, dx, v, u, rfl, _⟩ := h
    rfl
  · obtain ⟨x, dx, v, u, rfl, hx, h⟩ := h
    refine ⟨_, pss_cons (ps_if (PW.pt (pw_or (pt_not (pt_val (C8.pe_c cI hr (by decide) (by rfl) (pa_cons (pv 1) pa_nil)))) (pw_or1 (pt_cmpR op_lt (pv 1) pe_int (nomark _)))))
        (pss_one (ps_raise rfl (takes_of rfl rfl rfl rfl) (pmk_oex TP.ox TP.iC TP.tC GP (hr.mono (by decide)) bP .nil pass0 (by rfl) TP.gC (pa_cons (pv 1) pa_nil)))) pss_nil)
      (pss_cons (ps_fld (pv 0) (pv 1) rfl)
      (pss_cons (ps_fld (pv 0) (pe_callB (cr_sortSt hr) (by rfl) B.sorted boot_sorted (pa_cons (pe_callS (E := WE fun cls d _ H => E cls d H) GR (hr.mono (by decide)) (by rfl) mR kR bR (fun σ => passAt (takes_of rfl rfl rfl rfl) σ) (pa_cons (pv 1) (pa_cons (pv 2) pa_nil))) pa_nil)) rfl)
      (pss_one (ps_fld (pv 0) pe_dnewK rfl)))), ?_⟩
    rcases h with ⟨hb, kb⟩ | ⟨n, rfl, hn, hst⟩
    · have kb' := kb.ex (hid_ex (H := H))
      rcases hb with hni | ⟨n, rfl, hn⟩
      · refine ⟨_, rfl, v, rfl, .inl ⟨hni.ex hid_ex, ⟨_, rfl, iteT (iteT ?_)⟩⟩⟩
        exact ⟨_, rfl, by show 1 ≤ 1000; decide, raise_go kb'⟩
      · refine ⟨_, rfl, .int n, rfl, .inr ⟨n, rfl, ⟨_, rfl, iteF ?_⟩⟩⟩
        refine ⟨_, rfl, _, _, rfl, rfl, _, rfl, ?_⟩
        refine dec_ite (fun z => ?_) (fun z => ?_)
        · exact ⟨_, rfl, by show 1 ≤ 1000; decide, raise_go kb'⟩
        · omega
    refine ⟨_, rfl, .int n, rfl, .inr ⟨n, rfl, ⟨_, rfl, iteF ?_⟩⟩⟩
    refine ⟨_, rfl, _, _, rfl, rfl, _, rfl, ?_⟩
    refine dec_ite (fun z => ?_) (fun _ => ?_)
    · omega
    refine ⟨_, rfl, _, rfl, x, C, dx, _, rfl, hx, T.cl, T.nP, by show 0 < 1000; decide, ?_⟩
    refine ⟨_, rfl, _, rfl, n, u, rfl, (hst.ex hid_up).imp (fun i z => z.ex hid_up) (fun ss k H1 p ys e1 hp0 hp hys => ?_)⟩
    refine ⟨p, ys, ss, rfl, SqL.of hp, hys, fun zs ts l hz hts hD hso hl2 => ?_⟩
    have hx1 : H1 x = some (.ins C dx (putF "_places" (.int n) [])) := e1 _ _ upd_same
    have hxl : x ≠ l := ne_of_none hx1 hl2
    refine ⟨_, rfl, x, C, dx, _, rfl, by rw [upd_ne hxl]; exact hx1, T.cl, T.nS, by show 1 < 1000; decide, ?_⟩
    have hD1 := dpa_ex (Ex.new (o := .lst zs) hl2) _ _ hD
    have e1' : Ex (hid x x H) (upd H1 l (.lst zs)) := (hid_up.trans e1).trans (Ex.new hl2)
    have hx2 : upd H1 l (.lst zs) x = some (.ins C dx (putF "_places" (.int n) [])) := by
      rw [upd_ne hxl]
      exact hx1
    have hl3 : upd H1 l (.lst zs) l = some (.lst zs) := upd_same
    have l0 : H l = none := by
      have := fresh_back e1 hl2
      rw [upd_ne hxl.symm] at this
      exact this
    generalize upd H1 l (.lst zs) = G1 at *
    have hnt : ∀ (f : List (Str × V)) (G : Hp), G x = some (.ins C dx f) → ∀ (xs : List V) (u : Obj), G x ≠ some (.tup xs) ∧ G x ≠ some (.frz u (.tup xs)) := fun f G hG xs u => by
      rw [hG]
      exact ⟨(fun z => nomatch z), (fun z => nomatch z)⟩
    intro kd hkd
    have hkx : x ≠ kd := fun z => by
      rw [← z, upd_same] at hkd
      cases hkd
    have hkl : l ≠ kd := fun z => by
      rw [← z, upd_ne hxl.symm, hl3] at hkd
      cases hkd
    refine ⟨_, rfl, x, C, dx, _, rfl, by rw [upd_ne hkx]; exact upd_same, T.cl, T.nK, by show 2 < 1000; decide, ?_⟩
    have kd0 : H kd = none := by
      cases hq : H kd with
      | none => rfl
      | some o =>
        have h1 : hid x x H kd = some o := by rw [hid_ne hkx.symm hkx.symm]; exact hq
        have h2 := e1' _ _ h1
        rw [upd_ne hkx.symm, h2] at hkd
        cases hkd
    refine k _ ts dx l kd zs (hid_up2 ((hid_up2 e1').trans (Ex.new hkd))) upd_same l0 ?_ ?_ kd0 (by rw [upd_ne hkx.symm]; exact upd_same) hts hso
    · rw [upd_ne hxl.symm, upd_ne hkl, upd_ne hxl.symm]
      exact hl3
    · have hx3 : ∀ o : HO, upd (upd G1 x (.ins C dx (putF "_steps" (.ref l) (putF "_places" (.int n) [])))) kd o x = some (.ins C dx (putF "_steps" (.ref l) (putF "_places" (.int n) []))) := fun o => by
        rw [upd_ne hkx]
        exact upd_same
      exact sts_upd (hnt _ _ (hx3 _)) (dpa_ex (Ex.new hkd) _ _ (sts_upd (hnt _ _ hx2) hD1))
def spPlaces (K : PySem.W.Frag) (C : Addr) : Sp := fun vs H Q _ => ∃ (x : Addr) (n : Int) (ss : List St5), vs = [.ref x] ∧ WebAt K C H x n ss ∧ Q (.int n) H
theorem scPlaces : FnScope ["self"] ["self"] (defScope sWebPlaces) := ⟨rfl, rfl, rfl, by decide +kernel, rfl, by decide +kernel, by decide +kernel⟩
theorem ok_places {f C : Addr} {fd : FuncData} (F : L2.Fun K "places" "Web.places" sWebPlaces f fd) (T : WebTxt K mg C) : FnOk P w K mg base CX0 1 f fd ["self"] (spPlaces K C) := by
  refine F.ok scPlaces (fun vs H Q E h => ?_) (fun cdv A outer s H vs Q E hr h => ?_)
  · obtain ⟨x, n, ss, rfl, _⟩ := h
    rfl
  · obtain ⟨x, n, ss, rfl, ⟨dx, l, kd, ys, h1, h2, h3⟩, k⟩ := h
    exact ⟨_, pss_one (ps_ret (pe_fld (pv 0) rfl)), _, rfl, x, C, dx, _, _, rfl, h1, T.cl, T.nP, wf_places _ _ _, k⟩
def spSteps (K : PySem.W.Frag) (C : Addr) : Sp := fun vs H Q _ => ∃ (x : Addr) (n : Int) (ss : List St5), vs = [.ref x] ∧ WebAt K C H x n ss ∧ ∀ p ys, H p = none → DpAll K H ys (ss.map stD) → Q (.ref p) (upd H p (.lst ys))
theorem scSteps : FnScope ["self"] ["self"] (defScope sWebSteps) := ⟨rfl, rfl, rfl, by decide +kernel, rfl, by decide +kernel, by decide +kernel⟩
theorem ok_steps {f C : Addr} {fd : FuncData} (F : L2.Fun K "steps" "Web.steps" sWebSteps f fd) (B : Bn mg) (T : WebTxt K mg C) : FnOk P w K mg base CX0 1 f fd ["self"] (spSteps K C) := by
  refine F.ok scSteps (fun vs H Q E h => ?_) (fun cdv A outer s H vs Q E hr h => ?_)
  · obtain ⟨x, n, ss, rfl, _⟩ := h
    rfl
  · obtain ⟨x, n, ss, rfl, ⟨dx, l, kd, ys, h1, h2, h3⟩, k⟩ := h
    refine ⟨_, pss_one (ps_ret (pe_callTy call_list_of (by rfl) B.list boot_list (pa_cons (pe_fld (pv 0) rfl) pa_nil))), ?_⟩
    exact ⟨_, rfl, x, C, dx, _, _, rfl, h1, T.cl, T.nS, wf_steps _ _ _, l, ys, rfl, .inl (SqL.of h2), fun p hp => k p ys hp h3⟩
/-- webs beside one another -/
theorem sts_eqv : ∀ ss ts : List St5, PyData.eqvAll (ss.map stD) (ts.map stD) = decide (ss = ts)
  | [], [] => rfl
  | [], _ :: _ => rfl
  | _ :: _, [] => rfl
  | s :: r, t :: q => by
    show (PyData.eqv (stD s) (stD t) && PyData.eqvAll (r.map stD) (q.map stD)) = decide (s :: r = t :: q)
    rw [stD_eqv, sts_eqv r q, Bool.eq_iff_iff]
    simp
def spEqV (K : PySem.W.Frag) (C : Addr) : Sp := fun vs H Q _ => ∃ (x : Addr) (v : V) (n : Int) (ss : List St5), vs = [.ref x, v] ∧ WebAt K C H x n ss ∧
  ((∃ t : Value, TyF K H v t ∧ PySem.W.kitOne K t (.ref C) = some false ∧ Q (.bl false) H) ∨ ∃ (y : Addr) (m : Int) (ts : List St5), v = .ref y ∧ WebAt K C H y m ts ∧ ∀ H', Ext H H' → Q (.bl (decide (n = m) && decide (ss = ts))) H')
theorem scWebEq : FnScope ["self", "other"] ["self", "other"] (defScope sWebEq) := ⟨rfl, rfl, rfl, by decide +kernel, rfl, by decide +kernel, by decide +kernel⟩
theorem ok_webEqV {f C : Addr} {fd : FuncData} (F : L2.Fun K "__eq__" "Web.__eq__" sWebEq f fd) (B : Bn mg) (T : WebTxt K mg C) (IC : InsK K C) (hC : PySem.W.kitOne K (.ref C) (.ref C) = some true) : FnOk P w K mg base CX0 1 f fd ["self", "other"] (spEqV K C) := by
  refine F.ok scWebEq (fun vs H Q E h => ?_) (fun cdv A outer s H vs Q E hr h => ?_)
  · obtain ⟨x, v, n, ss, rfl, _⟩ := h
    rfl
  · obtain ⟨x, v, n, ss, rfl, ⟨dx, l, kd, ys, h1, h2, h3⟩, h⟩ := h
    refine ⟨_, pss_one (ps_ret (pe_and (pe_callB call_is1 (by rfl) B.isinstance boot_isinstance (pa_cons (pv 1) (pa_cons (pe_glob (v := .ref C) (by rfl) T.mgC rfl) pa_nil)))
      (pe_and (pe_cmpR op_eq (pe_fld (pv 0) rfl) (pe_fld (pv 1) rfl) (nomark _)) (pe_one (pe_cmpR (op_eqD hr.units) (pe_fld (pv 0) rfl) (pe_fld (pv 1) rfl) (nomark _)))))), ?_⟩
    rcases h with ⟨t, ht, hk, k⟩ | ⟨y, m, ts, rfl, ⟨dy, l2, kd2, ys2, g1, g2, g3⟩, k⟩
    · exact ⟨_, rfl, v, _, t, .ref C, false, rfl, .own C, ht, hk, false, rfl, iteF k⟩
    · refine ⟨_, rfl, .ref y, _, .ref C, .ref C, true, rfl, .own C, .inl (.base (.ins g1 IC.cl IC.ha IC.hn IC.ht IC.hm)), hC, true, rfl, ?_⟩
      refine iteT ?_
      refine ⟨_, rfl, x, C, dx, _, _, rfl, h1, T.cl, T.nP, wf_places _ _ _, _, rfl, y, C, dy, _, _, rfl, g1, T.cl, T.nP, wf_places _ _ _, rfl, _, rfl, ?_⟩
      have k0 := k H Ext.rfl'
      by_cases hnm : n = m
      · rw [decide_eq_true hnm] at k0
        rw [decide_eq_true (by rw [hnm])]
        refine iteT ?_
        refine ⟨_, rfl, x, C, dx, _, _, rfl, h1, T.cl, T.nS, wf_steps _ _ _, _, rfl, y, C, dy, _, _, rfl, g1, T.cl, T.nS, wf_steps _ _ _, ?_⟩
        have hD : Dp K H (.ref l) (.list (ss.map stD)) := .lst (SqL.of h2) h3
        have hD2 : Dp K H (.ref l2) (.list (ts.map stD)) := .lst (SqL.of g2) g3
        refine ⟨_, _, hD, hD2, stDs_shaped ss, stDs_shaped ts, ?_⟩
        rw [show PyData.eqv (.list (ss.map stD)) (.list (ts.map stD)) = decide (ss = ts) from sts_eqv ss ts]
        exact k0
      · rw [decide_eq_false hnm] at k0
        rw [decide_eq_false (fun z => hnm (V.int.inj z))]
        exact iteF k0
end
end AA

set_option Elab.async false
set_option linter.all false
set_option maxRecDepth 100000
set_option maxHeartbeats 4000000
/-! An own class's == and != with a thing of any kind. -/
namespace AA
open PySem PySem.Spec PyProof.Rows L2 Evl
/-- the type of a thing -/
inductive Ty6 (H : Hp) : V → Value → Prop
  | non : Ty6 H .non (.type "NoneType")
  | int (i : Int) : Ty6 H (.int i) (.type "int")
  | str (x : Str) : Ty6 H (.str x) (.type "str")
  | lst {a : Addr} {xs : List V} (e : H a = some (.lst xs)) : Ty6 H (.ref a) (.type "list")
  | tup {a : Addr} {xs : List V} (e : H a = some (.tup xs)) : Ty6 H (.ref a) (.type "tuple")
  | dK {a : Addr} (e : H a = some (.dK [])) : Ty6 H (.ref a) (.type "dict")
  | ins {a C dx : Addr} {fs : List (Str × V)} (e : H a = some (.ins C dx fs)) : Ty6 H (.ref a) (.ref C)
theorem Ty6.ex {H H' : Hp} {v : V} {t : Value} (e : Ex H H') (h : Ty6 H v t) : Ty6 H' v t := by
  cases h with
  | non => exact .non
  | int i => exact .int i
  | str x => exact .str x
  | lst h => exact .lst (e _ _ h)
  | tup h => exact .tup (e _ _ h)
  | dK h => exact .dK (e _ _ h)
  | ins h => exact .ins (e _ _ h)
section
variable {X : Cx} {pins : List (Addr × Obj)} {σ : L2.St} {H : Hp} {s : Shared}
theorem ty6_looks {M : Model} {x : V} {u T : Value} (I : Inv X pins σ H s) (r : RelV x u) (t : Ty6 H x T) : PySem.W.Looks M s.heap (typeOf u) T := by
  cases t with
  | non =>
    cases (show u = Value.none from r)
    exact PySem.W.Looks.of_pure rfl
  | int i =>
    obtain ⟨t, rfl⟩ := (show ∃ t, u = Value.int i t from r)
    exact PySem.W.Looks.of_pure rfl
  | str x =>
    obtain ⟨t, rfl⟩ := (show ∃ t, u = Value.str x t from r)
    exact PySem.W.Looks.of_pure rfl
  | lst e =>
    cases (show u = Value.ref _ from r)
    obtain ⟨_, its, n, _, h1⟩ := (show ObjOk X.prog X.w H s.heap _ (.lst _) from I.hok _ _ e)
    exact fun A Q E s' k q => wpAny_typeOf_ref (k _ _ h1) q
  | tup e =>
    cases (show u = Value.ref _ from r)
    obtain ⟨_, its, _, ob, h1, h2, _⟩ := (show ObjOk X.prog X.w H s.heap _ (.tup _) from I.hok _ _ e)
    exact fun A Q E s' k q => wpAny_typeOf_ref (k _ _ h1) (by rw [h2]; exact q)
  | dK e =>
    cases (show u = Value.ref _ from r)
    obtain ⟨_, _, vs, _, o, es, ep, h1, h2, _⟩ := (show ObjOk X.prog X.w H s.heap _ (.dK []) from I.hok _ _ e)
    exact fun A Q E s' k q => wpAny_typeOf_ref (k _ _ h1) (by rw [h2.1]; exact q)
  | ins e =>
    cases (show u = Value.ref _ from r)
    obtain ⟨mA, J, _⟩ := ins_get I.hok e
    obtain ⟨od, J, _⟩ := J.look
    exact J.type
end
section
variable {prog : Program} {w : World} {A : Around} {E : Value → Shared → Prop} {s : Shared} {K : PySem.W.Frag} {x C f : Addr} {ox : Obj} {od : Option Obj}
theorem ifBoundB {M : Model} {name : Str} {id : String} {args : List Value} {Q : Option Value → Shared → Prop} (X : K.In s.heap) (I : PySem.W.InstAt s.heap x ox C od) (hs : PySem.W.findIn K (.ref C) name = some (some (.builtin id)))
    (hb : ∀ v, bindSpecial (.builtin id) v = pure (.builtin id, [v])) (h : wpAny M A (call (.builtin id) (.ref x :: args)) (fun v => Q (some v)) E s) : wpAny M A (callSpecialIfBound? (.ref x) name args) Q E s := by
  simp only [callSpecialIfBound?, bindSpecialIfBound?]
  refine wpAny_holding (wpAny_bind (wpAny_bind (wpAny_bind (I.type.here ((PySem.W.looks_findIn X hs).here ?_)))))
  refine wpAny_bind (wpAny_askSetting (wpAny_ite ?_))
  have fin : wpAny M A (call (.builtin id) ([.ref x] ++ args) >>= fun v => pure (some v)) Q E s := wpAny_bind (wpAny_mono h (fun v s' h' => wpAny_pure h') fun _ _ h' => h')
  split
  · exact wpAny_bind ((PySem.W.Looks.of_pure (hb _)).here (wpAny_pure (by exact fin)))
  · exact wpAny_tryCatch (wpAny_bind ((PySem.W.Looks.of_pure (hb _)).here (wpAny_pure (by exact fin))))
theorem ne_entry {b : Value} {Q : Fin → Shared → Prop} (X : K.In s.heap) (I : PySem.W.InstAt s.heap x ox C od) (hs : PySem.W.findIn K (.ref C) "__eq__" = some (some (.ref f))) (hf : PySem.W.isFn K (.ref f) = true) (hu : A.units < cLine)
    (hcall : wpAny (model prog w) A (call (.ref f) [.ref x, b]) (fun v s' => ∃ r, v = .bool r ∧ Q (.done (.ret (.bool (!r)))) s') E s) :
    wpAny (model prog w) A (Builtin.«object.__ne__» ⟨[.ref x, b], []⟩) Q E s := by
  unfold Builtin.«object.__ne__»
  repeat (first
    | with_reducible refine wpAny_cRoomFor hu ?_
    | (refine wpAny_bind (m := callSpecialIfBound? (.ref x) (Str.ofString "__eq__") [b])
        (PySem.W.ifBound_K X I hs hf (wpAny_mono hcall (fun v s' hr => by
          obtain ⟨r, rfl, hq⟩ := hr
          repeat (first | exact hq | exact wpAny_pure hq | exact wpAny_truthy_bool hq | (refine wpAny_bind (m := truthy (.bool _)) (wpAny_truthy_bool ?_)) | wp_step)) fun _ _ e => e)))
    | wp_step)
theorem ne_bind (v : Value) : bindSpecial (.builtin "object.__ne__") v = pure (.builtin "object.__ne__", [v]) := F.cmp_object.ne.bind v
/-- x != b where x's class has an own == -/
theorem cmpNe_K {h₀ : Heap} {L : Addr} {m : Str → Option Value} {b tb : Value} {Q : Value → Shared → Prop} (hu : A.units + 1 < cLine) (F : Fr h₀ L s.heap m) (X₀ : K.In h₀) (I : PySem.W.InstAt s.heap x ox C od) (hb : PySem.W.Looks (model prog w) s.heap (typeOf b) tb) (hn : PySem.W.notFirst K C tb = true)
    (hne : PySem.W.findIn K (.ref C) "__ne__" = some (some (.builtin "object.__ne__"))) (hs : PySem.W.findIn K (.ref C) "__eq__" = some (some (.ref f))) (hf : PySem.W.isFn K (.ref f) = true) (hm : PySem.W.mroIn K C (.type "object") = some true)
    (h : wpAny (model prog w) A.in1 (call (.ref f) [.ref x, b]) (fun v s' => ∃ r, v = .bool r ∧ Q (.bool (!r)) s') E s) : wpAny (model prog w) A (richCompare .NotEq (.ref x) b) Q E s := by
  have X := X₀.keeps F.keep
  have sub : PySem.W.Looks (model prog w) s.heap (isInstance (.ref x) (.type "object")) true := I.type.andThen (PySem.W.looks_mroIn X hm)
  have one : wpAny (model prog w) A (tryCompare (.ref x) (cmpInfo .NotEq).2.1 b) (fun r s' => ∃ v, r = some v ∧ Q v s') E s := by
    unfold tryCompare
    refine wpAny_bind (ifBoundB X I hne ne_bind (wpAny_call (codeAny_call_builtin PySem.F.cmp_object.ne.plain PySem.F.cmpEntry_ne
      (PySem.W.check_slot PySem.F.cmpKind_ne PySem.F.cmpSplit_ne sub (PySem.F.cmpArgs_ne _ _) (ne_entry (A := A.in1) X I hs hf hu (wpAny_mono h (fun v s' hv => ?_) fun _ _ e => e))))))
    obtain ⟨r, rfl, hq⟩ := hv
    first | exact ⟨r, rfl, wpAny_pure ⟨_, rfl, hq⟩⟩ | exact ⟨r, rfl, wpAny_pure (wpAny_pure ⟨_, rfl, hq⟩)⟩ | exact ⟨r, rfl, ⟨_, rfl, hq⟩⟩
  unfold richCompare
  simp only [oneThing_ref]
  refine wpAny_holding (wpAny_bind (wpAny_cRoomFor (Nat.lt_of_succ_lt hu) ?_))
  refine wpAny_bind (I.type.here (wpAny_bind (hb.here ?_)))
  split
  · rename_i q
    have e : PySem.W.subIn K tb (.ref C) = some false := by
      rcases Bool.or_eq_true_iff.mp hn with e | e
      · rw [beq_iff_eq.mp e] at q; simp at q
      · exact beq_iff_eq.mp e
    refine wpAny_bind ((PySem.W.looks_subIn X e).here ?_)
    simp only [Bool.false_eq_true, if_false]
    refine wpAny_bind (wpAny_mono one (fun r s' z => ?_) fun _ _ e => e)
    obtain ⟨v, rfl, hq⟩ := z
    exact wpAny_pure hq
  · refine wpAny_bind (wpAny_pure ?_)
    simp only [Bool.false_eq_true, if_false]
    refine wpAny_bind (wpAny_mono one (fun r s' z => ?_) fun _ _ e => e)
    obtain ⟨v, rfl, hq⟩ := z
    exact wpAny_pure hq
end
section
variable {X : Cx} {n : Nat} {C f : Addr} {fd : FuncData} {ps : List Str} {sp : Sp}
/-- x == y, x != y where x is an instance of C, whose own == keeps sp -/
def rCmpV (K : PySem.W.Frag) (C : Addr) (sp : Sp) (ng : Bool) : R2 := fun x y H Q => ∃ (a dx : Addr) (fs : List (Str × V)) (T : Value), x = .ref a ∧ H a = some (.ins C dx fs) ∧ Ty6 H y T ∧ PySem.W.notFirst K C T = true ∧ sp [x, y] H (fun v H' => ∃ r, v = .bl r ∧ Q (.bl (r ^^ ng)) H') E0
theorem run_eqV (F : FnOk X.prog X.w X.K X.mg X.base CX0 n f fd ps sp) (hb : Binds X.K fd ps []) {A : Around} {pins : List (Addr × Obj)} {s : Shared} {σ : L2.St} {H : Hp} {a : Addr} {y : V} {u : Value} {Q : Bool → Hp → Prop} (sb : Sub X n A) (I : Inv X pins σ H s) (ry : RelV y u)
    (hsp : sp [.ref a, y] H (fun v H' => ∃ r, v = .bl r ∧ Q r H') E0) : wpAny (model X.prog X.w) A (call (.ref f) [.ref a, u]) (fun v s' => ∃ r, v = .bool r ∧ ∃ H', Inv X pins σ H' s' ∧ Q r H') X.xe s := by
  have e0 : Env0 X.prog X.w X.K X.mg X.base A X.stack s H := by
    have e := I.env0
    exact ⟨by rw [sb.fr]; exact e.frames, e.mod, e.bs, e.bsz, e.funs, e.frf, e.hok, e.bare⟩
  have hl := F.len _ _ _ _ hsp
  have r2 : Vals [V.ref a, y] [Value.ref a, u] := .cons rfl (.cons ry .nil)
  refine wpAny_call (codeAny_mono (F.run A X.stack s H ⟨[.ref a, u], []⟩ [.ref a, u] [.ref a, y] _ E0 sb.room e0 (by
    have := hb s [.ref a, u] I.kIn (by simpa using hl)
    simpa using this) r2 hsp) fun r s' hq => ?_)
  cases r with
  | error e => exact (show False from hq).elim
  | ok fl =>
    cases fl with
    | ret w =>
      obtain ⟨z, H', I', rz, r, ez, ex⟩ := I.after hq
      subst ez
      cases rz
      exact ⟨r, rfl, H', I', ex⟩
    | next => exact False.elim hq
    | brk => exact False.elim hq
    | cont => exact False.elim hq
theorem op_eqV (F : FnOk X.prog X.w X.K X.mg X.base CX0 n f fd ps sp) (hb : Binds X.K fd ps []) (hs : PySem.W.findIn X.K (.ref C) "__eq__" = some (some (.ref f))) (hf : PySem.W.isFn X.K (.ref f) = true) (hr : Room n X.A) : OpR X (compareOp .Eq) (rCmpV X.K C sp false) := by
  intro pins s σ H x y v u Q I rx ry hq
  obtain ⟨a, dx, fs, T, rfl, ha, hT, hn, hsp⟩ := hq
  cases (show v = Value.ref a from rx)
  obtain ⟨mA, J, _⟩ := ins_get I.hok ha
  obtain ⟨od, J, _⟩ := J.look
  obtain ⟨m, hF⟩ := I.fr
  have sb : Sub X n X.A := ⟨hr, rfl⟩
  show wpAny (model X.prog X.w) X.A (richCompare .Eq (.ref a) u) (EP X pins σ Q) X.xe s
  refine PySem.W.cmp_K (op := .Eq) (tb := T) sb.room.units0 hF I.ok.mod.kin J (ty6_looks I ry hT) hn hs hf ?_
  refine wpAny_mono (run_eqV F hb sb I ry (Q := fun r H' => Q (.bl (r ^^ false)) H') hsp) (fun v s' hv => ?_) fun _ _ e => e
  obtain ⟨r, rfl, H', I', q⟩ := hv
  rw [Bool.xor_false] at q
  exact ⟨.bl r, H', I', rfl, q⟩
theorem op_neV (F : FnOk X.prog X.w X.K X.mg X.base CX0 n f fd ps sp) (hb : Binds X.K fd ps []) (hs : PySem.W.findIn X.K (.ref C) "__eq__" = some (some (.ref f))) (hf : PySem.W.isFn X.K (.ref f) = true)
    (hne : PySem.W.findIn X.K (.ref C) "__ne__" = some (some (.builtin "object.__ne__"))) (hm : PySem.W.mroIn X.K C (.type "object") = some true) (hr : Room (n + 1) X.A) : OpR X (compareOp .NotEq) (rCmpV X.K C sp true) := by
  intro pins s σ H x y v u Q I rx ry hq
  obtain ⟨a, dx, fs, T, rfl, ha, hT, hn, hsp⟩ := hq
  cases (show v = Value.ref a from rx)
  obtain ⟨mA, J, _⟩ := ins_get I.hok ha
  obtain ⟨od, J, _⟩ := J.look
  obtain ⟨m, hF⟩ := I.fr
  have sb : Sub X (n + 1) X.A := ⟨hr, rfl⟩
  have hun := hr.un
  show wpAny (model X.prog X.w) X.A (richCompare .NotEq (.ref a) u) (EP X pins σ Q) X.xe s
  refine cmpNe_K (tb := T) (by omega) hF I.ok.mod.kin J (ty6_looks I ry hT) hn hne hs hf hm ?_
  refine wpAny_mono (run_eqV F hb sb.in1 I ry (Q := fun r H' => Q (.bl (r ^^ true)) H') hsp) (fun v s' hv => ?_) fun _ _ e => e
  obtain ⟨r, rfl, H', I', q⟩ := hv
  rw [Bool.xor_true] at q
  exact ⟨r, rfl, .bl (!r), H', I', rfl, q⟩
end
end AA

set_option Elab.async false
set_option linter.all false
set_option maxRecDepth 100000
set_option maxHeartbeats 4000000
/-! xs[::-1]; name = {k: v for ..}; a walk over zip. -/
namespace AA
open PySem PySem.Spec PyProof.Rows L2 Evl
theorem vals_rev : ∀ {xs : List V} {us : List Value}, Vals xs us → Vals xs.reverse us.reverse
  | _, _, .nil => .nil
  | x :: xs, u :: us, .cons r t => by
    rw [List.reverse_cons, List.reverse_cons]
    exact (vals_rev t).append (.cons r .nil)
/-- xs[::-1] of a list -/
theorem pe_rev {X : Cx} {e st : Expr} {te ts : TE} {p2 pos : Pos} (he : PE X e te) (hst : PE X st ts) : PE X (.Subscript e (.Slice none none (some st) p2) pos)
    (fun σ H Q => te σ H fun x H1 => tPart ts σ H1 fun k H2 => k = some (-1) ∧ ∃ a xs, x = .ref a ∧ SqL X.K H2 a xs ∧ ∀ p, H2 p = none → Q (.ref p) (upd H2 p (.lst xs.reverse))) := by
  refine ⟨fun pins s σ H Q I h => ?_⟩
  refine Subscript_ (thn (he.run pins s σ H _ I h) fun v s1 ⟨x, H1, I1, r1, q1⟩ => ?_)
  refine wpAny_Slice (thn ((po_none (X := X)).run pins s1 σ H1 (fun l G => l = none ∧ tPart ts σ G fun k H2 => k = some (-1) ∧ ∃ a xs, x = .ref a ∧ SqL X.K H2 a xs ∧ ∀ p, H2 p = none → Q (.ref p) (upd H2 p (.lst xs.reverse))) I1 ⟨rfl, q1⟩) fun vl s2 ⟨l, H2, I2, pl, el, q2⟩ => thn ((po_none (X := X)).run pins s2 σ H2 (fun l G => l = none ∧ tPart ts σ G fun k H2 => k = some (-1) ∧ ∃ a xs, x = .ref a ∧ SqL X.K H2 a xs ∧ ∀ p, H2 p = none → Q (.ref p) (upd H2 p (.lst xs.reverse))) I2 ⟨rfl, q2⟩) fun vu s3 ⟨u, H3, I3, pu, eu, q3⟩ => thn ((po_some hst).run pins s3 σ H3 _ I3 q3) fun vk s4 ⟨k, H4, I4, pk, ek, q4⟩ => ?_)
  subst el eu ek
  obtain ⟨a, xs, rfl, hx, q⟩ := q4
  cases r1
  have I5 : Inv X pins σ H4 { s4 with heap := s4.heap.push { cls := .type "slice", data := .fields #[vl, vu, vk] } } := I4.kept (t' := s4.toks) fun b ob q => Heap.get?_push_of_some _ q
  obtain ⟨its, r, ht, hz⟩ := I5.list hx
  have hlen := r.length
  refine tail_any (ops := [.ref a, .ref s4.heap.objs.size]) ht.isList.typeIs slot_list_getitem.lookup ?_ (by with_unfolding_all rfl)
  refine wpAny_getItem_list_slice ht.isList (Heap.IsSliceOf.new ..) pl pu pk (by simp) ?_ (by rw [List.size_toArray] <;> omega)
  rw [PySem.W.krv_pick]
  refine ⟨.ref _, _, I5.laid (o := .lst xs.reverse) (fun b ob q => Heap.get?_push_of_some _ q) (Nat.le_refl _) ?_, rfl, q _ (I5.hok.fresh (Nat.le_refl _))⟩
  exact ⟨by rw [List.length_reverse]; exact hz, _, 0, vals_rev r, Heap.get?_push_size _ rfl⟩
theorem sw_trueD {k v : Expr} {gs : List Comprehension} {scope : Scope} {pos py : Pos} {y : Str} {l : Nat} {env : Env} (hk : env.scope.kind = .function) (hy : env.scope.names.lookup y = some .local) (hl : (py.line == pos.line) = true)
    (ha : (scope.names.any fun (n, k) => n == y && (k == .local || k == .cell)) = false) : swapsWith (.DictComp k v gs scope pos) (some (.Name y py)) l env = pure true := by
  have ky : env.kindOf y = some .local := hy
  have hb : env.blockKind = .function := by
    unfold Env.blockKind
    rw [hk]
    rfl
  unfold swapsWith
  simp only [hb, ky, ha, Expr.pos, hl]
  rfl
theorem ps_setDc {X : Cx} {i : Nat} {y : Str} {py : Pos} {kx vx tg iter : Expr} {ifs : List Expr} {scope : Scope} {own : List (Str × Nat)} {pos spos : Pos} {wi : TI} {g : TG} {tt : TT} {tk tv : TE} (hc : X.calm = true) (hN : X.N.Nodup) (hy : X.N[i]? = some y) (hyl : X.env.scope.names.lookup y = some .local)
    (hsw : swapsWith (.DictComp kx vx [⟨tg, iter, ifs, 0⟩] scope pos) (some (.Name y py)) spos.line X.env = pure true) (hi : PI X tg iter wi) (ok : BlkOk X.N X.env.scope scope own)
    (hg : ∀ (s : Shared) (H : Hp) (C : Addr) (cl : List (Str × Addr)) (fp : List Addr), PG (X.blk s H scope (compEnvC scope cl C X.env) fp) tg g) (ht : ∀ (s : Shared) (H : Hp) (C : Addr) (cl : List (Str × Addr)) (fp : List Addr), PTs (X.blk s H scope (compEnvC scope cl C X.env) fp) ifs tt)
    (hk : ∀ (s : Shared) (H : Hp) (C : Addr) (cl : List (Str × Addr)) (fp : List Addr), PE (X.blk s H scope (compEnvC scope cl C X.env) fp) kx tk)
    (he : ∀ (s : Shared) (H : Hp) (C : Addr) (cl : List (Str × Addr)) (fp : List Addr), PE (X.blk s H scope (compEnvC scope cl C X.env) fp) vx tv) (hs : ∀ x, foldedSetIterable iter X.env x = pure x := by intro _; rfl) :
    PS X (.Assign [.Name y py] (.DictComp kx vx [⟨tg, iter, ifs, 0⟩] scope pos) spos) (tAsg (tDc wi g tt tk tv (own.map (·.2))) (gName i)) := ⟨fun pins t σ G D I h => by
  rw [exec_Assign_Name_used _ _ _ _ hsw]
  refine wpAny_bind (wpAny_standAt (wpAny_bind ?_))
  show wpAny _ X.A (do let _ ← comprehension (.DictComp kx vx [⟨tg, iter, ifs, 0⟩] scope pos) scope X.env (firstIterPos [⟨tg, iter, ifs, 0⟩] pos) newDict false (eval iter X.env) (some (assign (.Name y py) X.env))) _ _ t
  have h : tDc wi g tt tk tv (own.map (·.2)) σ G (fun x G1 => gName i x σ G1 D.nx) := h
  refine wpAny_bind (thn (dc_core (Qf := fun _ s' => SP X pins D .next s') hc hN I hi ok hg ht hk he hs h fun L C s' m G' I' q hn f => ?_) fun _ s' hq => wpAny_pure (wpAny_pure hq))
  show wpAny _ _ (assign (.Name y py) X.env (.ref L)) _ _ _
  refine wpAny_assign_Name (store_ok2 (v := V.ref L) I' hN hy (.inl hyl) rfl (fun s2 I2 ⟨a, sb, ha⟩ => ?_) (.inr hyl))
  obtain ⟨f0, f1, f2, f3, f4, f5⟩ := f
  have haC : C ≠ a := ha.elim (fun z => by rw [z]; exact f1) (fun z e => f4 y a z e.symm)
  exact ⟨m, hn.sameBut sb haC, fun h3 sb3 => ⟨_, G', I2.turned (t' := s2.toks) (fun b o hb e => (sb3.2 b hb).trans e) f0 f1 f3 f4 f5, q⟩⟩⟩
theorem dc_list {K : PySem.W.Frag} {a : Addr} {xs : List V} {g : TG} {tt : TT} {tk tv : TE} {vs : List Nat} {σ : L2.St} {H1 : Hp} {D : Addr} {Qd : Hp → Prop} (Pv : Nat → Hp → Prop) (h0 : Pv 0 (upd H1 D (.dK []))) (hl : ∀ i H, i ≤ xs.length → Pv i H → SqL K H a xs)
    (hs : ∀ i x H, xs[i]? = some x → Pv i H → g x (wipe σ vs) H fun σ2 H2 => wipe σ2 vs = wipe σ vs ∧ tt σ2 H2 fun b H3 =>
      if b = true then tk σ2 H3 fun y H4 => tv σ2 H4 fun z H5 => ∃ kvs k, y = kV k ∧ H5 D = some (.dK kvs) ∧ kvs.length < sizeLine ∧ Pv (i + 1) (upd H5 D (.dK (putK kvs k z))) else Pv (i + 1) H3) (hd : ∀ H, Pv xs.length H → Qd H) :
    ∃ W : Nat → Nat → Hp → Prop, (∃ m, W 0 m (upd H1 D (.dK []))) ∧ ∀ i m H, W i m H →
      ((Itl K a).stop i H ∧ Qd H) ∨ ((Itl K a).go i H ∧ ∃ Nx : Hp → Prop, (∀ H', Nx H' → ∃ m', m' < m ∧ W (i + 1) m' H') ∧ ∀ x H', (Itl K a).yld i H x H' → g x (wipe σ vs) H' fun σ2 H2 => wipe σ2 vs = wipe σ vs ∧ tt σ2 H2 fun b H3 =>
        if b = true then tk σ2 H3 fun y H4 => tv σ2 H4 fun z H5 => ∃ kvs k, y = kV k ∧ H5 D = some (.dK kvs) ∧ kvs.length < sizeLine ∧ Nx (upd H5 D (.dK (putK kvs k z))) else Nx H3) := by
  refine ⟨fun i m H => m = xs.length - i ∧ i ≤ xs.length ∧ Pv i H, ⟨xs.length, by simp, Nat.zero_le _, h0⟩, ?_⟩
  rintro i m H ⟨rfl, hi, p⟩
  have q := hl i H hi p
  by_cases hlt : i < xs.length
  · refine .inr ⟨⟨xs, xs[i], q, by simp [hlt]⟩, Pv (i + 1), fun H' p' => ⟨xs.length - (i + 1), by omega, rfl, hlt, p'⟩, fun x H' y => ?_⟩
    obtain ⟨e, y⟩ := y
    subst e
    exact hs i x _ (y xs q) p
  · have e : i = xs.length := by omega
    subst e
    exact .inl ⟨⟨xs, q, Nat.le_refl _⟩, hd H p⟩
/-- a loop over zip of two lists -/
theorem for_zipL {K : PySem.W.Frag} {a b : Addr} {xs ys : List V} {g : TG} {tb : TS} {D : Ends} {σ : L2.St} {H : Hp} (hl : ys.length ≤ xs.length) (Pv : Nat → L2.St → Hp → Prop) (h0 : Pv 0 σ H) (hq : ∀ i σ H, Pv i σ H → SqL K H a xs ∧ SqL K H b ys)
    (hs : ∀ (i : Nat) (x y : V) (σ : L2.St) (H : Hp) (T : Addr), xs[i]? = some x → ys[i]? = some y → Pv i σ H → H T = none → g (.ref T) σ (upd H T (.tup [x, y])) fun σ2 H2 => tb { D with nx := Pv (i + 1), ct := Pv (i + 1), bk := D.nx } σ2 H2) (hd : ∀ σ H, Pv ys.length σ H → D.nx σ H) :
    ∃ W : Nat → Nat → L2.St → Hp → Prop, (∃ m, W 0 m σ H) ∧ ∀ i m σ H, W i m σ H →
      ((Itz K a b).stop i H ∧ D.nx σ H) ∨ ((Itz K a b).go i H ∧ ∃ N : L2.St → Hp → Prop, (∀ σ' H', N σ' H' → ∃ m', m' < m ∧ W (i + 1) m' σ' H') ∧ ∀ x H', (Itz K a b).yld i H x H' → g x σ H' fun σ2 H2 => tb { D with nx := N, ct := N, bk := D.nx } σ2 H2) := by
  refine ⟨fun i m σ H => m = ys.length - i ∧ i ≤ ys.length ∧ Pv i σ H, ⟨ys.length, by simp, Nat.zero_le _, h0⟩, ?_⟩
  rintro i m σ H ⟨rfl, hi, p⟩
  obtain ⟨q1, q2⟩ := hq i σ H p
  by_cases hlt : i < ys.length
  · have g2 : ys[i]? = some ys[i] := List.getElem?_eq_getElem hlt
    have g1 : xs[i]? = some (xs[i]'(by omega)) := List.getElem?_eq_getElem (by omega)
    refine .inr ⟨⟨xs, ys, _, _, q1, q2, g1, g2⟩, Pv (i + 1), fun σ' H' p' => ⟨ys.length - (i + 1), by omega, rfl, hlt, p'⟩, fun x H' y => ?_⟩
    obtain ⟨T, z1, z2, rfl, hT, rfl, f1, f2⟩ := y
    exact hs i z1 z2 σ H T (f1 _ q1) (f2 _ q2) p hT
  · have e : i = ys.length := by omega
    subst e
    exact .inl ⟨⟨xs, ys, q1, q2, .inr (Nat.le_refl _)⟩, hd σ H p⟩
theorem cut_mid (xs : List V) (i j : Nat) (h : i + j ≤ xs.length) : cutV xs (some (i : Int)) (some ((i : Int) + j)) = (xs.drop i).take j := by
  have e : ((i : Int) + j) = ((i + j : Nat) : Int) := by omega
  unfold cutV
  rw [e, HT.sIx_nat, HT.sIx_nat, Nat.min_eq_left h, Nat.min_eq_left (show i ≤ xs.length by omega)]
  congr 1
  omega
end AA

set_option Elab.async false
set_option linter.all false
set_option maxRecDepth 100000
set_option maxHeartbeats 4000000
/-! What the law's own looks lean on. -/
namespace AA
open PySem PySem.Spec PyProof.Rows L2 Evl
mutual
def dOk : PyData → Bool
  | .list xs => decide (xs.length ≤ 1000000) && dOkA xs
  | .tuple xs => decide (xs.length ≤ 1000000) && dOkA xs
  | .str z => PyData.strOk z
  | .dict _ => false
  | _ => true
def dOkA : List PyData → Bool
  | [] => true
  | x :: xs => dOk x && dOkA xs
end
mutual
theorem sm_two {K : PySem.W.Frag} {C : Addr} {R : Addr → Addr → Hp → Prop} {H : Hp} : ∀ (d : PyData) (v u : V) (n : Nat), Dp K H v d → Dp K H u d → dOk d = true → d.depth < n → Sm K C R H n v u
  | _, _, _, 0, _, _, _, h => absurd h (Nat.not_lt_zero _)
  | .none, v, u, n + 1, hd, he, _, _ => by
    cases hd
    cases he
    exact .inl ⟨rfl, rfl⟩
  | .bool b, v, u, n + 1, hd, he, _, _ => by
    cases hd
    cases he
    exact .inl ⟨rfl, rfl⟩
  | .int i, v, u, n + 1, hd, he, _, _ => by
    cases hd
    cases he
    exact .inl ⟨rfl, rfl⟩
  | .str z, v, u, n + 1, hd, he, ho, _ => by
    cases hd
    cases he
    exact .inl ⟨rfl, ho⟩
  | .list xs, v, u, n + 1, hd, he, ho, h => by
    cases hd with
    | lst h1 h2 =>
      cases he with
      | lst g1 g2 =>
        have ho' : (decide (xs.length ≤ 1000000) && dOkA xs) = true := ho
        rw [Bool.and_eq_true] at ho'
        have hl := dpa_len h2
        have hz := of_decide_eq_true ho'.1
        exact .inr (.inl ⟨_, _, _, _, rfl, rfl, h1, g1, sm_twoA xs _ _ n h2 g2 ho'.2 (Nat.lt_of_succ_lt_succ h), by omega⟩)
  | .tuple xs, v, u, n + 1, hd, he, ho, h => by
    cases hd with
    | tup h1 h2 =>
      cases he with
      | tup g1 g2 =>
        have ho' : (decide (xs.length ≤ 1000000) && dOkA xs) = true := ho
        rw [Bool.and_eq_true] at ho'
        have hl := dpa_len h2
        have hz := of_decide_eq_true ho'.1
        exact .inr (.inr (.inl ⟨_, _, _, _, rfl, rfl, h1, g1, sm_twoA xs _ _ n h2 g2 ho'.2 (Nat.lt_of_succ_lt_succ h), by omega⟩))
  | .dict _, v, u, n + 1, _, _, ho, _ => by cases ho
theorem sm_twoA {K : PySem.W.Frag} {C : Addr} {R : Addr → Addr → Hp → Prop} {H : Hp} : ∀ (ds : List PyData) (vs us : List V) (n : Nat), DpAll K H vs ds → DpAll K H us ds → dOkA ds = true → PyData.depthAll ds < n → Paired (Sm K C R H n) vs us
  | [], _, _, _, h, g, _, _ => by
    cases h
    cases g
    exact .nil
  | d :: ds, _, _, n, h, g, ho, hn => by
    cases h with
    | cons h1 h2 =>
      cases g with
      | cons g1 g2 =>
        have ho' : (dOk d && dOkA ds) = true := ho
        rw [Bool.and_eq_true] at ho'
        have hn' : max (PyData.depth d) (PyData.depthAll ds) < n := hn
        exact .cons (sm_two d _ _ n h1 g1 ho'.1 (by omega)) (sm_twoA ds _ _ n h2 g2 ho'.2 (by omega))
end
theorem tps_in {H : Hp} {a b : Addr} {m : Nat} (S : SAt H a b m) : Ex (tps H) (hid a b H) := fun x o h => by
  obtain ⟨h1, xs, rfl⟩ := tps_some h
  obtain ⟨ns, c1, c2, c3, ha, hb, _⟩ := S
  have xa : x ≠ a := fun z => by
    rw [z, ha] at h1
    cases h1
  have xb : x ≠ b := fun z => by
    rw [z, hb] at h1
    cases h1
  rw [hid_ne xa xb]
  exact h1
theorem rd_st {n : Int} {s : St5} (h : StOk n s) : rdStep n (stD s) = some s := by
  rw [rd_at (d := stD s) (c := .tuple [.int s.p, .int s.q]) rfl rfl, if_pos ⟨h.o0, h.o1, h.t0, h.t1, h.k⟩]
theorem lsa_two {i j : Int} {ys : List PyData} (h : LsA [.int i, .int j] ys) : ys = [.int i, .int j] := by
  cases h with
  | cons h1 h =>
    cases h with
    | cons h2 h =>
      cases h
      cases h1
      cases h2
      rfl
theorem ls_items {xs : List PyData} {d : PyData} (h : Ls (.tuple xs) d ∨ Ls (.list xs) d) : LsA xs (itemsD d) ∧ isListD d = true := by
  rcases h with h | h
  · cases h with
    | tl h => exact ⟨h, rfl⟩
    | tt h => exact ⟨h, rfl⟩
  · cases h with
    | ll h => exact ⟨h, rfl⟩
    | lt h => exact ⟨h, rfl⟩
theorem ls_step {n : Int} {s : St5} {d : PyData} (h : Ls (stD s) d) (o : StOk n s) : rdStep n d = some s := by
  obtain ⟨h1, _⟩ := ls_items (.inl (show Ls (.tuple [.int s.one, .int s.other, .tuple [.int s.p, .int s.q], .int s.ticks, .int s.change]) d from h))
  generalize hit : itemsD d = l at h1
  cases h1 with
  | cons a1 h1 =>
    cases h1 with
    | cons a2 h1 =>
      cases h1 with
      | cons a3 h1 =>
        cases h1 with
        | cons a4 h1 =>
          cases h1 with
          | cons a5 h1 =>
            cases h1
            cases a1
            cases a2
            cases a4
            cases a5
            obtain ⟨h2, _⟩ := ls_items (.inl a3)
            rw [rd_at hit (lsa_two h2), if_pos ⟨o.o0, o.o1, o.t0, o.t1, o.k⟩]
theorem ls_steps {n : Int} : ∀ {ws : List St5} {ds : List PyData}, LsA (ws.map stD) ds → (∀ s ∈ ws, StOk n s) → ds.map (rdStep n) = ws.map some
  | [], _, h, _ => by
    cases h
    rfl
  | s :: ws, _, h, o => by
    cases h with
    | cons h1 h2 =>
      rw [List.map_cons, List.map_cons, ls_step h1 (o s List.mem_cons_self), ls_steps h2 fun t ht => o t (List.mem_cons_of_mem _ ht)]
theorem rd_steps {n : Int} : ∀ {ws : List St5}, (∀ s ∈ ws, StOk n s) → (ws.map stD).map (rdStep n) = ws.map some
  | [], _ => rfl
  | s :: ws, o => by
    rw [List.map_cons, List.map_cons, List.map_cons, rd_st (o s List.mem_cons_self), rd_steps fun t ht => o t (List.mem_cons_of_mem _ ht)]
theorem all_sts : ∀ ws : List St5, allIA (ws.map stD) = true
  | [] => rfl
  | s :: ws => by
    show (allI (stD s) && allIA (ws.map stD)) = true
    rw [all_sts ws]
    rfl
theorem cut_from (xs : List V) (j : Nat) : cutV xs (some (j : Int)) none = xs.drop j := by
  unfold cutV
  rw [HT.sIx_none, HT.sIx_nat]
  by_cases h : j ≤ xs.length
  · rw [Nat.min_eq_left h, List.take_of_length_le (by rw [List.length_drop]; omega)]
  · rw [Nat.min_eq_right (by omega), Nat.sub_self, List.drop_of_length_le (by omega), List.take_nil]
    exact (List.drop_of_length_le (by omega)).symm
theorem dpa_take {K : PySem.W.Frag} {H : Hp} : ∀ {xs : List V} {ds : List PyData} (j : Nat), DpAll K H xs ds → DpAll K H (xs.take j) (ds.take j)
  | [], _, j, h => by
    cases h
    rw [List.take_nil, List.take_nil]
    exact .nil
  | x :: xs, _, 0, h => .nil
  | x :: xs, _, j + 1, h => by
    cases h with
    | cons h1 h2 => exact .cons h1 (dpa_take j h2)
theorem sqt_hid {G : Hp} {K : PySem.W.Frag} {a b t : Addr} {m : Nat} {xs : List V} (S : SAt G a b m) (h : SqT K G t xs) : SqT K (hid a b G) t xs := by
  obtain ⟨ns, c1, c2, c3, ha, hb, _⟩ := S
  rcases h with h | h
  · refine .inl ?_
    rcases h with h | ⟨u, h⟩
    · have xa : t ≠ a := fun z => by rw [z, ha] at h; cases h
      have xb : t ≠ b := fun z => by rw [z, hb] at h; cases h
      exact .inl (by rw [hid_ne xa xb]; exact h)
    · have xa : t ≠ a := fun z => by rw [z, ha] at h; cases h
      have xb : t ≠ b := fun z => by rw [z, hb] at h; cases h
      exact .inr ⟨u, by rw [hid_ne xa xb]; exact h⟩
  · exact .inr h
theorem sts_hid {G : Hp} {K : PySem.W.Frag} {a b : Addr} {m : Nat} (S : SAt G a b m) : ∀ {vs : List V} {ss : List St5}, DpAll K G vs (ss.map stD) → DpAll K (hid a b G) vs (ss.map stD)
  | [], [], _ => .nil
  | v :: vs, s :: ss, h => by
    cases h with
    | cons h1 h2 =>
      obtain ⟨t, u, rfl, h3, h4⟩ := stD_inv h1
      exact .cons (stD_mk (sqt_hid S h3) (sqt_hid S h4)) (sts_hid S h2)
  | [], _ :: _, h => by cases h
  | _ :: _, [], h => by cases h
theorem made_ex {H : Hp} {x dx : Addr} {o : HO} (nx : H x = none) (ndx : H dx = none) : Ex H (hid x x (upd (upd H dx (.own x)) x o)) := fun z u h => by
  have h1 : z ≠ x := ne_of_none h nx
  have h2 : z ≠ dx := ne_of_none h ndx
  rw [hid_ne h1 h1, upd_ne h1, upd_ne h2]
  exact h
theorem cnt_sts : ∀ ws : List St5, cntA (ws.map stD) = 8 * ws.length
  | [] => rfl
  | s :: ws => by
    show cnt (stD s) + cntA (ws.map stD) = 8 * (ws.length + 1)
    have e : cnt (stD s) = 8 := rfl
    rw [e, cnt_sts ws]
    omega
theorem dok_sts : ∀ ws : List St5, dOkA (ws.map stD) = true
  | [] => rfl
  | s :: ws => by
    show (dOk (stD s) && dOkA (ws.map stD)) = true
    rw [dok_sts ws]
    rfl
theorem stLt_tri {s t : St5} (h1 : stLt s t = false) (h2 : stLt t s = false) : s = t := by
  have a := stLt_no.mp h1
  have b := stLt_no.mp h2
  have e1 : s.one = t.one := by omega
  have e2 : s.other = t.other := by omega
  have e3 : s.p = t.p := by omega
  have e4 : s.q = t.q := by omega
  have e5 : s.ticks = t.ticks := by omega
  have e6 : s.change = t.change := by omega
  cases s
  cases t
  simp_all
/-- the same steps, both in order, are the same list -/
theorem srs_uniq : ∀ {ss ts : List St5}, SrS ss → SrS ts → ss.Perm ts → ss = ts
  | [], ts, _, _, p => (List.Perm.nil_eq p)
  | s :: ss, [], _, _, p => absurd p.length_eq (by simp)
  | s :: ss, t :: ts, h, g, p => by
    have h' := List.pairwise_cons.mp h
    have g' := List.pairwise_cons.mp g
    have e : s = t := by
      have m1 : s ∈ t :: ts := p.mem_iff.mp List.mem_cons_self
      have m2 : t ∈ s :: ss := p.mem_iff.mpr List.mem_cons_self
      rcases List.mem_cons.mp m1 with e | m1
      · exact e
      · rcases List.mem_cons.mp m2 with e | m2
        · exact e.symm
        · exact stLt_tri (g'.1 _ m1) (h'.1 _ m2)
    subst e
    rw [srs_uniq h'.2 g'.2 (List.Perm.cons_inv p)]
section
variable {K : PySem.W.Frag}
theorem rdall_of {n : Int} {H : Hp} : ∀ {vs : List V} {ds : List PyData} {ss : List St5}, DpAll K H vs ds → ds.map (rdStep n) = ss.map some → RdAll K n H vs ss
  | [], _, [], h, _ => .nil
  | [], _, _ :: _, h, e => by
    cases h
    cases e
  | v :: vs, _, [], h, e => by
    cases h
    cases e
  | v :: vs, _, s :: ss, h, e => by
    cases h with
    | cons h1 h2 =>
      rw [List.map_cons, List.map_cons] at e
      injection e with e1 e2
      exact .cons h1 e1 (rdall_of h2 e2)
theorem rdall_st {n : Int} {H : Hp} {vs : List V} {ss : List St5} (h : DpAll K H vs (ss.map stD)) (o : ∀ s ∈ ss, StOk n s) : RdAll K n H vs ss := rdall_of h (rd_steps o)
/-- a web, its list of steps at lw -/
def WebL (K : PySem.W.Frag) (C : Addr) (H : Hp) (x lw : Addr) (n : Int) (ss : List St5) : Prop := ∃ (dx kd : Addr) (ys : List V), H x = some (.ins C dx (wf n lw kd)) ∧ H lw = some (.lst ys) ∧ DpAll K H ys (ss.map stD)
theorem WebL.at {C : Addr} {H : Hp} {x lw : Addr} {n : Int} {ss : List St5} (h : WebL K C H x lw n ss) : WebAt K C H x n ss := let ⟨dx, kd, ys, h1, h2, h3⟩ := h; ⟨dx, lw, kd, ys, h1, h2, h3⟩
theorem WebL.ex {C : Addr} {H H' : Hp} {x lw : Addr} {n : Int} {ss : List St5} (h : WebL K C H x lw n ss) (e : Ex H H') : WebL K C H' x lw n ss := let ⟨dx, kd, ys, h1, h2, h3⟩ := h; ⟨dx, kd, ys, e _ _ h1, e _ _ h2, dpa_ex e _ _ h3⟩
theorem WebL.up {C p : Addr} {H : Hp} {x lw : Addr} {n : Int} {ss : List St5} {vs : List V} {o : HO} (h : WebL K C H x lw n ss) (hp : H p = some (.lst vs)) (hl : p ≠ lw) : WebL K C (upd H p o) x lw n ss := by
  obtain ⟨dx, kd, ys, h1, h2, h3⟩ := h
  have px : x ≠ p := fun z => by
    rw [z, hp] at h1
    cases h1
  have nt : ∀ (xs : List V) (u : Obj), H p ≠ some (.tup xs) ∧ H p ≠ some (.frz u (.tup xs)) := fun xs u => by
    rw [hp]
    exact ⟨(fun z => nomatch z), (fun z => nomatch z)⟩
  exact ⟨dx, kd, ys, by rw [upd_ne px]; exact h1, by rw [upd_ne hl.symm]; exact h2, sts_upd nt h3⟩
theorem nt_lst {G : Hp} {l : Addr} {vs : List V} (h : G l = some (.lst vs)) (xs : List V) (u : Obj) : G l ≠ some (.tup xs) ∧ G l ≠ some (.frz u (.tup xs)) := by
  rw [h]
  exact ⟨(fun z => nomatch z), (fun z => nomatch z)⟩
theorem sts_get {H : Hp} {ys : List V} {ss : List St5} {i : Nat} {y : V} (h : DpAll K H ys (ss.map stD)) (hy : ys[i]? = some y) : ∃ (t : St5) (b : Addr), ss[i]? = some t ∧ y = .ref b ∧ Dp K H (.ref b) (stD t) := by
  obtain ⟨d, h1, h2⟩ := dpa_get h hy
  rw [List.getElem?_map] at h1
  cases q : ss[i]? with
  | none =>
    rw [q] at h1
    cases h1
  | some t =>
    rw [q] at h1
    cases h1
    obtain ⟨b, c, e, _⟩ := stD_inv h2
    subst e
    exact ⟨t, b, rfl, rfl, h2⟩
theorem sts_len {H : Hp} {ys : List V} {ss : List St5} (h : DpAll K H ys (ss.map stD)) : ys.length = ss.length := by
  have := dpa_len h
  rw [List.length_map] at this
  exact this
/-- what a web that is made keeps -/
theorem made_web {C x dx lw kd dy : Addr} {H H3 : Hp} {n : Int} {ss : List St5} {ys : List V} (nx : H x = none) (ndx : H dx = none) (hw : Ex (hid x x (upd (upd H dx (.own x)) x (.ins C dx []))) H3) (fx : H3 x = some (.ins C dy (wf n lw kd))) (flw0 : upd (upd H dx (.own x)) x (.ins C dx []) lw = none) (flw : H3 lw = some (.lst ys)) (hys : DpAll K H3 ys (ss.map stD)) :
    Ex H H3 ∧ WebL K C H3 x lw n ss ∧ H lw = none := by
  have me := made_ex (o := .ins C dx []) nx ndx
  refine ⟨me.trans hw, ⟨dy, kd, ys, fx, flw, hys⟩, ?_⟩
  by_cases q1 : lw = x
  · rw [q1]
    exact nx
  · by_cases q2 : lw = dx
    · rw [q2]
      exact ndx
    · rw [upd_ne q1, upd_ne q2] at flw0
      exact flw0
end
/-- list(x) of a list or a tuple -/
abbrev rListOf (K : PySem.W.Frag) : List V → Hp → VK → Prop := fun vs G Q => ∃ p ys, vs = [V.ref p] ∧ (SqL K G p ys ∨ SqT K G p ys) ∧ ∀ l, G l = none → Q (.ref l) (upd G l (.lst ys))
end AA

set_option Elab.async false
set_option linter.all false
set_option maxRecDepth 100000
set_option maxHeartbeats 4000000
/-! What one can come to, and dicts of lists. -/
namespace AA
open PySem PySem.Spec PyProof.Rows L2 Evl
theorem nd_len {α : Type} [DecidableEq α] : ∀ (l r : List α), l.Nodup → (∀ x ∈ l, x ∈ r) → l.length ≤ r.length
  | [], r, _, _ => Nat.zero_le _
  | x :: l, r, hn, hs => by
    have hn' := List.nodup_cons.mp hn
    have ih := nd_len l (r.erase x) hn'.2 fun y hy => (List.mem_erase_of_ne fun (e : y = x) => hn'.1 (e ▸ hy)).mpr (hs y (List.mem_cons_of_mem _ hy))
    have hx := hs x List.mem_cons_self
    rw [List.length_erase_of_mem hx] at ih
    have := List.length_pos_of_mem hx
    rw [List.length_cons]
    omega
/-- what one can come to along es, begun at S -/
inductive Rch (es : List (Int × Int)) (S : List Int) : Int → Prop
  | base {v : Int} : v ∈ S → Rch es S v
  | step {a b : Int} : Rch es S a → (a, b) ∈ es → Rch es S b
/-- all that can be come to lies in U -/
theorem Rch.in {es : List (Int × Int)} {S U : List Int} (h1 : ∀ v ∈ S, v ∈ U) (h2 : ∀ a b, (a, b) ∈ es → b ∈ U) {v : Int} (h : Rch es S v) : v ∈ U := by
  cases h with
  | base h => exact h1 _ h
  | step _ h => exact h2 _ _ h
/-- what is closed holds all that can be come to -/
theorem Rch.closed {es : List (Int × Int)} {S seen : List Int} (h1 : ∀ v ∈ S, v ∈ seen) (h2 : ∀ a ∈ seen, ∀ b, (a, b) ∈ es → b ∈ seen) {v : Int} (h : Rch es S v) : v ∈ seen := by
  induction h with
  | base h => exact h1 _ h
  | step _ e ih => exact h2 _ ih _ e
/-! ### a dict of lists: rows of a key, a list's address, what the list holds -/
abbrev Row (α : Type) := Int × Addr × List α
def rowK {α : Type} (rows : List (Row α)) : List (Key × V) := rows.map fun r => (Sum.inl r.1, V.ref r.2.1)
theorem rowK_none {α : Type} {a : Int} : ∀ {rows : List (Row α)}, valV (rowK rows) (Sum.inl a) = none ↔ ∀ r ∈ rows, r.1 ≠ a
  | [] => ⟨fun _ r h => absurd h (by simp), fun _ => rfl⟩
  | r :: rows => by
    by_cases e : r.1 = a
    · refine ⟨fun h => ?_, fun h => absurd e (h r List.mem_cons_self)⟩
      have : valV (rowK (r :: rows)) (Sum.inl a) = some (V.ref r.2.1) := valV_pos (p := (Sum.inl r.1, V.ref r.2.1)) (by rw [e])
      rw [this] at h
      cases h
    · have h1 : valV (rowK (r :: rows)) (Sum.inl a) = valV (rowK rows) (Sum.inl a) := valV_neg (p := (Sum.inl r.1, V.ref r.2.1)) fun z => e (Sum.inl.inj z)
      rw [h1, rowK_none (rows := rows)]
      exact ⟨fun h s hs => (List.mem_cons.mp hs).elim (fun z => z ▸ e) (h s), fun h s hs => h s (List.mem_cons_of_mem _ hs)⟩
theorem rowK_some {α : Type} {a : Int} {v : V} : ∀ {rows : List (Row α)}, valV (rowK rows) (Sum.inl a) = some v → ∃ (i : Nat) (r : Row α), rows[i]? = some r ∧ r.1 = a ∧ v = .ref r.2.1
  | [], h => by cases h
  | r :: rows, h => by
    by_cases e : r.1 = a
    · have : valV (rowK (r :: rows)) (Sum.inl a) = some (V.ref r.2.1) := valV_pos (p := (Sum.inl r.1, V.ref r.2.1)) (by rw [e])
      rw [this] at h
      cases h
      exact ⟨0, r, rfl, e, rfl⟩
    · have h1 : valV (rowK (r :: rows)) (Sum.inl a) = valV (rowK rows) (Sum.inl a) := valV_neg (p := (Sum.inl r.1, V.ref r.2.1)) fun z => e (Sum.inl.inj z)
      rw [h1] at h
      obtain ⟨i, s, h2, h3, h4⟩ := rowK_some h
      exact ⟨i + 1, s, by rw [List.getElem?_cons_succ]; exact h2, h3, h4⟩
/-- the dict at A, its lists new beside H, what they hold -/
structure Adj {α : Type} (f : α → V) (H G : Hp) (A : Addr) (rows : List (Row α)) : Prop where
  dk : G A = some (.dK (rowK rows))
  kn : (rows.map (·.1)).Nodup
  an : (rows.map (·.2.1)).Nodup
  fr : ∀ r ∈ rows, H r.2.1 = none ∧ r.2.1 ≠ A
  at' : ∀ r ∈ rows, G r.2.1 = some (.lst (r.2.2.map f))
theorem Adj.go {α : Type} {f : α → V} {H G G' : Hp} {A : Addr} {rows : List (Row α)} (h : Adj f H G A rows) (e : Ex G G') : Adj f H G' A rows := ⟨e _ _ h.dk, h.kn, h.an, h.fr, fun r hr => e _ _ (h.at' r hr)⟩
/-- a place that is none of the dict's is written -/
theorem Adj.upd {α : Type} {f : α → V} {H G : Hp} {A p : Addr} {o : HO} {rows : List (Row α)} (h : Adj f H G A rows) (pA : p ≠ A) (pr : ∀ r ∈ rows, p ≠ r.2.1) : Adj f H (L2.upd G p o) A rows :=
  ⟨by rw [upd_ne pA.symm]; exact h.dk, h.kn, h.an, h.fr, fun r hr => by rw [upd_ne (pr r hr).symm]; exact h.at' r hr⟩
/-- what stood in H stands -/
theorem set_map {α β : Type} (g : α → β) : ∀ (l : List α) (i : Nat) (x y : α), l[i]? = some x → g y = g x → (l.set i y).map g = l.map g
  | [], _, _, _, h, _ => by simp at h
  | z :: l, 0, x, y, h, e => by
    have : z = x := by simpa using h
    rw [List.set_cons_zero, List.map_cons, List.map_cons, e, this]
  | z :: l, i + 1, x, y, h, e => by
    rw [List.set_cons_succ, List.map_cons, List.map_cons, set_map g l i x y (by simpa using h) e]
theorem mem_set {α : Type} : ∀ {l : List α} {i : Nat} {x y z : α}, l[i]? = some x → (z ∈ l.set i y ↔ z = y ∨ ∃ j, j ≠ i ∧ l[j]? = some z)
  | [], _, _, _, _, h => by simp at h
  | w :: l, 0, x, y, z, h => by
    rw [List.set_cons_zero, List.mem_cons]
    refine ⟨fun q => q.imp id fun q => ?_, fun q => q.imp id fun ⟨j, h1, h2⟩ => ?_⟩
    · obtain ⟨j, hj⟩ := List.getElem?_of_mem q
      exact ⟨j + 1, by omega, by simpa using hj⟩
    · cases j with
      | zero => exact absurd rfl h1
      | succ j => exact mem_of_get (by simpa using h2)
  | w :: l, i + 1, x, y, z, h => by
    rw [List.set_cons_succ, List.mem_cons, mem_set (l := l) (i := i) (x := x) (by simpa using h)]
    constructor
    · rintro (q | q | ⟨j, h1, h2⟩)
      · exact .inr ⟨0, by omega, by simp [q]⟩
      · exact .inl q
      · exact .inr ⟨j + 1, by omega, by simpa using h2⟩
    · rintro (q | ⟨j, h1, h2⟩)
      · exact .inr (.inl q)
      · cases j with
        | zero => exact .inl (by simpa using h2.symm)
        | succ j => exact .inr (.inr ⟨j, by omega, by simpa using h2⟩)
theorem nodup_at {α : Type} {l : List α} (h : l.Nodup) {i j : Nat} {x : α} (h1 : l[i]? = some x) (h2 : l[j]? = some x) : i = j := by
  obtain ⟨hi, ei⟩ := List.getElem?_eq_some_iff.mp h1
  obtain ⟨hj, ej⟩ := List.getElem?_eq_some_iff.mp h2
  have := List.nodup_iff_pairwise_ne.mp h
  rcases Nat.lt_trichotomy i j with q | q | q
  · exact absurd (ei.trans ej.symm) (List.pairwise_iff_getElem.mp this i j hi hj q)
  · exact q
  · exact absurd (ej.trans ei.symm) (List.pairwise_iff_getElem.mp this j i hj hi q)
/-- one more in a list that is there -/
theorem Adj.more {α : Type} {f : α → V} {H G : Hp} {A : Addr} {rows : List (Row α)} {i : Nat} {r : Row α} (h : Adj f H G A rows) (hr : rows[i]? = some r) (b : α) : Adj f H (L2.upd G r.2.1 (.lst ((r.2.2 ++ [b]).map f))) A (rows.set i (r.1, r.2.1, r.2.2 ++ [b])) := by
  have hm := mem_of_get hr
  refine ⟨?_, ?_, ?_, fun s hs => ?_, fun s hs => ?_⟩
  · rw [upd_ne (h.fr r hm).2.symm]
    have : rowK (rows.set i (r.1, r.2.1, r.2.2 ++ [b])) = rowK rows := set_map _ rows i r _ hr rfl
    rw [this]
    exact h.dk
  · rw [set_map (·.1) rows i r (r.1, r.2.1, r.2.2 ++ [b]) hr rfl]
    exact h.kn
  · rw [set_map (·.2.1) rows i r (r.1, r.2.1, r.2.2 ++ [b]) hr rfl]
    exact h.an
  · rcases (mem_set hr).mp hs with rfl | ⟨j, _, hj⟩
    · exact h.fr r hm
    · exact h.fr s (mem_of_get hj)
  · rcases (mem_set hr).mp hs with rfl | ⟨j, hij, hj⟩
    · exact upd_same
    · have ne : s.2.1 ≠ r.2.1 := fun e => hij (nodup_at h.an (i := j) (j := i) (x := r.2.1) (by rw [List.getElem?_map, hj, ← e]; rfl) (by rw [List.getElem?_map, hr]; rfl))
      rw [upd_ne ne]
      exact h.at' s (mem_of_get hj)
/-- a new list with one thing -/
theorem Adj.new {α : Type} {f : α → V} {H G : Hp} {A p : Addr} {rows : List (Row α)} {a : Int} {b : α} (h : Adj f H G A rows) (hn : ∀ r ∈ rows, r.1 ≠ a) (hp : H p = none) (pA : p ≠ A) (pr : ∀ r ∈ rows, p ≠ r.2.1)
    (hA : G A = some (.dK (rowK rows))) : Adj f H (L2.upd (L2.upd G A (.dK (putK (rowK rows) (Sum.inl a) (V.ref p)))) p (.lst [f b])) A (rows ++ [(a, p, [b])]) := by
  refine ⟨?_, ?_, ?_, fun s hs => ?_, fun s hs => ?_⟩
  · rw [upd_ne pA.symm, upd_same, putK_new _ (rowK_none.mpr hn)]
    unfold rowK
    rw [List.map_append]
    rfl
  · rw [List.map_append]
    refine List.nodup_append.mpr ⟨h.kn, by simp, fun x hx y hy e => ?_⟩
    obtain ⟨r, h1, h2⟩ := List.mem_map.mp hx
    have : y = a := by simpa using hy
    exact hn r h1 (by rw [h2, e, this])
  · rw [List.map_append]
    refine List.nodup_append.mpr ⟨h.an, by simp, fun x hx y hy e => ?_⟩
    obtain ⟨r, h1, h2⟩ := List.mem_map.mp hx
    have : y = p := by simpa using hy
    exact pr r h1 (by rw [h2, e, this])
  · rcases List.mem_append.mp hs with hs | hs
    · exact h.fr s hs
    · obtain rfl := List.mem_singleton.mp hs
      exact ⟨hp, pA⟩
  · rcases List.mem_append.mp hs with hs | hs
    · rw [upd_ne (pr s hs).symm, upd_ne (h.fr s hs).2]
      exact h.at' s hs
    · obtain rfl := List.mem_singleton.mp hs
      exact upd_same
/-- what the rows tell -/
def Tells {α : Type} (rows : List (Row α)) (es : List (Int × α)) : Prop := ∀ a b, (a, b) ∈ es ↔ ∃ r ∈ rows, r.1 = a ∧ b ∈ r.2.2
theorem Tells.nil {α : Type} : Tells ([] : List (Row α)) [] := fun a b => ⟨fun h => absurd h (by simp), fun ⟨r, h, _⟩ => absurd h (by simp)⟩
theorem Tells.more {α : Type} {rows : List (Row α)} {es : List (Int × α)} {i : Nat} {r : Row α} (h : Tells rows es) (hr : rows[i]? = some r) (b : α) : Tells (rows.set i (r.1, r.2.1, r.2.2 ++ [b])) (es ++ [(r.1, b)]) := fun x y => by
  rw [List.mem_append, h x y, List.mem_singleton]
  constructor
  · rintro (⟨s, h1, h2, h3⟩ | e)
    · obtain ⟨j, hj⟩ := List.getElem?_of_mem h1
      by_cases q : j = i
      · subst q
        rw [hr] at hj
        cases hj
        exact ⟨_, (mem_set hr).mpr (.inl rfl), h2, List.mem_append_left _ h3⟩
      · exact ⟨s, (mem_set hr).mpr (.inr ⟨j, q, hj⟩), h2, h3⟩
    · cases e
      exact ⟨_, (mem_set hr).mpr (.inl rfl), rfl, List.mem_append_right _ List.mem_cons_self⟩
  · rintro ⟨s, h1, h2, h3⟩
    rcases (mem_set hr).mp h1 with rfl | ⟨j, _, hj⟩
    · rcases List.mem_append.mp h3 with h3 | h3
      · exact .inl ⟨r, mem_of_get hr, h2, h3⟩
      · have e1 : r.1 = x := h2
        rw [List.mem_singleton.mp h3, ← e1]
        exact .inr rfl
    · exact .inl ⟨s, mem_of_get hj, h2, h3⟩
theorem Tells.new {α : Type} {rows : List (Row α)} {es : List (Int × α)} (h : Tells rows es) (a : Int) (p : Addr) (b : α) : Tells (rows ++ [(a, p, [b])]) (es ++ [(a, b)]) := fun x y => by
  rw [List.mem_append, h x y, List.mem_singleton]
  constructor
  · rintro (⟨s, h1, h2⟩ | e)
    · exact ⟨s, List.mem_append_left _ h1, h2⟩
    · cases e
      exact ⟨_, List.mem_append_right _ List.mem_cons_self, rfl, List.mem_cons_self⟩
  · rintro ⟨s, h1, h2, h3⟩
    rcases List.mem_append.mp h1 with h1 | h1
    · exact .inl ⟨s, h1, h2, h3⟩
    · obtain rfl := List.mem_singleton.mp h1
      have e1 : a = x := h2
      rw [List.mem_singleton.mp h3, ← e1]
      exact .inr rfl
/-- how many things the rows hold -/
theorem Tells.key {α : Type} {rows : List (Row α)} {es : List (Int × α)} (h : Tells rows es) (kn : (rows.map (·.1)).Nodup) {i : Nat} {r : Row α} (hr : rows[i]? = some r) (b : α) : b ∈ r.2.2 ↔ (r.1, b) ∈ es := by
  rw [h r.1 b]
  refine ⟨fun q => ⟨r, mem_of_get hr, rfl, q⟩, ?_⟩
  rintro ⟨s, h1, h2, h3⟩
  obtain ⟨j, hj⟩ := List.getElem?_of_mem h1
  obtain rfl : j = i := nodup_at kn (x := r.1) (by rw [List.getElem?_map, hj, ← h2]; rfl) (by rw [List.getElem?_map, hr]; rfl)
  rw [hr] at hj
  cases hj
  exact h3
end AA

set_option Elab.async false
set_option linter.all false
set_option maxRecDepth 100000
set_option maxHeartbeats 4000000
/-! Least sums along steps, round by round, and rings below nothing: without a heap. -/
namespace AA
open PySem PySem.Spec PyProof.Rows L2 Evl
/-! ### lists of pairs as dicts -/
def gt {α : Type} : List (Int × α) → Int → Option α
  | [], _ => none
  | e :: l, p => if e.1 = p then some e.2 else gt l p
def put {α : Type} : List (Int × α) → Int → α → List (Int × α)
  | [], p, x => [(p, x)]
  | e :: l, p, x => if e.1 = p then (p, x) :: l else e :: put l p x
theorem gt_put {α : Type} {p : Int} {x : α} (q : Int) : ∀ l : List (Int × α), gt (put l p x) q = if p = q then some x else gt l q
  | [] => rfl
  | e :: l => by
    unfold put
    by_cases h : e.1 = p
    · rw [if_pos h]
      show (if p = q then some x else gt l q) = if p = q then some x else (if e.1 = q then some e.2 else gt l q)
      by_cases h2 : p = q
      · rw [if_pos h2, if_pos h2]
      · rw [if_neg h2, if_neg h2, if_neg (by rw [h]; exact h2)]
    · rw [if_neg h]
      show (if e.1 = q then some e.2 else gt (put l p x) q) = if p = q then some x else (if e.1 = q then some e.2 else gt l q)
      by_cases h3 : e.1 = q
      · rw [if_pos h3, if_pos h3, if_neg (fun z => h (by rw [h3, z]))]
      · rw [if_neg h3, if_neg h3]
        exact gt_put q l
theorem gt_mem {α : Type} {p : Int} : ∀ {l : List (Int × α)}, (gt l p).isSome = true ↔ p ∈ l.map (·.1)
  | [] => ⟨(fun h => by cases h), fun h => absurd h (by simp)⟩
  | e :: l => by
    show (if e.1 = p then some e.2 else gt l p).isSome = true ↔ _
    rw [List.map_cons, List.mem_cons]
    by_cases h : e.1 = p
    · rw [if_pos h]
      exact ⟨fun _ => .inl h.symm, fun _ => rfl⟩
    · rw [if_neg h, gt_mem (l := l)]
      exact ⟨.inr, fun z => z.elim (fun y => absurd y.symm h) id⟩
theorem gt_of {α : Type} {p : Int} {x : α} {l : List (Int × α)} (h : gt l p = some x) : p ∈ l.map (·.1) := gt_mem.mp (by rw [h]; rfl)
theorem put_keys {α : Type} {p : Int} {x : α} : ∀ l : List (Int × α), (put l p x).map (·.1) = if p ∈ l.map (·.1) then l.map (·.1) else l.map (·.1) ++ [p]
  | [] => rfl
  | e :: l => by
    unfold put
    by_cases h : e.1 = p
    · rw [if_pos h, if_pos (by rw [List.map_cons, h]; exact List.mem_cons_self)]
      rw [List.map_cons, List.map_cons, h]
    · rw [if_neg h, List.map_cons, put_keys l, List.map_cons]
      by_cases h2 : p ∈ l.map (·.1)
      · rw [if_pos h2, if_pos (List.mem_cons_of_mem _ h2)]
      · rw [if_neg h2, if_neg (fun z => (List.mem_cons.mp z).elim (fun y => h y.symm) h2)]
        rfl
theorem put_len {α : Type} {p : Int} {x : α} (l : List (Int × α)) : (put l p x).length ≤ l.length + 1 := by
  have h := congrArg List.length (put_keys (p := p) (x := x) l)
  rw [List.length_map] at h
  rw [h]
  split
  · rw [List.length_map]; omega
  · rw [List.length_append, List.length_map]; exact Nat.le_refl _
/-! ### a round -/
structure BS where
  sm : List (Int × Int)
  cm : List (Int × St5)
  lt : Option Int
/-- what a step lowers the sum of its end to -/
def lowTo (W : St5 → Int) (sm : List (Int × Int)) (s : St5) : Option Int :=
  match gt sm s.one with
  | none => none
  | some a => match gt sm s.other with
    | none => some (a + W s)
    | some c => if a + W s < c then some (a + W s) else none
def low1 (W : St5 → Int) (b : BS) (s : St5) : BS :=
  match lowTo W b.sm s with
  | none => b
  | some x => ⟨put b.sm s.other x, put b.cm s.other s, some s.other⟩
def lowR (W : St5 → Int) (ss : List St5) (b : BS) : BS := ss.foldl (low1 W) ⟨b.sm, b.cm, none⟩
/-- going back -/
def BackCh (cm : List (Int × St5)) : Int → List St5 → Int → Prop
  | v, [], e => v = e
  | v, s :: L, e => gt cm v = some s ∧ BackCh cm s.one L e
structure BInv (W : St5 → Int) (ss : List St5) (I : List (Int × Int)) (b : BS) (r : Int → Nat) (k i : Nat) : Prop where
  cm : ∀ v s, gt b.cm v = some s → s ∈ ss ∧ s.other = v ∧ r v ≤ r s.one + 1 ∧ ∃ a c, gt b.sm s.one = some a ∧ gt b.sm v = some c ∧ a + W s ≤ c
  ini : ∀ v, gt b.cm v = none → gt b.sm v = gt I v ∧ r v = 0
  le : ∀ v, r v ≤ k
  neg : ∀ v L, L ≠ [] → BackCh b.cm v L v → (L.map W).sum < 0
  ok : ∀ j s a, ss[j]? = some s → gt b.sm s.one = some a → r s.one < (if j < i then k else k - 1) → ∃ c, gt b.sm s.other = some c ∧ c ≤ a + W s
  lt0 : b.lt = none → ∀ v, r v ≤ k - 1
  lt1 : ∀ v, b.lt = some v → r v = k ∧ (gt b.cm v).isSome = true
  from' : ∀ v, (gt b.sm v).isSome = true → ∃ p, (gt I p).isSome = true ∧ Rch (ss.map fun s => (s.one, s.other)) [p] v
theorem back_sum {W : St5 → Int} {cm : List (Int × St5)} (S : Int → Int) (h : ∀ v s, gt cm v = some s → W s ≤ S v - S s.one) : ∀ (v : Int) (L : List St5) (e : Int), BackCh cm v L e → (L.map W).sum ≤ S v - S e
  | v, [], e, hb => by
    have : v = e := hb
    subst this
    simp
  | v, s :: L, e, hb => by
    have h1 := h v s hb.1
    have h2 := back_sum S h s.one L e hb.2
    rw [List.map_cons, List.sum_cons]
    omega
/-- the same, strictly, where a place is come to at which it is strict -/
theorem back_sum_lt {W : St5 → Int} {cm : List (Int × St5)} (S : Int → Int) (z : St5) (h : ∀ v s, gt cm v = some s → W s ≤ S v - S s.one) (hz : W z < S z.other - S z.one) (hzc : gt cm z.other = some z) :
    ∀ (v : Int) (L : List St5) (e : Int), BackCh cm v L e → z ∈ L → (∀ v s, gt cm v = some s → s.other = v) → (L.map W).sum < S v - S e
  | v, [], e, _, hm, _ => absurd hm (by simp)
  | v, s :: L, e, hb, hm, ho => by
    rw [List.map_cons, List.sum_cons]
    rcases List.mem_cons.mp hm with rfl | hm
    · have h2 := back_sum S h z.one L e hb.2
      have : z.other = v := ho v z hb.1
      subst this
      omega
    · have h1 := h v s hb.1
      have h2 := back_sum_lt S z h hz hzc s.one L e hb.2 hm ho
      omega
/-- a way back that does not go by a step goes back as before -/
theorem back_old {cm : List (Int × St5)} {z : St5} : ∀ (v : Int) (L : List St5) (e : Int), BackCh (put cm z.other z) v L e → z ∉ L → BackCh cm v L e
  | v, [], e, hb, _ => hb
  | v, s :: L, e, hb, hm => by
    obtain ⟨h1, h2⟩ := hb
    have hs : z ≠ s := fun y => hm (y ▸ List.mem_cons_self)
    rw [gt_put] at h1
    by_cases q : z.other = v
    · rw [if_pos q] at h1
      exact absurd (Option.some.inj h1) hs
    · rw [if_neg q] at h1
      exact ⟨h1, back_old _ L e h2 fun y => hm (List.mem_cons_of_mem _ y)⟩
theorem BInv.step {W : St5 → Int} {ss : List St5} {I : List (Int × Int)} {b : BS} {r : Int → Nat} {k i : Nat} {s : St5} (h : BInv W ss I b r k i) (hk : 1 ≤ k) (hs : ss[i]? = some s) : ∃ r', BInv W ss I (low1 W b s) r' k (i + 1) := by
  have hm : s ∈ ss := mem_of_get hs
  unfold low1
  cases hl : lowTo W b.sm s with
  | none =>
    refine ⟨r, h.cm, h.ini, h.le, h.neg, fun j t a hj ha hr => ?_, h.lt0, h.lt1, h.from'⟩
    by_cases q : j = i
    · subst q
      rw [hs] at hj
      cases hj
      unfold lowTo at hl
      rw [ha] at hl
      cases hc : gt b.sm s.other with
      | none => simp [hc] at hl
      | some c =>
        simp only [hc] at hl
        by_cases q2 : a + W s < c
        · rw [if_pos q2] at hl
          cases hl
        · exact ⟨c, rfl, by omega⟩
    · refine h.ok j t a hj ha ?_
      by_cases q2 : j < i
      · rw [if_pos q2]
        rw [if_pos (by omega)] at hr
        exact hr
      · rw [if_neg q2]
        rw [if_neg (by omega)] at hr
        exact hr
  | some x =>
    obtain ⟨a, ha, rfl, hdec⟩ : ∃ a, gt b.sm s.one = some a ∧ x = a + W s ∧ ∀ c, gt b.sm s.other = some c → a + W s < c := by
      unfold lowTo at hl
      cases ha : gt b.sm s.one with
      | none => simp [ha] at hl
      | some a =>
        simp only [ha] at hl
        refine ⟨a, rfl, ?_⟩
        cases hc : gt b.sm s.other with
        | none =>
          simp only [hc] at hl
          exact ⟨(Option.some.inj hl).symm, fun c z => by cases z⟩
        | some c =>
          simp only [hc] at hl
          by_cases q2 : a + W s < c
          · rw [if_pos q2] at hl
            exact ⟨(Option.some.inj hl).symm, fun c' z => by cases z; exact q2⟩
          · rw [if_neg q2] at hl
            cases hl
    -- its begin was lowered not long ago
    have hr1 : k - 1 ≤ r s.one := by
      refine Nat.le_of_not_lt fun z => ?_
      obtain ⟨c, hc, hle⟩ := h.ok i s a hs ha (by rw [if_neg (Nat.lt_irrefl i)]; exact z)
      have := hdec c hc
      omega
    let r' : Int → Nat := fun v => if s.other = v then k else r v
    have hrr : ∀ v, r v ≤ r' v := fun v => by
      show r v ≤ if s.other = v then k else r v
      split
      · exact h.le v
      · exact Nat.le_refl _
    have r'e : r' s.other = k := if_pos rfl
    have r'n : ∀ v, s.other ≠ v → r' v = r v := fun v q => if_neg q
    refine ⟨r', ?_, ?_, ?_, ?_, ?_, fun z => (Option.some_ne_none _ z).elim, ?_, ?_⟩
    · intro v t hv
      rw [gt_put] at hv
      by_cases q : s.other = v
      · subst q
        rw [if_pos rfl] at hv
        cases hv
        refine ⟨hm, rfl, ?_, ?_⟩
        · rw [r'e]
          have := hrr s.one
          omega
        · by_cases q2 : s.other = s.one
          · -- round in one step: it was lowered below itself
            refine ⟨a + W s, a + W s, by show gt (put b.sm s.other (a + W s)) s.one = _; rw [gt_put, if_pos q2], by show gt (put b.sm s.other (a + W s)) s.other = _; rw [gt_put, if_pos rfl], ?_⟩
            have := hdec a (by rw [q2]; exact ha)
            omega
          · exact ⟨a, a + W s, by show gt (put b.sm s.other (a + W s)) s.one = _; rw [gt_put, if_neg q2]; exact ha, by show gt (put b.sm s.other (a + W s)) s.other = _; rw [gt_put, if_pos rfl], Int.le_refl _⟩
      · rw [if_neg q] at hv
        obtain ⟨h1, h2, h3, a', c', h4, h5, h6⟩ := h.cm v t hv
        refine ⟨h1, h2, ?_, ?_⟩
        · rw [r'n v q]
          have := hrr t.one
          omega
        · by_cases q2 : s.other = t.one
          · refine ⟨a + W s, c', by show gt (put b.sm s.other (a + W s)) t.one = _; rw [gt_put, if_pos q2], by show gt (put b.sm s.other (a + W s)) v = _; rw [gt_put, if_neg q]; exact h5, ?_⟩
            have := hdec a' (by rw [q2]; exact h4)
            omega
          · exact ⟨a', c', by show gt (put b.sm s.other (a + W s)) t.one = _; rw [gt_put, if_neg q2]; exact h4, by show gt (put b.sm s.other (a + W s)) v = _; rw [gt_put, if_neg q]; exact h5, h6⟩
    · intro v hv
      rw [gt_put] at hv
      by_cases q : s.other = v
      · rw [if_pos q] at hv
        cases hv
      · rw [if_neg q] at hv
        have := h.ini v hv
        exact ⟨by show gt (put b.sm s.other (a + W s)) v = _; rw [gt_put, if_neg q]; exact this.1, by rw [r'n v q]; exact this.2⟩
    · intro v
      by_cases q : s.other = v
      · rw [← q, r'e]
        exact Nat.le_refl _
      · rw [r'n v q]
        exact h.le v
    · intro v L hL hb
      by_cases hz : s ∈ L
      · let S : Int → Int := fun p => (gt b.sm p).getD (a + W s + 1)
        have hSz : W s < S s.other - S s.one := by
          have e1 : S s.one = a := by show (gt b.sm s.one).getD _ = a; rw [ha]; rfl
          rw [e1]
          cases hc : gt b.sm s.other with
          | none =>
            have e2 : S s.other = a + W s + 1 := by show (gt b.sm s.other).getD _ = _; rw [hc]; rfl
            omega
          | some c =>
            have e2 : S s.other = c := by show (gt b.sm s.other).getD _ = _; rw [hc]; rfl
            have := hdec c hc
            omega
        have hall : ∀ v t, gt (put b.cm s.other s) v = some t → W t ≤ S v - S t.one := by
          intro v t hv
          rw [gt_put] at hv
          by_cases q : s.other = v
          · rw [if_pos q] at hv
            cases hv
            subst q
            omega
          · rw [if_neg q] at hv
            obtain ⟨_, _, _, a', c', h4, h5, h6⟩ := h.cm v t hv
            have e1 : S t.one = a' := by show (gt b.sm t.one).getD _ = a'; rw [h4]; rfl
            have e2 : S v = c' := by show (gt b.sm v).getD _ = c'; rw [h5]; rfl
            omega
        have := back_sum_lt S s hall hSz (by rw [gt_put, if_pos rfl]) v L v hb hz (fun v t hv => by
          rw [gt_put] at hv
          by_cases q : s.other = v
          · rw [if_pos q] at hv
            cases hv
            exact q
          · rw [if_neg q] at hv
            exact (h.cm v t hv).2.1)
        omega
      · exact h.neg v L hL (back_old v L v hb hz)
    · intro j t a' hj ha' hr
      by_cases q : s.other = t.one
      · rw [← q, r'e] at hr
        split at hr <;> omega
      · have ha0 : gt b.sm t.one = some a' := by
          have : gt (put b.sm s.other (a + W s)) t.one = some a' := ha'
          rw [gt_put, if_neg q] at this
          exact this
        rw [r'n _ q] at hr
        by_cases q3 : s.other = t.other
        · refine ⟨a + W s, by show gt (put b.sm s.other (a + W s)) t.other = _; rw [gt_put, if_pos q3], ?_⟩
          by_cases q4 : j = i
          · subst q4
            rw [hs] at hj
            cases hj
            rw [ha] at ha0
            cases ha0
            exact Int.le_refl _
          · obtain ⟨c, hc, hle⟩ := h.ok j t a' hj ha0 (by
              by_cases q5 : j < i
              · rw [if_pos q5]
                rw [if_pos (by omega)] at hr
                exact hr
              · rw [if_neg q5]
                rw [if_neg (by omega)] at hr
                exact hr)
            have := hdec c (by rw [q3]; exact hc)
            omega
        · by_cases q4 : j = i
          · subst q4
            rw [hs] at hj
            cases hj
            exact absurd rfl q3
          · obtain ⟨c, hc, hle⟩ := h.ok j t a' hj ha0 (by
              by_cases q5 : j < i
              · rw [if_pos q5]
                rw [if_pos (by omega)] at hr
                exact hr
              · rw [if_neg q5]
                rw [if_neg (by omega)] at hr
                exact hr)
            exact ⟨c, by show gt (put b.sm s.other (a + W s)) t.other = _; rw [gt_put, if_neg q3]; exact hc, hle⟩
    · intro v hv
      have : s.other = v := Option.some.inj hv
      subst this
      exact ⟨r'e, by show (gt (put b.cm s.other s) s.other).isSome = true; rw [gt_put, if_pos rfl]; rfl⟩
    · intro v hv
      have hv' : (gt (put b.sm s.other (a + W s)) v).isSome = true := hv
      rw [gt_put] at hv'
      by_cases q : s.other = v
      · obtain ⟨p, hp, hr⟩ := h.from' s.one (by rw [ha]; rfl)
        exact ⟨p, hp, .step hr (List.mem_map.mpr ⟨s, hm, by rw [q]⟩)⟩
      · rw [if_neg q] at hv'
        exact h.from' v hv'
theorem BInv.go {W : St5 → Int} {ss : List St5} {I : List (Int × Int)} {k : Nat} (hk : 1 ≤ k) : ∀ (zs : List St5) (i : Nat) (b : BS) (r : Int → Nat), ss.drop i = zs → BInv W ss I b r k i → ∃ r', BInv W ss I (zs.foldl (low1 W) b) r' k ss.length
  | [], i, b, r, e, h => by
    have hi : ss.length ≤ i := List.drop_eq_nil_iff.mp e
    refine ⟨r, h.cm, h.ini, h.le, h.neg, fun j s a hj ha hr => h.ok j s a hj ha ?_, h.lt0, h.lt1, h.from'⟩
    have jl := (List.getElem?_eq_some_iff.mp hj).1
    rw [if_pos jl] at hr
    rw [if_pos (by omega)]
    exact hr
  | z :: zs, i, b, r, e, h => by
    have hz : ss[i]? = some z := by
      have : (ss.drop i)[0]? = some z := by rw [e]; rfl
      rw [List.getElem?_drop] at this
      exact this
    obtain ⟨r', h'⟩ := h.step hk hz
    have e' : ss.drop (i + 1) = zs := by
      rw [← List.drop_drop, e]
      rfl
    exact BInv.go hk zs (i + 1) _ r' e' h'
theorem BInv.begin {W : St5 → Int} {ss : List St5} {I : List (Int × Int)} : BInv W ss I ⟨I, [], none⟩ (fun _ => 0) 1 0 := by
  refine ⟨(fun v s h => by cases h), fun v _ => ⟨rfl, rfl⟩, fun _ => Nat.zero_le _, fun v L hL hb => ?_, fun j s a _ _ hr => ?_, fun _ _ => Nat.zero_le _, (fun v h => by cases h), fun v hv => ⟨v, hv, .base (by simp)⟩⟩
  · cases L with
    | nil => exact absurd rfl hL
    | cons s L =>
      have := hb.1
      cases this
  · have h0 : (if j < 0 then 1 else 1 - 1) = 0 := by rw [if_neg (Nat.not_lt_zero j)]
    rw [h0] at hr
    exact absurd hr (Nat.not_lt_zero _)
/-- behind a round the next one begins -/
theorem BInv.next {W : St5 → Int} {ss : List St5} {I : List (Int × Int)} {b : BS} {r : Int → Nat} {k : Nat} (hk : 1 ≤ k) (h : BInv W ss I b r k ss.length) : BInv W ss I ⟨b.sm, b.cm, none⟩ r (k + 1) 0 := by
  refine ⟨h.cm, h.ini, fun v => Nat.le_succ_of_le (h.le v), h.neg, fun j s a hj ha hr => h.ok j s a hj ha ?_, fun _ v => h.le v, (fun v z => by cases z), h.from'⟩
  rw [if_neg (Nat.not_lt_zero j)] at hr
  rw [if_pos (List.getElem?_eq_some_iff.mp hj).1]
  exact hr
theorem BInv.round {W : St5 → Int} {ss : List St5} {I : List (Int × Int)} {b : BS} {r : Int → Nat} {k : Nat} (hk : 1 ≤ k) (h : BInv W ss I ⟨b.sm, b.cm, none⟩ r k 0) : ∃ r', BInv W ss I (lowR W ss b) r' k ss.length :=
  BInv.go hk ss 0 _ r rfl h
/-- where nothing was lowered all is as low as can be -/
theorem BInv.done {W : St5 → Int} {ss : List St5} {I : List (Int × Int)} {b : BS} {r : Int → Nat} {k : Nat} (hk : 1 ≤ k) (h : BInv W ss I b r k ss.length) (h0 : b.lt = none) : ∀ s ∈ ss, ∀ a, gt b.sm s.one = some a → ∃ c, gt b.sm s.other = some c ∧ c ≤ a + W s := by
  intro s hs a ha
  obtain ⟨j, hj⟩ := List.getElem?_of_mem hs
  refine h.ok j s a hj ha ?_
  rw [if_pos (List.getElem?_eq_some_iff.mp hj).1]
  have := h.lt0 h0 s.one
  omega
end AA

set_option Elab.async false
set_option linter.all false
set_option maxRecDepth 100000
set_option maxHeartbeats 4000000
/-! The way back into a ring, and when the rounds end. -/
namespace AA
open PySem PySem.Spec PyProof.Rows L2 Evl
/-- a walk of steps from a place to another one -/
def Wlk5 : Int → List St5 → Int → Prop
  | a, [], e => a = e
  | a, s :: L, e => s.one = a ∧ Wlk5 s.other L e
theorem wlk5_app : ∀ (a : Int) (L M : List St5) (e : Int), Wlk5 a (L ++ M) e ↔ ∃ m, Wlk5 a L m ∧ Wlk5 m M e
  | a, [], M, e => ⟨fun h => ⟨a, rfl, h⟩, fun ⟨m, h1, h2⟩ => by
    have : a = m := h1
    subst this
    exact h2⟩
  | a, s :: L, M, e => by
    show (s.one = a ∧ Wlk5 s.other (L ++ M) e) ↔ ∃ m, (s.one = a ∧ Wlk5 s.other L m) ∧ Wlk5 m M e
    rw [wlk5_app]
    exact ⟨fun ⟨h, m, h1, h2⟩ => ⟨m, ⟨h, h1⟩, h2⟩, fun ⟨m, ⟨h, h1⟩, h2⟩ => ⟨h, m, h1, h2⟩⟩
theorem back_app {cm : List (Int × St5)} : ∀ (v : Int) (L M : List St5) (e : Int), BackCh cm v (L ++ M) e ↔ ∃ m, BackCh cm v L m ∧ BackCh cm m M e
  | v, [], M, e => ⟨fun h => ⟨v, rfl, h⟩, fun ⟨m, h1, h2⟩ => by
    have : v = m := h1
    subst this
    exact h2⟩
  | v, s :: L, M, e => by
    show (gt cm v = some s ∧ BackCh cm s.one (L ++ M) e) ↔ ∃ m, (gt cm v = some s ∧ BackCh cm s.one L m) ∧ BackCh cm m M e
    rw [back_app]
    exact ⟨fun ⟨h, m, h1, h2⟩ => ⟨m, ⟨h, h1⟩, h2⟩, fun ⟨m, ⟨h, h1⟩, h2⟩ => ⟨h, m, h1, h2⟩⟩
theorem back_walk {cm : List (Int × St5)} (ho : ∀ v s, gt cm v = some s → s.other = v) : ∀ (v : Int) (L : List St5) (e : Int), BackCh cm v L e → Wlk5 e L.reverse v
  | v, [], e, h => h.symm
  | v, s :: L, e, h => by
    rw [List.reverse_cons, wlk5_app]
    exact ⟨s.one, back_walk ho s.one L e h.2, rfl, ho v s h.1⟩
/-- a ring among steps -/
structure IsRg (ss ws : List St5) : Prop where
  ne : ws ≠ []
  sub : ∀ s ∈ ws, s ∈ ss
  round : ∃ p, Wlk5 p ws p
  nd : (ws.map (·.other)).Nodup
/-! ### the way back -/
def trl (cm : List (Int × St5)) : Nat → List Int → Int → List Int × Int
  | 0, seen, p => (seen, p)
  | f + 1, seen, p => match gt cm p with
    | none => (seen, p)
    | some s => if p ∈ seen then (seen, p) else trl cm f (seen ++ [p]) s.one
def rg (cm : List (Int × St5)) (p : Int) : Nat → St5 → List St5
  | 0, s => [s]
  | f + 1, s => if s.one = p then [s] else match gt cm s.one with
    | none => [s]
    | some t => s :: rg cm p f t
def rbk (cm : List (Int × St5)) (v : Int) : Option (List St5) :=
  match gt cm (trl cm 64 [] v).2 with
  | none => none
  | some s => some (rg cm (trl cm 64 [] v).2 64 s).reverse
/-- where the way back has come -/
structure Trl (cm : List (Int × St5)) (v : Int) (seen : List Int) (p : Int) : Prop where
  nd : seen.Nodup
  sub : ∀ q ∈ seen, (gt cm q).isSome = true
  way : ∃ L, L.map (·.other) = seen ∧ BackCh cm v L p
theorem Trl.nil {cm : List (Int × St5)} {v : Int} : Trl cm v [] v := ⟨List.nodup_nil, fun q h => absurd h (by simp), [], rfl, rfl⟩
theorem Trl.more {cm : List (Int × St5)} (ho : ∀ v s, gt cm v = some s → s.other = v) {v p : Int} {seen : List Int} {s : St5} (h : Trl cm v seen p) (hp : gt cm p = some s) (hn : p ∉ seen) : Trl cm v (seen ++ [p]) s.one := by
  obtain ⟨L, h1, h2⟩ := h.way
  refine ⟨List.nodup_append.mpr ⟨h.nd, by simp, fun x hx y hy e => hn (by rw [List.mem_singleton.mp hy] at e; exact e ▸ hx)⟩, fun q hq => ?_, L ++ [s], ?_, ?_⟩
  · rcases List.mem_append.mp hq with hq | hq
    · exact h.sub q hq
    · rw [List.mem_singleton.mp hq, hp]
      rfl
  · rw [List.map_append, h1]
    show seen ++ [s.other] = _
    rw [ho p s hp]
  · rw [back_app]
    exact ⟨p, h2, hp, rfl⟩
theorem Trl.len {cm : List (Int × St5)} {v p : Int} {seen : List Int} (h : Trl cm v seen p) : seen.length ≤ cm.length := by
  have := nd_len seen (cm.map (·.1)) h.nd fun q hq => gt_mem.mp (h.sub q hq)
  rw [List.length_map] at this
  exact this
/-- with enough turns it comes to an end -/
theorem trl_end {cm : List (Int × St5)} (ho : ∀ v s, gt cm v = some s → s.other = v) {v : Int} : ∀ (f : Nat) (seen : List Int) (p : Int), Trl cm v seen p → cm.length + 1 ≤ f + seen.length →
    Trl cm v (trl cm f seen p).1 (trl cm f seen p).2 ∧ ((gt cm (trl cm f seen p).2) = none ∨ (trl cm f seen p).2 ∈ (trl cm f seen p).1)
  | 0, seen, p, h, hf => by
    have := h.len
    omega
  | f + 1, seen, p, h, hf => by
    unfold trl
    cases hg : gt cm p with
    | none => exact ⟨h, .inl hg⟩
    | some s =>
      show Trl cm v (if p ∈ seen then (seen, p) else trl cm f (seen ++ [p]) s.one).1 (if p ∈ seen then (seen, p) else trl cm f (seen ++ [p]) s.one).2 ∧ _
      by_cases q : p ∈ seen
      · simp only [if_pos q]
        exact ⟨h, .inr q⟩
      · simp only [if_neg q]
        exact trl_end ho f _ _ (h.more ho hg q) (by rw [List.length_append, List.length_singleton]; omega)
theorem rg_of {cm : List (Int × St5)} (ho : ∀ v s, gt cm v = some s → s.other = v) {p : Int} : ∀ (f : Nat) (q : Int) (s : St5) (L : List St5), BackCh cm q (s :: L) p → (∀ t ∈ L, t.other ≠ p) → L.length ≤ f → rg cm p f s = s :: L
  | 0, q, s, L, h, hn, hf => by
    obtain rfl : L = [] := List.length_eq_zero_iff.mp (by omega)
    rfl
  | f + 1, q, s, [], h, hn, hf => by
    have : s.one = p := h.2
    unfold rg
    rw [if_pos this]
  | f + 1, q, s, t :: L, h, hn, hf => by
    have h2 := h.2
    have h3 : gt cm s.one = some t := h2.1
    have h4 := ho _ _ h3
    unfold rg
    rw [if_neg (by rw [← h4]; exact hn t List.mem_cons_self), h3]
    show s :: rg cm p f t = _
    rw [rg_of ho f s.one t L h2 (fun u hu => hn u (List.mem_cons_of_mem _ hu)) (by rw [List.length_cons] at hf; omega)]
/-- what stands of the way back where it has come into itself -/
theorem Trl.ring {cm : List (Int × St5)} (ho : ∀ v s, gt cm v = some s → s.other = v) {v p : Int} {seen : List Int} (h : Trl cm v seen p) (hp : p ∈ seen) : ∃ s L, gt cm p = some s ∧ BackCh cm p (s :: L) p ∧ (∀ t ∈ L, t.other ≠ p) ∧ ((s :: L).map (·.other)).Nodup ∧ (s :: L).length ≤ seen.length := by
  obtain ⟨M, h1, h2⟩ := h.way
  rw [← h1] at hp
  obtain ⟨s, hs, es⟩ := List.mem_map.mp hp
  obtain ⟨A, B, rfl⟩ := List.append_of_mem hs
  obtain ⟨m, h3, h4⟩ := (back_app v A (s :: B) p).mp h2
  have h5 : gt cm m = some s := h4.1
  have h6 : m = p := by rw [← es, ho m s h5]
  subst h6
  have hnd := h.nd
  rw [← h1, List.map_append] at hnd
  have hnd2 := (List.nodup_append.mp hnd).2.1
  refine ⟨s, B, h5, h4, fun t ht e => ?_, hnd2, ?_⟩
  · rw [List.map_cons] at hnd2
    refine (List.nodup_cons.mp hnd2).1 ?_
    rw [es, ← e]
    exact List.mem_map.mpr ⟨t, ht, rfl⟩
  · rw [← h1, List.length_map, List.length_append]
    omega
/-- the ring that is told is one, and comes to less than nothing -/
theorem rbk_ring {W : St5 → Int} {ss : List St5} {I : List (Int × Int)} {b : BS} {r : Int → Nat} {k i : Nat} (h : BInv W ss I b r k i) (hz : b.cm.length ≤ 63) {v : Int} {ws : List St5} (hr : rbk b.cm v = some ws) : IsRg ss ws ∧ (ws.map W).sum < 0 ∧ ∀ s ∈ ws, (gt b.sm s.one).isSome = true := by
  have ho : ∀ v s, gt b.cm v = some s → s.other = v := fun v s hv => (h.cm v s hv).2.1
  obtain ⟨h1, h2⟩ := trl_end ho 64 [] v .nil (by show _ ≤ 64 + 0; omega)
  unfold rbk at hr
  generalize (trl b.cm 64 [] v).1 = seen at h1 h2
  generalize (trl b.cm 64 [] v).2 = p at h1 h2 hr
  rcases h2 with h2 | h2
  · rw [h2] at hr
    cases hr
  obtain ⟨s, L, g1, g2, g3, g4, g5⟩ := h1.ring ho h2
  have hl := h1.len
  rw [g1] at hr
  have hr' : some (rg b.cm p 64 s).reverse = some ws := hr
  rw [rg_of ho 64 p s L g2 g3 (by rw [List.length_cons] at g5; omega)] at hr'
  obtain rfl := Option.some.inj hr'
  have hsub : ∀ t ∈ (s :: L), t ∈ ss ∧ (gt b.sm t.one).isSome = true := by
    have : ∀ (M : List St5) (q e : Int), BackCh b.cm q M e → ∀ t ∈ M, t ∈ ss ∧ (gt b.sm t.one).isSome = true := by
      intro M
      induction M with
      | nil => exact fun q e _ t ht => absurd ht (by simp)
      | cons x M ih =>
        intro q e hb t ht
        rcases List.mem_cons.mp ht with rfl | ht
        · obtain ⟨q1, _, _, a, c, q2, _⟩ := h.cm q t hb.1
          exact ⟨q1, by rw [q2]; rfl⟩
        · exact ih _ _ hb.2 t ht
    exact this _ p p g2
  refine ⟨⟨by simp, fun t ht => (hsub t (List.mem_reverse.mp ht)).1, ⟨p, back_walk ho p _ p g2⟩, ?_⟩, ?_, fun t ht => (hsub t (List.mem_reverse.mp ht)).2⟩
  · rw [List.map_reverse]
    exact List.pairwise_reverse.mpr (List.Pairwise.imp (fun q => Ne.symm q) g4)
  · rw [List.map_reverse, List.sum_reverse]
    exact h.neg p _ (by simp) g2
/-- how late the places of a way back were lowered -/
theorem back_late {cm : List (Int × St5)} {r : Int → Nat} (h : ∀ v s, gt cm v = some s → r v ≤ r s.one + 1) : ∀ (v : Int) (L : List St5) (e : Int), BackCh cm v L e → r v ≤ r e + L.length
  | v, [], e, hb => by
    have : v = e := hb
    subst this
    exact Nat.le_refl _
  | v, s :: L, e, hb => by
    have h1 := h v s hb.1
    have h2 := back_late h s.one L e hb.2
    rw [List.length_cons]
    omega
/-- where there is no ring yet the round is not yet a late one -/
theorem rbk_none {W : St5 → Int} {ss : List St5} {I : List (Int × Int)} {b : BS} {r : Int → Nat} {k i : Nat} {U : List Int} (h : BInv W ss I b r k i) (hU : ∀ v, (gt b.sm v).isSome = true → v ∈ U) (hz : U.length ≤ 63) {v : Int} (hv : b.lt = some v) (hn : b.cm.length ≤ 63) (hr : rbk b.cm v = none) : k < U.length := by
  have ho : ∀ v s, gt b.cm v = some s → s.other = v := fun v s hv => (h.cm v s hv).2.1
  obtain ⟨h1, h2⟩ := trl_end ho 64 [] v .nil (by show _ ≤ 64 + 0; omega)
  unfold rbk at hr
  generalize (trl b.cm 64 [] v).1 = seen at h1 h2
  generalize (trl b.cm 64 [] v).2 = p at h1 h2 hr
  have hp : gt b.cm p = none := by
    cases hg : gt b.cm p with
    | none => rfl
    | some s =>
      rw [hg] at hr
      cases hr
  obtain ⟨hk, hsv⟩ := h.lt1 v hv
  obtain ⟨L, e1, e2⟩ := h1.way
  have hl := back_late (fun v s hv => (h.cm v s hv).2.2.1) v L p e2
  have hp0 := (h.ini p hp).2
  have hLs : L.length = seen.length := by rw [← e1, List.length_map]
  -- the end is a begin, and has a sum
  have hpU : p ∈ U := by
    have hne : L ≠ [] := by
      intro e
      rw [e] at e2
      have : v = p := e2
      rw [this, hp] at hsv
      cases hsv
    obtain ⟨M, t, rfl⟩ : ∃ M t, L = M ++ [t] := ⟨L.dropLast, L.getLast hne, (List.dropLast_concat_getLast hne).symm⟩
    obtain ⟨m, _, g1, g2⟩ := (back_app v M [t] p).mp e2
    obtain ⟨_, _, _, a, c, q2, _⟩ := h.cm m t g1
    have : t.one = p := g2
    rw [this] at q2
    exact hU p (by rw [q2]; rfl)
  have hsU : ∀ q ∈ seen, q ∈ U := fun q hq => by
    have := h1.sub q hq
    cases hg : gt b.cm q with
    | none =>
      rw [hg] at this
      cases this
    | some s =>
      obtain ⟨_, _, _, a, c, _, q2, _⟩ := h.cm q s hg
      exact hU q (by rw [q2]; rfl)
  have hpn : p ∉ seen := fun z => by
    have := h1.sub p z
    rw [hp] at this
    cases this
  have := nd_len (seen ++ [p]) U (List.nodup_append.mpr ⟨h1.nd, by simp, fun x hx y hy e => hpn (by rw [List.mem_singleton.mp hy] at e; exact e ▸ hx)⟩) fun q hq => (List.mem_append.mp hq).elim (hsU q) fun z => by rw [List.mem_singleton.mp z]; exact hpU
  rw [List.length_append, List.length_singleton] at this
  omega
/-! ### all rounds -/
def sor (W : St5 → Int) (ss : List St5) : Nat → BS → List (Int × Int) × Option (List St5)
  | 0, b => (b.sm, none)
  | f + 1, b => match b.lt with
    | none => (b.sm, none)
    | some v => match rbk b.cm v with
      | some ws => (b.sm, some ws)
      | none => sor W ss f (lowR W ss b)
def sorT (W : St5 → Int) (ss : List St5) (I : List (Int × Int)) : List (Int × Int) × Option (List St5) := sor W ss 64 (lowR W ss ⟨I, [], none⟩)
/-- what comes of it -/
structure SorOk (W : St5 → Int) (ss : List St5) (I : List (Int × Int)) (o : List (Int × Int) × Option (List St5)) : Prop where
  ring : ∀ ws, o.2 = some ws → IsRg ss ws ∧ (ws.map W).sum < 0 ∧ ∀ s ∈ ws, ∃ p, (gt I p).isSome = true ∧ Rch (ss.map fun s => (s.one, s.other)) [p] s.one
  sums : o.2 = none → (∀ v, (gt o.1 v).isSome = true → ∃ p, (gt I p).isSome = true ∧ Rch (ss.map fun s => (s.one, s.other)) [p] v) ∧ (∀ v, (gt I v).isSome = true → (gt o.1 v).isSome = true) ∧ ∀ s ∈ ss, ∀ a, gt o.1 s.one = some a → ∃ c, gt o.1 s.other = some c ∧ c ≤ a + W s
theorem low1_len {W : St5 → Int} {b : BS} {s : St5} : (low1 W b s).sm.length ≤ b.sm.length + 1 ∧ (low1 W b s).cm.length ≤ b.cm.length + 1 := by
  unfold low1
  split
  · exact ⟨Nat.le_succ _, Nat.le_succ _⟩
  · exact ⟨put_len _, put_len _⟩
/-- keys stand once each -/
def KOk (b : BS) : Prop := (b.sm.map (·.1)).Nodup ∧ (b.cm.map (·.1)).Nodup
theorem put_nd {α : Type} {l : List (Int × α)} {p : Int} {x : α} (h : (l.map (·.1)).Nodup) : ((put l p x).map (·.1)).Nodup := by
  rw [put_keys]
  split
  · exact h
  · exact List.nodup_append.mpr ⟨h, by simp, fun x hx y hy e => by
      rw [List.mem_singleton.mp hy] at e
      exact absurd (e ▸ hx) ‹_›⟩
theorem KOk.low1 {W : St5 → Int} {b : BS} {s : St5} (h : KOk b) : KOk (low1 W b s) := by
  unfold AA.low1
  split
  · exact h
  · exact ⟨put_nd h.1, put_nd h.2⟩
theorem KOk.fold {W : St5 → Int} : ∀ (zs : List St5) (b : BS), KOk b → KOk (zs.foldl (AA.low1 W) b)
  | [], _, h => h
  | z :: zs, b, h => KOk.fold zs _ h.low1
/-- no more than there are places -/
theorem BInv.few {W : St5 → Int} {ss : List St5} {I : List (Int × Int)} {b : BS} {r : Int → Nat} {k i : Nat} {U : List Int} (h : BInv W ss I b r k i) (ho : KOk b) (hU : ∀ v, (gt b.sm v).isSome = true → v ∈ U) : b.sm.length ≤ U.length ∧ b.cm.length ≤ U.length := by
  have h1 := nd_len (b.sm.map (·.1)) U ho.1 fun q hq => hU q (gt_mem.mpr hq)
  have h2 := nd_len (b.cm.map (·.1)) U ho.2 fun q hq => by
    cases hg : gt b.cm q with
    | none =>
      have := gt_mem.mpr hq
      rw [hg] at this
      cases this
    | some s =>
      obtain ⟨_, _, _, a, c, _, q2, _⟩ := h.cm q s hg
      exact hU q (by rw [q2]; rfl)
  rw [List.length_map] at h1 h2
  exact ⟨h1, h2⟩
theorem BInv.inU {W : St5 → Int} {ss : List St5} {I : List (Int × Int)} {b : BS} {r : Int → Nat} {k i : Nat} {U : List Int} (h : BInv W ss I b r k i) (h1 : ∀ p, (gt I p).isSome = true → p ∈ U) (h2 : ∀ s ∈ ss, s.other ∈ U) : ∀ v, (gt b.sm v).isSome = true → v ∈ U := fun v hv => by
  obtain ⟨p, hp, hr⟩ := h.from' v hv
  refine hr.in (fun x hx => by rw [List.mem_singleton.mp hx]; exact h1 p hp) fun a c hac => ?_
  obtain ⟨s, hs, e⟩ := List.mem_map.mp hac
  cases e
  exact h2 s hs
/-- what stands of the begins stays -/
theorem low1_keep {W : St5 → Int} {b : BS} {s : St5} {v : Int} (h : (gt b.sm v).isSome = true) : (gt (low1 W b s).sm v).isSome = true := by
  unfold low1
  split
  · exact h
  · show (gt (put _ _ _) v).isSome = true
    rw [gt_put]
    split
    · rfl
    · exact h
theorem fold_keep {W : St5 → Int} {v : Int} : ∀ (zs : List St5) (b : BS), (gt b.sm v).isSome = true → (gt (zs.foldl (low1 W) b).sm v).isSome = true
  | [], _, h => h
  | z :: zs, b, h => fold_keep zs _ (low1_keep h)
theorem sor_ok {W : St5 → Int} {ss : List St5} {I : List (Int × Int)} {U : List Int} (h1 : ∀ p, (gt I p).isSome = true → p ∈ U) (h2 : ∀ s ∈ ss, s.other ∈ U) (hz : U.length ≤ 63) : ∀ (f : Nat) (b : BS) (r : Int → Nat) (k : Nat), 1 ≤ k → BInv W ss I b r k ss.length → KOk b → (∀ v, (gt I v).isSome = true → (gt b.sm v).isSome = true) → U.length < f + k → k ≤ U.length → SorOk W ss I (sor W ss f b)
  | 0, b, r, k, hk, h, ho, hI, hf, hkU => by omega
  | f + 1, b, r, k, hk, h, ho, hI, hf, hkU => by
    have hU := h.inU h1 h2
    have hfew := h.few ho hU
    unfold sor
    cases hl : b.lt with
    | none => exact ⟨fun ws z => (by cases z), fun _ => ⟨h.from', hI, h.done hk hl⟩⟩
    | some v =>
      show SorOk W ss I (match rbk b.cm v with | some ws => (b.sm, some ws) | none => sor W ss f (lowR W ss b))
      cases hr : rbk b.cm v with
      | some ws =>
        obtain ⟨g1, g2, g3⟩ := rbk_ring h (by omega) hr
        refine ⟨fun ws' z => ?_, fun z => by cases z⟩
        obtain rfl : ws = ws' := Option.some.inj z
        exact ⟨g1, g2, fun s hs => h.from' s.one (g3 s hs)⟩
      | none =>
        have hlt := rbk_none h hU hz hl (by omega) hr
        obtain ⟨r', h'⟩ := (h.next hk).round (b := b) (Nat.le_succ_of_le hk)
        exact sor_ok h1 h2 hz f _ r' (k + 1) (Nat.le_succ_of_le hk) h' (KOk.fold ss _ ho) (fun v hv => fold_keep ss _ (hI v hv)) (by omega) (by omega)
theorem sorT_ok {W : St5 → Int} {ss : List St5} {I : List (Int × Int)} {U : List Int} (h0 : (I.map (·.1)).Nodup) (h1 : ∀ p, (gt I p).isSome = true → p ∈ U) (h2 : ∀ s ∈ ss, s.other ∈ U) (hz : U.length ≤ 63) (hU : 1 ≤ U.length) : SorOk W ss I (sorT W ss I) := by
  obtain ⟨r', h'⟩ := BInv.begin.round (W := W) (ss := ss) (I := I) (b := ⟨I, [], none⟩) (Nat.le_refl 1)
  exact sor_ok h1 h2 hz 64 _ r' 1 (Nat.le_refl 1) h' (KOk.fold ss _ ⟨h0, List.nodup_nil⟩) (fun v hv => fold_keep ss _ hv) (by omega) hU
end AA

set_option Elab.async false
set_option linter.all false
set_option maxRecDepth 100000
set_option maxHeartbeats 4000000
/-! Walks that can be gone with a stock; greatest stocks, round by round: without a heap. -/
namespace AA
open PySem PySem.Spec PyProof.Rows L2 Evl
/-- the stock behind a walk, if it can be gone with one -/
def gon : Int → List St5 → Option Int
  | x, [] => some x
  | x, s :: L => if x + s.change < 0 then none else gon (x + s.change) L
theorem gon_app : ∀ (x : Int) (L M : List St5), gon x (L ++ M) = (gon x L).bind fun y => gon y M
  | x, [], M => rfl
  | x, s :: L, M => by
    show (if x + s.change < 0 then none else gon (x + s.change) (L ++ M)) = (if x + s.change < 0 then none else gon (x + s.change) L).bind _
    split
    · rfl
    · exact gon_app _ L M
theorem gon_mono : ∀ (L : List St5) {x y x' : Int}, gon x L = some y → x ≤ x' → gon x' L = some (y + (x' - x))
  | [], x, y, x', h, l => by
    have : x = y := Option.some.inj h
    subst this
    show some x' = _
    congr 1
    omega
  | s :: L, x, y, x', h, l => by
    have h' : (if x + s.change < 0 then none else gon (x + s.change) L) = some y := h
    show (if x' + s.change < 0 then none else gon (x' + s.change) L) = _
    by_cases q : x + s.change < 0
    · rw [if_pos q] at h'
      cases h'
    · rw [if_neg q] at h'
      rw [if_neg (by omega), gon_mono L h' (show x + s.change ≤ x' + s.change by omega)]
      congr 1
      omega
theorem gon_sum : ∀ (L : List St5) {x y : Int}, gon x L = some y → y = x + (L.map (·.change)).sum
  | [], x, y, h => by
    have : x = y := Option.some.inj h
    subst this
    simp
  | s :: L, x, y, h => by
    have h' : (if x + s.change < 0 then none else gon (x + s.change) L) = some y := h
    by_cases q : x + s.change < 0
    · rw [if_pos q] at h'
      cases h'
    · rw [if_neg q] at h'
      have := gon_sum L h'
      rw [List.map_cons, List.sum_cons]
      omega
theorem gon_nn : ∀ (L : List St5) {x y : Int}, 0 ≤ x → gon x L = some y → 0 ≤ y
  | [], x, y, h0, h => by
    have : x = y := Option.some.inj h
    omega
  | s :: L, x, y, h0, h => by
    have h' : (if x + s.change < 0 then none else gon (x + s.change) L) = some y := h
    by_cases q : x + s.change < 0
    · rw [if_pos q] at h'
      cases h'
    · rw [if_neg q] at h'
      exact gon_nn L (by omega) h'
theorem gon_big : ∀ (L : List St5), ∃ B : Int, 0 ≤ B ∧ ∀ x, B ≤ x → ∃ y, gon x L = some y ∧ x - B ≤ y
  | [] => ⟨0, Int.le_refl _, fun x h => ⟨x, rfl, by omega⟩⟩
  | s :: L => by
    obtain ⟨B, b0, hB⟩ := gon_big L
    refine ⟨B + s.change.natAbs, by omega, fun x hx => ?_⟩
    obtain ⟨y, h1, h2⟩ := hB (x + s.change) (by omega)
    refine ⟨y, ?_, by omega⟩
    show (if x + s.change < 0 then none else gon (x + s.change) L) = _
    rw [if_neg (by omega)]
    exact h1
/-- one can come to a place with a stock, from a place with a stock -/
def Can (ss : List St5) (v x u y : Int) : Prop := ∃ L, Wlk5 v L u ∧ (∀ s ∈ L, s ∈ ss) ∧ gon x L = some y
theorem Can.rfl' {ss : List St5} {v x : Int} : Can ss v x v x := ⟨[], rfl, fun s h => absurd h (by simp), rfl⟩
theorem Can.trans {ss : List St5} {v x u y w z : Int} (h : Can ss v x u y) (g : Can ss u y w z) : Can ss v x w z := by
  obtain ⟨L, h1, h2, h3⟩ := h
  obtain ⟨M, g1, g2, g3⟩ := g
  refine ⟨L ++ M, (wlk5_app v L M w).mpr ⟨u, h1, g1⟩, fun s hs => (List.mem_append.mp hs).elim (h2 s) (g2 s), ?_⟩
  rw [gon_app, h3]
  exact g3
theorem Can.one {ss : List St5} {s : St5} {x : Int} (h : s ∈ ss) (h0 : 0 ≤ x + s.change) : Can ss s.one x s.other (x + s.change) := by
  refine ⟨[s], ⟨rfl, rfl⟩, fun t ht => by rw [List.mem_singleton.mp ht]; exact h, ?_⟩
  show (if x + s.change < 0 then none else gon (x + s.change) []) = _
  rw [if_neg (by omega)]
  rfl
theorem Can.mono {ss : List St5} {v x u y x' : Int} (h : Can ss v x u y) (l : x ≤ x') : Can ss v x' u (y + (x' - x)) := by
  obtain ⟨L, h1, h2, h3⟩ := h
  exact ⟨L, h1, h2, gon_mono L h3 l⟩
/-! ### a round -/
structure MS where
  sm : List (Int × Option Int)
  cm : List (Int × St5)
  lt : Option Int
/-- what a step raises the stock of its end to -/
def rai (sm : List (Int × Option Int)) (s : St5) : Option Int :=
  match gt sm s.one with
  | some (some a) => if a + s.change < 0 then none else match gt sm s.other with
    | none => some (a + s.change)
    | some none => none
    | some (some c) => if c < a + s.change then some (a + s.change) else none
  | _ => none
theorem rai_is {sm : List (Int × Option Int)} {s : St5} {x : Int} (h : rai sm s = some x) : ∃ a, gt sm s.one = some (some a) ∧ x = a + s.change ∧ 0 ≤ x ∧ (gt sm s.other = none ∨ ∃ c, gt sm s.other = some (some c) ∧ c < x) := by
  unfold rai at h
  cases h1 : gt sm s.one with
  | none => simp [h1] at h
  | some o =>
    cases o with
    | none => simp [h1] at h
    | some a =>
      simp only [h1] at h
      refine ⟨a, rfl, ?_⟩
      by_cases q : a + s.change < 0
      · rw [if_pos q] at h
        cases h
      · rw [if_neg q] at h
        cases h2 : gt sm s.other with
        | none =>
          simp only [h2] at h
          exact ⟨(Option.some.inj h).symm, by have := Option.some.inj h; omega, .inl rfl⟩
        | some o =>
          cases o with
          | none => simp [h2] at h
          | some c =>
            simp only [h2] at h
            by_cases q2 : c < a + s.change
            · rw [if_pos q2] at h
              have := Option.some.inj h
              exact ⟨this.symm, by omega, .inr ⟨c, rfl, by omega⟩⟩
            · rw [if_neg q2] at h
              cases h
theorem rai_no {sm : List (Int × Option Int)} {s : St5} (h : rai sm s = none) {a : Int} (ha : gt sm s.one = some (some a)) (h0 : 0 ≤ a + s.change) : gt sm s.other = some none ∨ ∃ c, gt sm s.other = some (some c) ∧ a + s.change ≤ c := by
  unfold rai at h
  simp only [ha] at h
  rw [if_neg (by omega)] at h
  cases h2 : gt sm s.other with
  | none => simp [h2] at h
  | some o =>
    cases o with
    | none => exact .inl rfl
    | some c =>
      simp only [h2] at h
      by_cases q2 : c < a + s.change
      · rw [if_pos q2] at h
        cases h
      · exact .inr ⟨c, rfl, by omega⟩
def rai1 (b : MS) (s : St5) : MS :=
  match rai b.sm s with
  | none => b
  | some x => ⟨put b.sm s.other (some x), put b.cm s.other s, some s.other⟩
def raiR (ss : List St5) (b : MS) : MS := ss.foldl rai1 ⟨b.sm, b.cm, none⟩
/-- what a step loses -/
def los (s : St5) : Int := -s.change
structure MInv (ss : List St5) (v0 s0 : Int) (b : MS) (r : Int → Nat) (k i : Nat) : Prop where
  num : ∀ v x, gt b.sm v = some (some x) → 0 ≤ x ∧ Can ss v0 s0 v x
  inf : ∀ v, gt b.sm v = some none → ∀ N : Int, ∃ y, N ≤ y ∧ Can ss v0 s0 v y
  infc : ∀ s ∈ ss, gt b.sm s.one = some none → gt b.sm s.other = some none
  cm : ∀ v s, gt b.cm v = some s → s ∈ ss ∧ s.other = v ∧ r v ≤ r s.one + 1 ∧ ∃ a c, gt b.sm s.one = some (some a) ∧ gt b.sm v = some (some c) ∧ c ≤ a + s.change
  ini : ∀ v, gt b.cm v = none → gt b.sm v = some none ∨ r v = 0
  beg : gt b.sm v0 = some none ∨ ∃ x, gt b.sm v0 = some (some x) ∧ s0 ≤ x
  le : ∀ v, r v ≤ k
  neg : ∀ v L, L ≠ [] → BackCh b.cm v L v → (L.map los).sum < 0
  ok : ∀ j s a, ss[j]? = some s → gt b.sm s.one = some (some a) → 0 ≤ a + s.change → r s.one < (if j < i then k else k - 1) → gt b.sm s.other = some none ∨ ∃ c, gt b.sm s.other = some (some c) ∧ a + s.change ≤ c
  lt0 : b.lt = none → ∀ v, r v ≤ k - 1
  lt1 : ∀ v, b.lt = some v → r v = k ∧ (gt b.cm v).isSome = true
theorem MInv.step {ss : List St5} {v0 s0 : Int} {b : MS} {r : Int → Nat} {k i : Nat} {s : St5} (h : MInv ss v0 s0 b r k i) (hk : 1 ≤ k) (hs : ss[i]? = some s) : ∃ r', MInv ss v0 s0 (rai1 b s) r' k (i + 1) := by
  have hm : s ∈ ss := mem_of_get hs
  have wide : ∀ {j : Nat} {t : St5}, j ≠ i → r t.one < (if j < i + 1 then k else k - 1) → r t.one < (if j < i then k else k - 1) := fun {j t} q hr => by
    by_cases q2 : j < i
    · rw [if_pos q2]
      rw [if_pos (by omega)] at hr
      exact hr
    · rw [if_neg q2]
      rw [if_neg (by omega)] at hr
      exact hr
  unfold rai1
  cases hl : rai b.sm s with
  | none =>
    refine ⟨r, h.num, h.inf, h.infc, h.cm, h.ini, h.beg, h.le, h.neg, fun j t a hj ha h0 hr => ?_, h.lt0, h.lt1⟩
    by_cases q : j = i
    · subst q
      rw [hs] at hj
      cases hj
      exact rai_no hl ha h0
    · exact h.ok j t a hj ha h0 (wide q hr)
  | some x =>
    obtain ⟨a, ha, rfl, x0, hdec⟩ := rai_is hl
    have hone : gt b.sm s.other ≠ some none := fun z => by
      rcases hdec with z2 | ⟨c, z2, _⟩ <;> rw [z] at z2 <;> cases z2
    -- its begin was raised not long ago
    have hr1 : k - 1 ≤ r s.one := by
      refine Nat.le_of_not_lt fun z => ?_
      rcases h.ok i s a hs ha x0 (by rw [if_neg (Nat.lt_irrefl i)]; exact z) with z2 | ⟨c, hc, hle⟩
      · exact hone z2
      · rcases hdec with z2 | ⟨c', z2, z3⟩
        · rw [z2] at hc
          cases hc
        · rw [z2] at hc
          cases hc
          omega
    let r' : Int → Nat := fun v => if s.other = v then k else r v
    have hrr : ∀ v, r v ≤ r' v := fun v => by
      show r v ≤ if s.other = v then k else r v
      split
      · exact h.le v
      · exact Nat.le_refl _
    have r'e : r' s.other = k := if_pos rfl
    have r'n : ∀ v, s.other ≠ v → r' v = r v := fun v q => if_neg q
    have sme : gt (put b.sm s.other (some (a + s.change))) s.other = some (some (a + s.change)) := by rw [gt_put, if_pos rfl]
    have smn : ∀ v, s.other ≠ v → gt (put b.sm s.other (some (a + s.change))) v = gt b.sm v := fun v q => by rw [gt_put, if_neg q]
    -- what stands of the values: not less than before
    have grow : ∀ v c, gt b.sm v = some (some c) → ∃ c', gt (put b.sm s.other (some (a + s.change))) v = some (some c') ∧ c ≤ c' := fun v c hc => by
      by_cases q : s.other = v
      · subst q
        rcases hdec with z2 | ⟨c', z2, z3⟩
        · rw [z2] at hc
          cases hc
        · rw [z2] at hc
          cases hc
          exact ⟨_, sme, by omega⟩
      · exact ⟨c, by rw [smn v q]; exact hc, Int.le_refl _⟩
    refine ⟨r', ?_, ?_, ?_, ?_, ?_, ?_, ?_, ?_, ?_, fun z => (Option.some_ne_none _ z).elim, ?_⟩
    · intro v x hv
      by_cases q : s.other = v
      · subst q
        rw [sme] at hv
        cases hv
        exact ⟨x0, (h.num s.one a ha).2.trans (.one hm x0)⟩
      · rw [smn v q] at hv
        exact h.num v x hv
    · intro v hv
      by_cases q : s.other = v
      · subst q
        rw [sme] at hv
        cases hv
      · rw [smn v q] at hv
        exact h.inf v hv
    · intro t ht hv
      have q : s.other ≠ t.one := fun q => by
        rw [← q, sme] at hv
        cases hv
      rw [smn _ q] at hv
      have := h.infc t ht hv
      rw [smn _ fun q2 => hone (by rw [q2]; exact this)]
      exact this
    · intro v t hv
      rw [gt_put] at hv
      by_cases q : s.other = v
      · subst q
        rw [if_pos rfl] at hv
        cases hv
        refine ⟨hm, rfl, ?_, ?_⟩
        · rw [r'e]
          have := hrr s.one
          omega
        · obtain ⟨a', h1, h2⟩ := grow s.one a ha
          exact ⟨a', a + s.change, h1, sme, by omega⟩
      · rw [if_neg q] at hv
        obtain ⟨h1, h2, h3, a', c', h4, h5, h6⟩ := h.cm v t hv
        refine ⟨h1, h2, ?_, ?_⟩
        · rw [r'n v q]
          have := hrr t.one
          omega
        · obtain ⟨a2, g1, g2⟩ := grow t.one a' h4
          exact ⟨a2, c', g1, by rw [smn v q]; exact h5, by omega⟩
    · intro v hv
      rw [gt_put] at hv
      by_cases q : s.other = v
      · rw [if_pos q] at hv
        cases hv
      · rw [if_neg q] at hv
        rw [r'n v q]
        exact (h.ini v hv).imp (fun z => by show gt (put b.sm s.other (some (a + s.change))) v = _; rw [smn v q]; exact z) id
    · rcases h.beg with z | ⟨x, z, z2⟩
      · exact .inl (by show gt (put b.sm s.other (some (a + s.change))) v0 = _; rw [smn _ fun q => hone (by rw [q]; exact z)]; exact z)
      · obtain ⟨x', g1, g2⟩ := grow v0 x z
        exact .inr ⟨x', g1, by omega⟩
    · intro v
      by_cases q : s.other = v
      · rw [← q, r'e]
        exact Nat.le_refl _
      · rw [r'n v q]
        exact h.le v
    · intro v L hL hb
      by_cases hz : s ∈ L
      · let S : Int → Int := fun p => -(match gt b.sm p with | some (some c) => c | _ => a + s.change - 1)
        have Sv : ∀ p c, gt b.sm p = some (some c) → S p = -c := fun p c hp => by
          show -(match gt b.sm p with | some (some c) => c | _ => a + s.change - 1) = -c
          rw [hp]
        have hSz : los s < S s.other - S s.one := by
          rw [Sv _ _ ha]
          unfold los
          rcases hdec with z2 | ⟨c', z2, z3⟩
          · have : S s.other = -(a + s.change - 1) := by
              show -(match gt b.sm s.other with | some (some c) => c | _ => a + s.change - 1) = _
              rw [z2]
            omega
          · rw [Sv _ _ z2]
            omega
        have hall : ∀ v t, gt (put b.cm s.other s) v = some t → los t ≤ S v - S t.one := by
          intro v t hv
          rw [gt_put] at hv
          by_cases q : s.other = v
          · rw [if_pos q] at hv
            cases hv
            subst q
            omega
          · rw [if_neg q] at hv
            obtain ⟨_, _, _, a', c', h4, h5, h6⟩ := h.cm v t hv
            rw [Sv _ _ h4, Sv _ _ h5]
            unfold los
            omega
        have := back_sum_lt (W := los) S s hall hSz (by rw [gt_put, if_pos rfl]) v L v hb hz (fun v t hv => by
          rw [gt_put] at hv
          by_cases q : s.other = v
          · rw [if_pos q] at hv
            cases hv
            exact q
          · rw [if_neg q] at hv
            exact (h.cm v t hv).2.1)
        omega
      · exact h.neg v L hL (back_old v L v hb hz)
    · intro j t a' hj ha' h0 hr
      by_cases q : s.other = t.one
      · rw [← q, r'e] at hr
        split at hr <;> omega
      · have ha0 : gt b.sm t.one = some (some a') := by
          have z : gt (put b.sm s.other (some (a + s.change))) t.one = some (some a') := ha'
          rw [smn _ q] at z
          exact z
        rw [r'n _ q] at hr
        have old : j ≠ i → gt (put b.sm s.other (some (a + s.change))) t.other = some none ∨ ∃ c, gt (put b.sm s.other (some (a + s.change))) t.other = some (some c) ∧ a' + t.change ≤ c := fun qj => by
          rcases h.ok j t a' hj ha0 h0 (wide qj hr) with z | ⟨c, z, z2⟩
          · exact .inl (by rw [smn _ fun q => hone (by rw [q]; exact z)]; exact z)
          · obtain ⟨c', g1, g2⟩ := grow t.other c z
            exact .inr ⟨c', g1, by omega⟩
        by_cases q4 : j = i
        · subst q4
          rw [hs] at hj
          cases hj
          rw [ha] at ha0
          cases ha0
          exact .inr ⟨_, sme, Int.le_refl _⟩
        · exact old q4
    · intro v hv
      have : s.other = v := Option.some.inj hv
      subst this
      exact ⟨r'e, by show (gt (put b.cm s.other s) s.other).isSome = true; rw [gt_put, if_pos rfl]; rfl⟩
theorem MInv.go {ss : List St5} {v0 s0 : Int} {k : Nat} (hk : 1 ≤ k) : ∀ (zs : List St5) (i : Nat) (b : MS) (r : Int → Nat), ss.drop i = zs → MInv ss v0 s0 b r k i → ∃ r', MInv ss v0 s0 (zs.foldl rai1 b) r' k ss.length
  | [], i, b, r, e, h => by
    have hi : ss.length ≤ i := List.drop_eq_nil_iff.mp e
    refine ⟨r, h.num, h.inf, h.infc, h.cm, h.ini, h.beg, h.le, h.neg, fun j s a hj ha h0 hr => h.ok j s a hj ha h0 ?_, h.lt0, h.lt1⟩
    have jl := (List.getElem?_eq_some_iff.mp hj).1
    rw [if_pos jl] at hr
    rw [if_pos (by omega)]
    exact hr
  | z :: zs, i, b, r, e, h => by
    have hz : ss[i]? = some z := by
      have : (ss.drop i)[0]? = some z := by rw [e]; rfl
      rw [List.getElem?_drop] at this
      exact this
    obtain ⟨r', h'⟩ := h.step hk hz
    have e' : ss.drop (i + 1) = zs := by
      rw [← List.drop_drop, e]
      rfl
    exact MInv.go hk zs (i + 1) _ r' e' h'
theorem MInv.begin {ss : List St5} {v0 s0 : Int} (h0 : 0 ≤ s0) : MInv ss v0 s0 ⟨[(v0, some s0)], [], none⟩ (fun _ => 0) 1 0 := by
  have g : ∀ v o, gt [(v0, some s0)] v = some o → v = v0 ∧ o = some s0 := fun v o hv => by
    have hv' : (if v0 = v then some (some s0) else none) = some o := hv
    by_cases q : v0 = v
    · rw [if_pos q] at hv'
      exact ⟨q.symm, (Option.some.inj hv').symm⟩
    · rw [if_neg q] at hv'
      cases hv'
  refine ⟨fun v x hv => ?_, fun v hv => ?_, fun s _ hv => ?_, (fun v s h => by cases h), fun v _ => .inr rfl, .inr ⟨s0, by show (if v0 = v0 then _ else _) = _; rw [if_pos rfl], Int.le_refl _⟩, fun _ => Nat.zero_le _, fun v L hL hb => ?_, fun j s a _ _ _ hr => ?_, fun _ _ => Nat.zero_le _, (fun v h => by cases h)⟩
  · obtain ⟨rfl, e⟩ := g v _ hv
    cases e
    exact ⟨h0, .rfl'⟩
  · have := (g v _ hv).2
    cases this
  · have := (g _ _ hv).2
    cases this
  · cases L with
    | nil => exact absurd rfl hL
    | cons s L =>
      have := hb.1
      cases this
  · have h0 : (if j < 0 then 1 else 1 - 1) = 0 := by rw [if_neg (Nat.not_lt_zero j)]
    rw [h0] at hr
    exact absurd hr (Nat.not_lt_zero _)
/-- behind a round the next one begins -/
theorem MInv.next {ss : List St5} {v0 s0 : Int} {b : MS} {r : Int → Nat} {k : Nat} (hk : 1 ≤ k) (h : MInv ss v0 s0 b r k ss.length) : MInv ss v0 s0 ⟨b.sm, b.cm, none⟩ r (k + 1) 0 := by
  refine ⟨h.num, h.inf, h.infc, h.cm, h.ini, h.beg, fun v => Nat.le_succ_of_le (h.le v), h.neg, fun j s a hj ha h0 hr => h.ok j s a hj ha h0 ?_, fun _ v => h.le v, (fun v z => by cases z)⟩
  rw [if_neg (Nat.not_lt_zero j)] at hr
  rw [if_pos (List.getElem?_eq_some_iff.mp hj).1]
  exact hr
theorem MInv.round {ss : List St5} {v0 s0 : Int} {b : MS} {r : Int → Nat} {k : Nat} (hk : 1 ≤ k) (h : MInv ss v0 s0 ⟨b.sm, b.cm, none⟩ r k 0) : ∃ r', MInv ss v0 s0 (raiR ss b) r' k ss.length :=
  MInv.go hk ss 0 _ r rfl h
/-- the greatest stocks with which one can come to places; None for no greatest -/
structure MOk (ss : List St5) (v0 s0 : Int) (sm : List (Int × Option Int)) : Prop where
  num : ∀ v x, gt sm v = some (some x) → 0 ≤ x ∧ Can ss v0 s0 v x
  inf : ∀ v, gt sm v = some none → ∀ N : Int, ∃ y, N ≤ y ∧ Can ss v0 s0 v y
  all : ∀ v y, Can ss v0 s0 v y → gt sm v = some none ∨ ∃ x, gt sm v = some (some x) ∧ y ≤ x
theorem MInv.done {ss : List St5} {v0 s0 : Int} {b : MS} {r : Int → Nat} {k : Nat} (hk : 1 ≤ k) (h : MInv ss v0 s0 b r k ss.length) (h0 : b.lt = none) : MOk ss v0 s0 b.sm := by
  refine ⟨h.num, h.inf, ?_⟩
  have cl : ∀ s ∈ ss, ∀ a, gt b.sm s.one = some (some a) → 0 ≤ a + s.change → gt b.sm s.other = some none ∨ ∃ c, gt b.sm s.other = some (some c) ∧ a + s.change ≤ c := by
    intro s hs a ha hn
    obtain ⟨j, hj⟩ := List.getElem?_of_mem hs
    refine h.ok j s a hj ha hn ?_
    rw [if_pos (List.getElem?_eq_some_iff.mp hj).1]
    have := h.lt0 h0 s.one
    omega
  have go : ∀ (L : List St5) (v x u y : Int), (gt b.sm v = some none ∨ ∃ z, gt b.sm v = some (some z) ∧ x ≤ z) → Wlk5 v L u → (∀ s ∈ L, s ∈ ss) → gon x L = some y → gt b.sm u = some none ∨ ∃ z, gt b.sm u = some (some z) ∧ y ≤ z := by
    intro L
    induction L with
    | nil =>
      intro v x u y hv hw _ hg
      have e1 : v = u := hw
      have e2 : x = y := Option.some.inj hg
      subst e1 e2
      exact hv
    | cons s L ih =>
      intro v x u y hv hw hsub hg
      obtain ⟨rfl, hw2⟩ := hw
      have hg' : (if x + s.change < 0 then none else gon (x + s.change) L) = some y := hg
      by_cases q : x + s.change < 0
      · rw [if_pos q] at hg'
        cases hg'
      · rw [if_neg q] at hg'
        refine ih s.other (x + s.change) u y ?_ hw2 (fun t ht => hsub t (List.mem_cons_of_mem _ ht)) hg'
        rcases hv with z | ⟨z, z1, z2⟩
        · exact .inl (h.infc s (hsub s List.mem_cons_self) z)
        · rcases cl s (hsub s List.mem_cons_self) z z1 (by omega) with y1 | ⟨c, y1, y2⟩
          · exact .inl y1
          · exact .inr ⟨c, y1, by omega⟩
  rintro v y ⟨L, h1, h2, h3⟩
  exact go L v0 s0 v y h.beg h1 h2 h3
end AA

set_option Elab.async false
set_option linter.all false
set_option maxRecDepth 100000
set_option maxHeartbeats 4000000
/-! Rings that gain, and when the rounds of greatest stocks end. -/
namespace AA
open PySem PySem.Spec PyProof.Rows L2 Evl
theorem chain_go {ss : List St5} {v0 s0 : Int} {b : MS} {r : Int → Nat} {k i : Nat} (h : MInv ss v0 s0 b r k i) : ∀ (M : List St5) (q e x : Int), M ≠ [] → BackCh b.cm q M e → gt b.sm e = some (some x) → ∃ y c, gon x M.reverse = some y ∧ gt b.sm q = some (some c) ∧ c ≤ y ∧ ∀ s ∈ M, s ∈ ss
  | [], q, e, x, hM, _, _ => absurd rfl hM
  | s :: M, q, e, x, _, hb, hx => by
    obtain ⟨h1, h2⟩ := hb
    obtain ⟨hs, _, _, a, c, ha, hc, hle⟩ := h.cm q s h1
    have c0 := (h.num q c hc).1
    cases M with
    | nil =>
      have e1 : s.one = e := h2
      rw [e1, hx] at ha
      cases ha
      refine ⟨x + s.change, c, ?_, hc, by omega, fun t ht => by rw [List.mem_singleton.mp ht]; exact hs⟩
      show (if x + s.change < 0 then none else gon (x + s.change) []) = _
      rw [if_neg (by omega)]
      rfl
    | cons t M =>
      obtain ⟨y, a', g1, g2, g3, g4⟩ := chain_go h (t :: M) s.one e x (by simp) h2 hx
      rw [ha] at g2
      cases g2
      refine ⟨y + s.change, c, ?_, hc, by omega, fun u hu => (List.mem_cons.mp hu).elim (fun z => by rw [z]; exact hs) (g4 u)⟩
      rw [List.reverse_cons, gon_app, g1]
      show (if y + s.change < 0 then none else gon (y + s.change) []) = _
      rw [if_neg (by omega)]
      rfl
theorem los_sum : ∀ L : List St5, (L.map los).sum = -(L.map (·.change)).sum
  | [] => rfl
  | s :: L => by
    rw [List.map_cons, List.map_cons, List.sum_cons, List.sum_cons, los_sum L]
    unfold los
    omega
/-- the ring that is told gains -/
theorem rbk_gain {ss : List St5} {v0 s0 : Int} {b : MS} {r : Int → Nat} {k i : Nat} (h : MInv ss v0 s0 b r k i) (hz : b.cm.length ≤ 63) {v : Int} {ws : List St5} (hr : rbk b.cm v = some ws) : ∃ (p x y : Int) (z : St5) (zs : List St5), ws = z :: zs ∧ z.one = p ∧ Wlk5 p ws p ∧ (∀ s ∈ ws, s ∈ ss) ∧ gt b.sm p = some (some x) ∧ gon x ws = some y ∧ x < y := by
  have ho : ∀ v s, gt b.cm v = some s → s.other = v := fun v s hv => (h.cm v s hv).2.1
  obtain ⟨h1, h2⟩ := trl_end ho 64 [] v .nil (by show _ ≤ 64 + 0; omega)
  unfold rbk at hr
  generalize (trl b.cm 64 [] v).1 = seen at h1 h2
  generalize (trl b.cm 64 [] v).2 = p at h1 h2 hr
  rcases h2 with h2 | h2
  · rw [h2] at hr
    cases hr
  obtain ⟨s, L, g1, g2, g3, g4, g5⟩ := h1.ring ho h2
  have hl := h1.len
  rw [g1] at hr
  have hr' : some (rg b.cm p 64 s).reverse = some ws := hr
  rw [rg_of ho 64 p s L g2 g3 (by rw [List.length_cons] at g5; omega)] at hr'
  obtain rfl := Option.some.inj hr'
  obtain ⟨_, _, _, a, c, _, hc, _⟩ := h.cm p s g1
  obtain ⟨y, c', q1, q2, q3, q4⟩ := chain_go h (s :: L) p p c (by simp) g2 hc
  have hw : Wlk5 p (s :: L).reverse p := back_walk ho p _ p g2
  have hn := h.neg p (s :: L) (by simp) g2
  rw [los_sum] at hn
  have hs := gon_sum _ q1
  rw [List.map_reverse, List.sum_reverse] at hs
  cases hrv : (s :: L).reverse with
  | nil => simp at hrv
  | cons z zs =>
    rw [hrv] at hw q1
    refine ⟨p, c, y, z, zs, rfl, hw.1, hw, fun t ht => q4 t ?_, hc, q1, by omega⟩
    rw [← hrv] at ht
    exact List.mem_reverse.mp ht
/-- round it as often as one likes -/
theorem gain_round {ss : List St5} {p x y : Int} (h : Can ss p x p y) (hl : x < y) : ∀ n : Nat, ∃ z, x + n ≤ z ∧ Can ss p x p z
  | 0 => ⟨x, by omega, .rfl'⟩
  | n + 1 => by
    obtain ⟨z, h1, h2⟩ := gain_round h hl n
    have := h.mono (x' := z) (by omega)
    exact ⟨_, by omega, h2.trans this⟩
theorem rch_can {ss : List St5} {p u : Int} (h : Rch (ss.map fun s => (s.one, s.other)) [p] u) : ∃ L, Wlk5 p L u ∧ ∀ s ∈ L, s ∈ ss := by
  induction h with
  | base h => exact ⟨[], (List.mem_singleton.mp h).symm, fun s hs => absurd hs (by simp)⟩
  | step _ e ih =>
    obtain ⟨L, h1, h2⟩ := ih
    obtain ⟨s, hs, e2⟩ := List.mem_map.mp e
    cases e2
    exact ⟨L ++ [s], (wlk5_app _ _ _ _).mpr ⟨s.one, h1, rfl, rfl⟩, fun t ht => (List.mem_append.mp ht).elim (h2 t) fun z => by rw [List.mem_singleton.mp z]; exact hs⟩
theorem gain_all {ss : List St5} {v0 s0 p x y u : Int} (h0 : Can ss v0 s0 p x) (h : Can ss p x p y) (hl : x < y) (hr : Rch (ss.map fun s => (s.one, s.other)) [p] u) (N : Int) : ∃ z, N ≤ z ∧ Can ss v0 s0 u z := by
  obtain ⟨L, h1, h2⟩ := rch_can hr
  obtain ⟨B, b0, hB⟩ := gon_big L
  obtain ⟨z, g1, g2⟩ := gain_round h hl (N.natAbs + B.natAbs + x.natAbs)
  obtain ⟨w, g3, g4⟩ := hB z (by omega)
  exact ⟨w, by omega, (h0.trans g2).trans ⟨L, h1, h2, g3⟩⟩
/-! ### what is cleared -/
def drp {α : Type} (l : List (Int × α)) (p : Int) : List (Int × α) := l.filter fun e => decide (e.1 ≠ p)
theorem gt_drp {α : Type} {p : Int} (q : Int) : ∀ l : List (Int × α), gt (drp l p) q = if p = q then none else gt l q
  | [] => by
    show none = _
    split <;> rfl
  | e :: l => by
    have ih := gt_drp (p := p) q l
    unfold drp at ih ⊢
    by_cases h : e.1 = p
    · rw [List.filter_cons_of_neg (by simpa using h), ih]
      show _ = if p = q then none else (if e.1 = q then some e.2 else gt l q)
      by_cases h2 : p = q
      · rw [if_pos h2, if_pos h2]
      · rw [if_neg h2, if_neg h2, if_neg (by rw [h]; exact h2)]
    · rw [List.filter_cons_of_pos (by simpa using h)]
      show (if e.1 = q then some e.2 else gt (List.filter _ l) q) = if p = q then none else (if e.1 = q then some e.2 else gt l q)
      rw [ih]
      by_cases h2 : p = q
      · rw [if_pos h2, if_pos h2, if_neg (by rw [← h2]; exact h)]
      · rw [if_neg h2, if_neg h2]
def clS (zs : List Int) (sm : List (Int × Option Int)) : List (Int × Option Int) := zs.foldl (fun m z => put m z none) sm
def clC (zs : List Int) (cm : List (Int × St5)) : List (Int × St5) := zs.foldl drp cm
theorem clS_gt (v : Int) : ∀ (zs : List Int) (sm : List (Int × Option Int)), gt (clS zs sm) v = if v ∈ zs then some none else gt sm v
  | [], sm => by rw [if_neg (by simp)]; rfl
  | z :: zs, sm => by
    show gt (clS zs (put sm z none)) v = _
    rw [clS_gt v zs, gt_put]
    by_cases h : v ∈ zs
    · rw [if_pos h, if_pos (List.mem_cons_of_mem _ h)]
    · rw [if_neg h]
      by_cases h2 : z = v
      · rw [if_pos h2, if_pos (by rw [h2]; exact List.mem_cons_self)]
      · rw [if_neg h2, if_neg (fun q => (List.mem_cons.mp q).elim (fun y => h2 y.symm) h)]
theorem clC_gt (v : Int) : ∀ (zs : List Int) (cm : List (Int × St5)), gt (clC zs cm) v = if v ∈ zs then none else gt cm v
  | [], cm => by rw [if_neg (by simp)]; rfl
  | z :: zs, cm => by
    show gt (clC zs (drp cm z)) v = _
    rw [clC_gt v zs, gt_drp]
    by_cases h : v ∈ zs
    · rw [if_pos h, if_pos (List.mem_cons_of_mem _ h)]
    · rw [if_neg h]
      by_cases h2 : z = v
      · rw [if_pos h2, if_pos (by rw [h2]; exact List.mem_cons_self)]
      · rw [if_neg h2, if_neg (fun q => (List.mem_cons.mp q).elim (fun y => h2 y.symm) h)]
theorem back_clC {zs : List Int} {cm : List (Int × St5)} : ∀ (v : Int) (L : List St5) (e : Int), BackCh (clC zs cm) v L e → BackCh cm v L e
  | v, [], e, h => h
  | v, s :: L, e, h => by
    have h1 := h.1
    rw [clC_gt] at h1
    split at h1
    · cases h1
    · exact ⟨h1, back_clC s.one L e h.2⟩
theorem MInv.clear {ss : List St5} {v0 s0 : Int} {b : MS} {r : Int → Nat} {k : Nat} (hk : 1 ≤ k) (h : MInv ss v0 s0 b r k ss.length) (hz : b.cm.length ≤ 63) {v : Int} {ws : List St5} (hr : rbk b.cm v = some ws) {p : Int} {z : St5} {ys : List St5} (hw : ws = z :: ys) (hp : z.one = p) {zs : List Int} (hzs : ∀ u, u ∈ zs ↔ Rch (ss.map fun s => (s.one, s.other)) [p] u) :
    MInv ss v0 s0 ⟨clS zs b.sm, clC zs b.cm, none⟩ r (k + 1) 0 := by
  obtain ⟨p', x, y, z', zs', e1, e2, w1, w2, gx, gy, hl⟩ := rbk_gain h hz hr
  rw [hw] at e1
  obtain ⟨rfl, rfl⟩ := List.cons.inj e1
  rw [hp] at e2
  subst e2
  have h' := h.next hk
  have hcan : Can ss p x p y := ⟨ws, w1, w2, gy⟩
  have h0 := (h.num p x gx).2
  have cl : ∀ s ∈ ss, s.one ∈ zs → s.other ∈ zs := fun s hs hz => (hzs _).mpr (((hzs _).mp hz).step (List.mem_map.mpr ⟨s, hs, rfl⟩))
  have sme : ∀ {u : Int}, u ∈ zs → gt (clS zs b.sm) u = some none := fun hu => by rw [clS_gt, if_pos hu]
  have smn : ∀ {u : Int}, u ∉ zs → gt (clS zs b.sm) u = gt b.sm u := fun hu => by rw [clS_gt, if_neg hu]
  have num1 : ∀ {u x : Int}, gt (clS zs b.sm) u = some (some x) → u ∉ zs ∧ gt b.sm u = some (some x) := fun {u x} hu => by
    by_cases q : u ∈ zs
    · rw [sme q] at hu
      cases hu
    · rw [smn q] at hu
      exact ⟨q, hu⟩
  refine ⟨fun u x hu => h.num u x (num1 hu).2, fun u hu N => ?_, fun s hs hu => ?_, fun u s hu => ?_, fun u hu => ?_, ?_, h'.le, fun u L hL hb => h.neg u L hL (back_clC u L u hb), fun j s a hj ha h0 hr => ?_, h'.lt0, (fun u q => by cases q)⟩
  · by_cases q : u ∈ zs
    · exact gain_all h0 hcan hl ((hzs u).mp q) N
    · rw [smn q] at hu
      exact h.inf u hu N
  · by_cases q : s.one ∈ zs
    · exact sme (cl s hs q)
    · rw [smn q] at hu
      have := h.infc s hs hu
      by_cases q2 : s.other ∈ zs
      · exact sme q2
      · rw [smn q2]
        exact this
  · rw [clC_gt] at hu
    by_cases q : u ∈ zs
    · rw [if_pos q] at hu
      cases hu
    · rw [if_neg q] at hu
      obtain ⟨g1, g2, g3, a, c, g4, g5, g6⟩ := h.cm u s hu
      have q1 : s.one ∉ zs := fun z => q (by rw [← g2]; exact cl s g1 z)
      exact ⟨g1, g2, g3, a, c, by rw [smn q1]; exact g4, by rw [smn q]; exact g5, g6⟩
  · by_cases q : u ∈ zs
    · exact .inl (sme q)
    · rw [clC_gt, if_neg q] at hu
      exact (h.ini u hu).imp (fun z => by rw [smn q]; exact z) id
  · by_cases q : v0 ∈ zs
    · exact .inl (sme q)
    · rw [smn q]
      exact h.beg
  · obtain ⟨q, ha'⟩ := num1 ha
    by_cases q2 : s.other ∈ zs
    · exact .inl (sme q2)
    · rw [smn q2]
      exact h'.ok j s a hj ha' h0 hr
/-! ### when it ends -/
def nn (U : List Int) (sm : List (Int × Option Int)) : Nat := (U.filter fun v => decide (gt sm v ≠ some none)).length
theorem filter_lt {α : Type} {f g : α → Bool} (h : ∀ x, g x = true → f x = true) {a : α} (ha : f a = true) (hb : g a = false) : ∀ {l : List α}, a ∈ l → (l.filter g).length < (l.filter f).length
  | x :: l, hm => by
    have le : (l.filter g).length ≤ (l.filter f).length := by
      clear hm
      induction l with
      | nil => exact Nat.le_refl _
      | cons y l ih =>
        by_cases q : g y = true
        · rw [List.filter_cons_of_pos q, List.filter_cons_of_pos (h y q)]
          exact Nat.succ_le_succ ih
        · rw [List.filter_cons_of_neg q]
          by_cases q2 : f y = true
          · rw [List.filter_cons_of_pos q2]
            exact Nat.le_succ_of_le ih
          · rw [List.filter_cons_of_neg q2]
            exact ih
    rcases List.mem_cons.mp hm with rfl | hm
    · rw [List.filter_cons_of_pos ha, List.filter_cons_of_neg (by rw [hb]; exact Bool.false_ne_true)]
      exact Nat.lt_succ_of_le le
    · have ih := filter_lt h ha hb hm
      by_cases q : g x = true
      · rw [List.filter_cons_of_pos q, List.filter_cons_of_pos (h x q)]
        exact Nat.succ_lt_succ ih
      · rw [List.filter_cons_of_neg q]
        by_cases q2 : f x = true
        · rw [List.filter_cons_of_pos q2]
          exact Nat.lt_succ_of_lt ih
        · rw [List.filter_cons_of_neg q2]
          exact ih
theorem nn_clear {U zs : List Int} {sm : List (Int × Option Int)} {p x : Int} (hU : p ∈ U) (hp : p ∈ zs) (hx : gt sm p = some (some x)) : nn U (clS zs sm) < nn U sm := by
  unfold nn
  refine filter_lt (fun v hv => ?_) (a := p) (by rw [decide_eq_true_eq, hx]; exact fun z => by cases z) (by rw [clS_gt, if_pos hp]; simp) hU
  rw [decide_eq_true_eq] at hv ⊢
  rw [clS_gt] at hv
  split at hv
  · exact absurd rfl hv
  · exact hv
theorem rai1_none {b : MS} {s : St5} {v : Int} : gt (rai1 b s).sm v = some none ↔ gt b.sm v = some none := by
  unfold rai1
  cases h : rai b.sm s with
  | none => exact Iff.rfl
  | some x =>
    obtain ⟨a, ha, _, _, hd⟩ := rai_is h
    show gt (put b.sm s.other (some x)) v = _ ↔ _
    rw [gt_put]
    by_cases q : s.other = v
    · subst q
      rw [if_pos rfl]
      refine ⟨(fun z => by cases z), fun z => ?_⟩
      rcases hd with z2 | ⟨c, z2, _⟩ <;> rw [z] at z2 <;> cases z2
    · rw [if_neg q]
theorem rai_none {v : Int} : ∀ (zs : List St5) (b : MS), gt (zs.foldl rai1 b).sm v = some none ↔ gt b.sm v = some none
  | [], _ => Iff.rfl
  | z :: zs, b => (rai_none zs _).trans rai1_none
theorem nn_round {U : List Int} {ss : List St5} {b : MS} : nn U (raiR ss b).sm = nn U b.sm := by
  unfold nn
  congr 1
  refine List.filter_congr fun v _ => ?_
  unfold raiR
  exact decide_eq_decide.mpr (not_congr (rai_none ss ⟨b.sm, b.cm, none⟩))
theorem MInv.inU {ss : List St5} {v0 s0 : Int} {b : MS} {r : Int → Nat} {k i : Nat} {U : List Int} (h : MInv ss v0 s0 b r k i) (h1 : v0 ∈ U) (h2 : ∀ s ∈ ss, s.other ∈ U) : ∀ v, (gt b.sm v).isSome = true → v ∈ U := fun v hv => by
  have go : ∀ {y : Int}, Can ss v0 s0 v y → v ∈ U := fun {y} ⟨L, w1, w2, _⟩ => by
    have : ∀ (L : List St5) (u : Int), u ∈ U → Wlk5 u L v → (∀ s ∈ L, s ∈ ss) → v ∈ U := by
      intro L
      induction L with
      | nil =>
        intro u hu hw _
        have e : u = v := hw
        rw [← e]
        exact hu
      | cons s L ih =>
        intro u hu hw hs
        exact ih s.other (h2 s (hs s List.mem_cons_self)) hw.2 fun t ht => hs t (List.mem_cons_of_mem _ ht)
    exact this L v0 h1 w1 w2
  cases hg : gt b.sm v with
  | none =>
    rw [hg] at hv
    cases hv
  | some o =>
    cases o with
    | none => exact go ((h.inf v hg 0).choose_spec.2)
    | some x => exact go (h.num v x hg).2
/-- where there is no ring yet the round is not yet a late one -/
theorem rbk_early {ss : List St5} {v0 s0 : Int} {b : MS} {r : Int → Nat} {k i : Nat} {U : List Int} (h : MInv ss v0 s0 b r k i) (hU : ∀ v, (gt b.sm v).isSome = true → v ∈ U) (hz : U.length ≤ 63) {v : Int} (hv : b.lt = some v) (hn : b.cm.length ≤ 63) (hr : rbk b.cm v = none) : k < U.length := by
  have ho : ∀ v s, gt b.cm v = some s → s.other = v := fun v s hv => (h.cm v s hv).2.1
  obtain ⟨h1, h2⟩ := trl_end ho 64 [] v .nil (by show _ ≤ 64 + 0; omega)
  unfold rbk at hr
  generalize (trl b.cm 64 [] v).1 = seen at h1 h2
  generalize (trl b.cm 64 [] v).2 = p at h1 h2 hr
  have hp : gt b.cm p = none := by
    cases hg : gt b.cm p with
    | none => rfl
    | some s =>
      rw [hg] at hr
      cases hr
  obtain ⟨hk, hsv⟩ := h.lt1 v hv
  obtain ⟨L, e1, e2⟩ := h1.way
  have hl := back_late (fun v s hv => (h.cm v s hv).2.2.1) v L p e2
  have hLs : L.length = seen.length := by rw [← e1, List.length_map]
  -- the end is a begin, and has a stock
  obtain ⟨a0, hpa⟩ : ∃ a, gt b.sm p = some (some a) := by
    have hne : L ≠ [] := by
      intro e
      rw [e] at e2
      have : v = p := e2
      rw [this, hp] at hsv
      cases hsv
    obtain ⟨M, t, rfl⟩ : ∃ M t, L = M ++ [t] := ⟨L.dropLast, L.getLast hne, (List.dropLast_concat_getLast hne).symm⟩
    obtain ⟨m, _, g1, g2⟩ := (back_app v M [t] p).mp e2
    obtain ⟨_, _, _, a, c, q2, _⟩ := h.cm m t g1
    have : t.one = p := g2
    rw [this] at q2
    exact ⟨a, q2⟩
  have hpU : p ∈ U := hU p (by rw [hpa]; rfl)
  have hp0 : r p = 0 := (h.ini p hp).resolve_left (by rw [hpa]; exact fun z => by cases z)
  have hsU : ∀ q ∈ seen, q ∈ U := fun q hq => by
    have := h1.sub q hq
    cases hg : gt b.cm q with
    | none =>
      rw [hg] at this
      cases this
    | some s =>
      obtain ⟨_, _, _, a, c, _, q2, _⟩ := h.cm q s hg
      exact hU q (by rw [q2]; rfl)
  have hpn : p ∉ seen := fun z => by
    have := h1.sub p z
    rw [hp] at this
    cases this
  have := nd_len (seen ++ [p]) U (List.nodup_append.mpr ⟨h1.nd, by simp, fun x hx y hy e => hpn (by rw [List.mem_singleton.mp hy] at e; exact e ▸ hx)⟩) fun q hq => (List.mem_append.mp hq).elim (hsU q) fun z => by rw [List.mem_singleton.mp z]; exact hpU
  rw [List.length_append, List.length_singleton] at this
  omega
/-- keys stand once each -/
def KOkM (b : MS) : Prop := (b.sm.map (·.1)).Nodup ∧ (b.cm.map (·.1)).Nodup
theorem KOkM.one {b : MS} {s : St5} (h : KOkM b) : KOkM (rai1 b s) := by
  unfold rai1
  split
  · exact h
  · exact ⟨put_nd h.1, put_nd h.2⟩
theorem KOkM.fold : ∀ (zs : List St5) (b : MS), KOkM b → KOkM (zs.foldl rai1 b)
  | [], _, h => h
  | z :: zs, b, h => KOkM.fold zs _ h.one
theorem clS_nd : ∀ (zs : List Int) (sm : List (Int × Option Int)), (sm.map (·.1)).Nodup → ((clS zs sm).map (·.1)).Nodup
  | [], _, h => h
  | z :: zs, sm, h => clS_nd zs _ (put_nd h)
theorem drp_nd {α : Type} {p : Int} {l : List (Int × α)} (h : (l.map (·.1)).Nodup) : ((drp l p).map (·.1)).Nodup := List.Sublist.nodup (List.Sublist.map _ (List.filter_sublist (l := l))) h
theorem clC_nd : ∀ (zs : List Int) (cm : List (Int × St5)), (cm.map (·.1)).Nodup → ((clC zs cm).map (·.1)).Nodup
  | [], _, h => h
  | z :: zs, cm, h => clC_nd zs _ (drp_nd h)
theorem MInv.few {ss : List St5} {v0 s0 : Int} {b : MS} {r : Int → Nat} {k i : Nat} {U : List Int} (h : MInv ss v0 s0 b r k i) (ho : KOkM b) (hU : ∀ v, (gt b.sm v).isSome = true → v ∈ U) : b.sm.length ≤ U.length ∧ b.cm.length ≤ U.length := by
  have h1 := nd_len (b.sm.map (·.1)) U ho.1 fun q hq => hU q (gt_mem.mpr hq)
  have h2 := nd_len (b.cm.map (·.1)) U ho.2 fun q hq => by
    cases hg : gt b.cm q with
    | none =>
      have := gt_mem.mpr hq
      rw [hg] at this
      cases this
    | some s =>
      obtain ⟨_, _, _, a, c, _, q2, _⟩ := h.cm q s hg
      exact hU q (by rw [q2]; rfl)
  rw [List.length_map] at h1 h2
  exact ⟨h1, h2⟩
end AA

set_option Elab.async false
set_option linter.all false
set_option maxRecDepth 100000
set_option maxHeartbeats 4000000
/-! Going on for ever: rings that lose nothing, least stocks, lassos: without a heap. -/
namespace AA
open PySem PySem.Spec PyProof.Rows L2 Evl
def chg (L : List St5) : Int := (L.map (·.change)).sum
theorem chg_cons (s : St5) (L : List St5) : chg (s :: L) = s.change + chg L := by
  unfold chg
  rw [List.map_cons, List.sum_cons]
theorem chg_app (L M : List St5) : chg (L ++ M) = chg L + chg M := by
  unfold chg
  rw [List.map_append, List.sum_append]
theorem chg_nil : chg [] = 0 := rfl
theorem gon_chg {L : List St5} {x y : Int} (h : gon x L = some y) : y = x + chg L := gon_sum L h
theorem gon_cons {x : Int} {s : St5} {L : List St5} : gon x (s :: L) = if x + s.change < 0 then none else gon (x + s.change) L := rfl
/-- a walk can be gone just if no beginning of it takes more than there is -/
theorem gon_iff : ∀ (L : List St5) (x : Int), (gon x L).isSome = true ↔ ∀ P, P <+: L → P ≠ [] → 0 ≤ x + chg P
  | [], x => ⟨fun _ P hP hn => absurd (List.prefix_nil.mp hP) hn, fun _ => rfl⟩
  | s :: L, x => by
    rw [gon_cons]
    by_cases q : x + s.change < 0
    · rw [if_pos q]
      refine ⟨(fun z => by cases z), fun h => ?_⟩
      have := h [s] ⟨L, rfl⟩ (by simp)
      rw [chg_cons, chg_nil] at this
      omega
    · rw [if_neg q, gon_iff L]
      refine ⟨fun h P hP hn => ?_, fun h P hP hn => ?_⟩
      · cases P with
        | nil => exact absurd rfl hn
        | cons t P =>
          obtain ⟨e, hP'⟩ := List.cons_prefix_cons.mp hP
          subst e
          rw [chg_cons]
          cases P with
          | nil =>
            rw [chg_nil]
            omega
          | cons u P =>
            have := h (u :: P) hP' (by simp)
            omega
      · have := h (s :: P) (List.cons_prefix_cons.mpr ⟨rfl, hP⟩) (by simp)
        rw [chg_cons] at this
        omega
theorem pre_app {α : Type} {P A : List α} : ∀ {B : List α}, P <+: B ++ A → P <+: B ∨ ∃ P', P = B ++ P' ∧ P' <+: A
  | [], h => .inr ⟨P, rfl, h⟩
  | b :: B, h => by
    cases P with
    | nil => exact .inl (List.nil_prefix)
    | cons p P =>
      obtain ⟨e, h'⟩ := List.cons_prefix_cons.mp h
      subst e
      rcases pre_app h' with h2 | ⟨P', e2, h2⟩
      · exact .inl (List.cons_prefix_cons.mpr ⟨rfl, h2⟩)
      · exact .inr ⟨P', by rw [e2]; rfl, h2⟩
theorem least_pre : ∀ R : List St5, ∃ A B, R = A ++ B ∧ ∀ P, P <+: R → chg A ≤ chg P
  | [] => ⟨[], [], rfl, fun P h => by rw [List.prefix_nil.mp h]; exact Int.le_refl _⟩
  | s :: R => by
    obtain ⟨A, B, e, h⟩ := least_pre R
    by_cases q : 0 ≤ s.change + chg A
    · refine ⟨[], s :: R, rfl, fun P hP => ?_⟩
      cases P with
      | nil => exact Int.le_refl _
      | cons t P =>
        obtain ⟨e2, hP'⟩ := List.cons_prefix_cons.mp hP
        subst e2
        have := h P hP'
        rw [chg_nil, chg_cons]
        omega
    · refine ⟨s :: A, B, by rw [e]; rfl, fun P hP => ?_⟩
      rw [chg_cons]
      cases P with
      | nil =>
        rw [chg_nil]
        omega
      | cons t P =>
        obtain ⟨e2, hP'⟩ := List.cons_prefix_cons.mp hP
        subst e2
        have := h P hP'
        rw [chg_cons]
        omega
/-- a ring that loses nothing can be gone with nothing from one of its places -/
theorem rot_go {R : List St5} (h : 0 ≤ chg R) : ∃ A B, R = A ++ B ∧ (gon 0 (B ++ A)).isSome = true := by
  obtain ⟨A, B, e, hm⟩ := least_pre R
  refine ⟨A, B, e, (gon_iff _ _).mpr fun P hP hn => ?_⟩
  rcases pre_app hP with h1 | ⟨P', e1, h1⟩
  · obtain ⟨Q, eq⟩ := h1
    have := hm (A ++ P) ⟨Q, by rw [e, ← eq, List.append_assoc]⟩
    rw [chg_app] at this
    omega
  · obtain ⟨Q, eq⟩ := h1
    have := hm P' ⟨Q ++ B, by rw [e, ← eq, List.append_assoc]⟩
    rw [e, chg_app] at h
    rw [e1, chg_app]
    omega
/-- one can come back, by a step or more, to a place which one left with nothing -/
def Bck (ss : List St5) (v : Int) : Prop := ∃ L y, L ≠ [] ∧ Wlk5 v L v ∧ (∀ s ∈ L, s ∈ ss) ∧ gon 0 L = some y
/-- one can go on as long as one likes -/
def For (ss : List St5) (v x : Int) : Prop := ∀ n : Nat, ∃ L u y, Wlk5 v L u ∧ (∀ s ∈ L, s ∈ ss) ∧ gon x L = some y ∧ n ≤ L.length
theorem For.mono {ss : List St5} {v x x' : Int} (h : For ss v x) (l : x ≤ x') : For ss v x' := fun n => by
  obtain ⟨L, u, y, h1, h2, h3, h4⟩ := h n
  exact ⟨L, u, _, h1, h2, gon_mono L h3 l, h4⟩
theorem bck_for {ss : List St5} {v : Int} (h : Bck ss v) : For ss v 0 := fun n => by
  obtain ⟨L, y, ne, w1, w2, hg⟩ := h
  have y0 := gon_nn L (Int.le_refl 0) hg
  induction n with
  | zero => exact ⟨[], v, 0, rfl, fun s h => absurd h (by simp), rfl, Nat.le_refl _⟩
  | succ n ih =>
    obtain ⟨M, u, z, g1, g2, g3, g4⟩ := ih
    refine ⟨L ++ M, u, z + (y - 0), (wlk5_app _ _ _ _).mpr ⟨v, w1, g1⟩, fun s hs => (List.mem_append.mp hs).elim (w2 s) (g2 s), ?_, ?_⟩
    · rw [gon_app, hg]
      exact gon_mono M g3 y0
    · rw [List.length_append]
      have := List.length_pos_iff.mpr ne
      omega
theorem For.step {ss : List St5} {s : St5} {x N : Int} (h : For ss s.other x) (hs : s ∈ ss) (h0 : 0 ≤ N + s.change) (l : x ≤ N + s.change) : For ss s.one N := fun n => by
  obtain ⟨L, u, y, h1, h2, h3, h4⟩ := (h.mono l) n
  refine ⟨s :: L, u, y, ⟨rfl, h1⟩, fun t ht => (List.mem_cons.mp ht).elim (fun z => by rw [z]; exact hs) (h2 t), ?_, by rw [List.length_cons]; omega⟩
  rw [gon_cons, if_neg (by omega)]
  exact h3
/-! ### least stocks, raised step by step -/
structure ND where
  nd : List (Int × Int)
  ch : Bool
def rlx (nd : List (Int × Int)) (s : St5) : Option Int :=
  match gt nd s.other with
  | none => none
  | some x => match gt nd s.one with
    | none => some (max 0 (x - s.change))
    | some c => if max 0 (x - s.change) < c then some (max 0 (x - s.change)) else none
theorem rlx_is {nd : List (Int × Int)} {s : St5} {n : Int} (h : rlx nd s = some n) : ∃ x, gt nd s.other = some x ∧ n = max 0 (x - s.change) ∧ (gt nd s.one = none ∨ ∃ c, gt nd s.one = some c ∧ n < c) := by
  unfold rlx at h
  cases h1 : gt nd s.other with
  | none => simp [h1] at h
  | some x =>
    simp only [h1] at h
    refine ⟨x, rfl, ?_⟩
    cases h2 : gt nd s.one with
    | none =>
      simp only [h2] at h
      exact ⟨(Option.some.inj h).symm, .inl rfl⟩
    | some c =>
      simp only [h2] at h
      by_cases q : max 0 (x - s.change) < c
      · rw [if_pos q] at h
        have := Option.some.inj h
        exact ⟨this.symm, .inr ⟨c, rfl, by omega⟩⟩
      · rw [if_neg q] at h
        cases h
theorem rlx_no {nd : List (Int × Int)} {s : St5} (h : rlx nd s = none) {x : Int} (hx : gt nd s.other = some x) : ∃ c, gt nd s.one = some c ∧ c ≤ max 0 (x - s.change) := by
  unfold rlx at h
  simp only [hx] at h
  cases h2 : gt nd s.one with
  | none => simp [h2] at h
  | some c =>
    simp only [h2] at h
    by_cases q : max 0 (x - s.change) < c
    · rw [if_pos q] at h
      cases h
    · exact ⟨c, rfl, by omega⟩
def rl1 (b : ND) (s : St5) : ND :=
  match rlx b.nd s with
  | none => b
  | some n => ⟨put b.nd s.one n, true⟩
def rlR (ss : List St5) (b : ND) : ND := ss.foldl rl1 ⟨b.nd, false⟩
structure NInv (ss : List St5) (U : List Int) (nd : List (Int × Int)) : Prop where
  num : ∀ v x, gt nd v = some x → 0 ≤ x ∧ For ss v x
  zero : ∀ v, Bck ss v → gt nd v = some 0
  kn : (nd.map (·.1)).Nodup
  ku : ∀ v, (gt nd v).isSome = true → v ∈ U
  bnd : ∀ v x, gt nd v = some x → x ≤ 9 * nd.length
theorem nd_few {ss : List St5} {U : List Int} {nd : List (Int × Int)} (h : NInv ss U nd) : nd.length ≤ U.length := by
  have := nd_len (nd.map (·.1)) U h.kn fun q hq => h.ku q (gt_mem.mpr hq)
  rw [List.length_map] at this
  exact this
theorem put_len_new {α : Type} {p : Int} {x : α} {l : List (Int × α)} (h : gt l p = none) : (put l p x).length = l.length + 1 := by
  have hk := congrArg List.length (put_keys (p := p) (x := x) l)
  rw [List.length_map, if_neg (fun z => by have := gt_mem.mpr z; rw [h] at this; cases this), List.length_append, List.length_map] at hk
  exact hk
theorem put_len_old {α : Type} {p : Int} {x : α} {l : List (Int × α)} (h : (gt l p).isSome = true) : (put l p x).length = l.length := by
  have hk := congrArg List.length (put_keys (p := p) (x := x) l)
  rw [List.length_map, if_pos (gt_mem.mp h), List.length_map] at hk
  exact hk
theorem NInv.one {ss : List St5} {U : List Int} {b : ND} {s : St5} (h : NInv ss U b.nd) (hs : s ∈ ss) (hU : s.one ∈ U) (hc : -9 ≤ s.change) : NInv ss U (rl1 b s).nd := by
  unfold rl1
  cases hl : rlx b.nd s with
  | none => exact h
  | some n =>
    obtain ⟨x, hx, hn, hd⟩ := rlx_is hl
    obtain ⟨x0, hf⟩ := h.num _ _ hx
    have g : ∀ v, gt (put b.nd s.one n) v = if s.one = v then some n else gt b.nd v := fun v => gt_put v _
    have hlen : b.nd.length ≤ (put b.nd s.one n).length := by
      rcases hd with z | ⟨c, z, _⟩
      · rw [put_len_new z]
        omega
      · rw [put_len_old (by rw [z]; rfl)]
        exact Nat.le_refl _
    refine ⟨fun v y hv => ?_, fun v hv => ?_, put_nd h.kn, fun v hv => ?_, fun v y hv => ?_⟩
    · have hv' : gt (put b.nd s.one n) v = some y := hv
      rw [g] at hv'
      by_cases q : s.one = v
      · rw [if_pos q] at hv'
        cases hv'
        subst q
        exact ⟨by omega, hf.step hs (by omega) (by omega)⟩
      · rw [if_neg q] at hv'
        exact h.num v y hv'
    · show gt (put b.nd s.one n) v = _
      rw [g]
      have := h.zero v hv
      by_cases q : s.one = v
      · subst q
        rcases hd with z | ⟨c, z, z2⟩
        · rw [z] at this
          cases this
        · rw [z] at this
          cases this
          omega
      · rw [if_neg q]
        exact this
    · have hv' : (gt (put b.nd s.one n) v).isSome = true := hv
      rw [g] at hv'
      by_cases q : s.one = v
      · rw [← q]
        exact hU
      · rw [if_neg q] at hv'
        exact h.ku v hv'
    · have hv' : gt (put b.nd s.one n) v = some y := hv
      show y ≤ 9 * ((put b.nd s.one n).length : Int)
      rw [g] at hv'
      have hxb := h.bnd _ _ hx
      by_cases q : s.one = v
      · rw [if_pos q] at hv'
        cases hv'
        rcases hd with z | ⟨c, z, z2⟩
        · rw [put_len_new z]
          omega
        · have := h.bnd _ _ z
          omega
      · rw [if_neg q] at hv'
        have := h.bnd v y hv'
        omega
theorem NInv.fold {ss : List St5} {U : List Int} (hU : ∀ s ∈ ss, s.one ∈ U) (hc : ∀ s ∈ ss, -9 ≤ s.change) : ∀ (zs : List St5) (b : ND), (∀ s ∈ zs, s ∈ ss) → NInv ss U b.nd → NInv ss U (zs.foldl rl1 b).nd
  | [], _, _, h => h
  | z :: zs, b, hz, h => NInv.fold hU hc zs _ (fun s hs => hz s (List.mem_cons_of_mem _ hs)) (h.one (hz z List.mem_cons_self) (hU z (hz z List.mem_cons_self)) (hc z (hz z List.mem_cons_self)))
/-- nothing changed: nothing was to be changed -/
theorem rl_still : ∀ (zs : List St5) (b : ND), (zs.foldl rl1 b).ch = false → b.ch = false ∧ (zs.foldl rl1 b).nd = b.nd ∧ ∀ s ∈ zs, rlx b.nd s = none
  | [], b, h => ⟨h, rfl, fun s hs => absurd hs (by simp)⟩
  | z :: zs, b, h => by
    obtain ⟨h1, h2, h3⟩ := rl_still zs (rl1 b z) h
    have key : rlx b.nd z = none := by
      cases hl : rlx b.nd z with
      | none => rfl
      | some n =>
        unfold rl1 at h1
        rw [hl] at h1
        cases h1
    have e : rl1 b z = b := by
      unfold rl1
      rw [key]
    rw [e] at h1 h2 h3
    exact ⟨h1, by show (zs.foldl rl1 (rl1 b z)).nd = _; rw [e]; exact h2, fun s hs => (List.mem_cons.mp hs).elim (fun q => by rw [q]; exact key) (h3 s)⟩
/-- what falls with each change -/
def mu (U : List Int) (nd : List (Int × Int)) : Nat := (U.map fun v => match gt nd v with | none => 1000 | some x => x.toNat).sum
theorem sum_lt_at {f g : Int → Nat} (h : ∀ v, f v ≤ g v) {a : Int} (ha : f a < g a) : ∀ {U : List Int}, a ∈ U → (U.map f).sum < (U.map g).sum
  | u :: U, hm => by
    have le : (U.map f).sum ≤ (U.map g).sum := by
      clear hm
      induction U with
      | nil => exact Nat.le_refl _
      | cons w U ih =>
        rw [List.map_cons, List.map_cons, List.sum_cons, List.sum_cons]
        have := h w
        omega
    rw [List.map_cons, List.map_cons, List.sum_cons, List.sum_cons]
    rcases List.mem_cons.mp hm with rfl | hm
    · omega
    · have := sum_lt_at h ha hm
      have := h u
      omega
theorem rl1_mu {ss : List St5} {U : List Int} {b : ND} {s : St5} (h : NInv ss U b.nd) (hU : s.one ∈ U) (hz : U.length ≤ 63) (hc : -9 ≤ s.change) {n : Int} (hl : rlx b.nd s = some n) : mu U (rl1 b s).nd < mu U b.nd := by
  obtain ⟨x, hx, hn, hd⟩ := rlx_is hl
  have e : (rl1 b s).nd = put b.nd s.one n := by
    unfold rl1
    rw [hl]
  rw [e]
  unfold mu
  have hf := nd_few h
  have hxb := h.bnd _ _ hx
  have x0 := (h.num _ _ hx).1
  refine sum_lt_at (fun v => ?_) (a := s.one) ?_ hU
  · rw [gt_put]
    by_cases q : s.one = v
    · rw [if_pos q]
      subst q
      rcases hd with z | ⟨c, z, z2⟩
      · rw [z]
        show n.toNat ≤ 1000
        omega
      · rw [z]
        show n.toNat ≤ c.toNat
        omega
    · rw [if_neg q]
      exact Nat.le_refl _
  · rw [gt_put, if_pos rfl]
    rcases hd with z | ⟨c, z, z2⟩
    · rw [z]
      show n.toNat < 1000
      omega
    · rw [z]
      show n.toNat < c.toNat
      omega
theorem rl_mu {ss : List St5} {U : List Int} (hz : U.length ≤ 63) (hU : ∀ s ∈ ss, s.one ∈ U) (hc : ∀ s ∈ ss, -9 ≤ s.change) : ∀ (zs : List St5) (b : ND), (∀ s ∈ zs, s ∈ ss) → NInv ss U b.nd → mu U (zs.foldl rl1 b).nd ≤ mu U b.nd ∧ ((zs.foldl rl1 b).ch = true → b.ch = true ∨ mu U (zs.foldl rl1 b).nd < mu U b.nd)
  | [], b, _, h => ⟨Nat.le_refl _, .inl⟩
  | z :: zs, b, hzs, h => by
    have hm := hzs z List.mem_cons_self
    have h' := h.one hm (hU z hm) (hc z hm)
    obtain ⟨g1, g2⟩ := rl_mu hz hU hc zs (rl1 b z) (fun s hs => hzs s (List.mem_cons_of_mem _ hs)) h'
    cases hl : rlx b.nd z with
    | none =>
      have e : rl1 b z = b := by
        unfold rl1
        rw [hl]
      rw [e] at g1 g2
      show mu U (zs.foldl rl1 (rl1 b z)).nd ≤ _ ∧ ((zs.foldl rl1 (rl1 b z)).ch = true → b.ch = true ∨ mu U (zs.foldl rl1 (rl1 b z)).nd < mu U b.nd)
      rw [e]
      exact ⟨g1, g2⟩
    | some n =>
      have lt := rl1_mu h (hU z hm) hz (hc z hm) hl
      exact ⟨by show mu U (zs.foldl rl1 (rl1 b z)).nd ≤ _; omega, fun _ => .inr (by show mu U (zs.foldl rl1 (rl1 b z)).nd < _; omega)⟩
/-- the least stocks with which one can go on for ever -/
structure NOk (ss : List St5) (nd : List (Int × Int)) : Prop where
  num : ∀ v x, gt nd v = some x → 0 ≤ x ∧ For ss v x
  least : ∀ v N p L y, 0 ≤ N → Wlk5 v L p → (∀ s ∈ L, s ∈ ss) → gon N L = some y → Bck ss p → ∃ x, gt nd v = some x ∧ x ≤ N
theorem NInv.done {ss : List St5} {U : List Int} {nd : List (Int × Int)} (h : NInv ss U nd) (hf : ∀ s ∈ ss, rlx nd s = none) : NOk ss nd := by
  refine ⟨h.num, fun v N p L => ?_⟩
  induction L generalizing v N with
  | nil =>
    intro y n0 hw _ _ hb
    have : v = p := hw
    subst this
    exact ⟨0, h.zero v hb, n0⟩
  | cons s L ih =>
    intro y n0 hw hs hg hb
    obtain ⟨rfl, hw2⟩ := hw
    rw [gon_cons] at hg
    by_cases q : N + s.change < 0
    · rw [if_pos q] at hg
      cases hg
    · rw [if_neg q] at hg
      obtain ⟨x, hx, hle⟩ := ih s.other (N + s.change) y (by omega) hw2 (fun t ht => hs t (List.mem_cons_of_mem _ ht)) hg hb
      obtain ⟨c, hc, hc2⟩ := rlx_no (hf s (hs s List.mem_cons_self)) hx
      exact ⟨c, hc, by omega⟩
/-! ### a walk and a ring behind it -/
structure Las (ss : List St5) (v : Int) (W R : List St5) : Prop where
  walk : ∃ p, Wlk5 v W p ∧ Wlk5 p R p
  ne : R ≠ []
  sub : ∀ s ∈ W ++ R, s ∈ ss
  nd : ((W ++ R).map (·.one)).Nodup
theorem wlk_ones : ∀ {v : Int} {L : List St5} {u : Int}, Wlk5 v L u → L.map (·.one) ++ [u] = v :: L.map (·.other)
  | v, [], u, h => by
    have : v = u := h
    subst this
    rfl
  | v, s :: L, u, h => by
    obtain ⟨rfl, h2⟩ := h
    rw [List.map_cons, List.map_cons, List.cons_append, wlk_ones h2]
theorem wlk_split {q : Int} : ∀ {v : Int} {L : List St5} {u : Int}, Wlk5 v L u → q ∈ v :: L.map (·.other) → ∃ W R, L = W ++ R ∧ Wlk5 v W q ∧ Wlk5 q R u
  | v, [], u, h, hq => by
    have e : v = u := h
    have e2 : q = v := by simpa using hq
    subst e e2
    exact ⟨[], [], rfl, rfl, rfl⟩
  | v, s :: L, u, h, hq => by
    rcases List.mem_cons.mp hq with rfl | hq
    · exact ⟨[], s :: L, rfl, rfl, h⟩
    · obtain ⟨W, R, e, h1, h2⟩ := wlk_split h.2 (by rw [List.map_cons] at hq; exact hq)
      exact ⟨s :: W, R, by rw [e]; rfl, ⟨h.1, h1⟩, h2⟩
/-- a walk comes into no place twice, or begins with a walk and a ring -/
theorem wlk_first {ss : List St5} {v : Int} : ∀ (n : Nat) (L : List St5) (u : Int), L.length = n → Wlk5 v L u → (∀ s ∈ L, s ∈ ss) → (v :: L.map (·.other)).Nodup ∨ ∃ W R M, L = W ++ R ++ M ∧ Las ss v W R
  | 0, L, u, e, h, hs => by
    obtain rfl := List.length_eq_zero_iff.mp e
    exact .inl (by simp)
  | n + 1, L, u, e, h, hs => by
    have ne : L ≠ [] := fun z => by rw [z] at e; cases e
    obtain ⟨L', s, rfl⟩ : ∃ L' s, L = L' ++ [s] := ⟨L.dropLast, L.getLast ne, (List.dropLast_concat_getLast ne).symm⟩
    rw [List.length_append, List.length_singleton] at e
    obtain ⟨m, h1, h2⟩ := (wlk5_app v L' [s] u).mp h
    obtain ⟨e1, e2⟩ := h2
    have e2' : s.other = u := e2
    rcases wlk_first n L' m (by omega) h1 (fun t ht => hs t (List.mem_append_left _ ht)) with hn | ⟨W, R, M, e3, hl⟩
    · by_cases q : s.other ∈ v :: L'.map (·.other)
      · obtain ⟨W, R, e3, g1, g2⟩ := wlk_split h1 q
        refine .inr ⟨W, R ++ [s], [], by rw [e3, List.append_nil, List.append_assoc], ⟨s.other, g1, (wlk5_app _ _ _ _).mpr ⟨m, g2, e1, rfl⟩⟩, by simp, fun t ht => hs t (by rw [e3, List.append_assoc]; exact ht), ?_⟩
        have : ((W ++ (R ++ [s])).map (·.one)) = v :: L'.map (·.other) := by
          rw [← List.append_assoc, ← e3, List.map_append, ← wlk_ones h1]
          show _ ++ [s.one] = _
          rw [e1]
        rw [this]
        exact hn
      · refine .inl ?_
        rw [List.map_append, ← List.cons_append]
        refine List.nodup_append.mpr ⟨hn, by simp, fun x hx y hy z => ?_⟩
        have : y = s.other := by simpa using hy
        rw [← z] at this
        exact q (this ▸ hx)
    · exact .inr ⟨W, R, M ++ [s], by rw [e3, List.append_assoc], hl⟩
theorem chg_le {L : List St5} (h : ∀ s ∈ L, s.change ≤ 9) : chg L ≤ 9 * L.length := by
  induction L with
  | nil => exact Int.le_refl _
  | cons s L ih =>
    have := ih fun t ht => h t (List.mem_cons_of_mem _ ht)
    have := h s List.mem_cons_self
    rw [chg_cons, List.length_cons]
    omega
/-- who can go far can go round a ring that loses nothing -/
theorem far_lasso {ss : List St5} {U : List Int} {v N : Int} (hN : 0 ≤ N) (hv : v ∈ U) (hU : ∀ s ∈ ss, s.one ∈ U ∧ s.other ∈ U) (hc : ∀ s ∈ ss, s.change ≤ 9) (hno : ∀ W R, Las ss v W R → 0 ≤ chg R → gon N (W ++ R) = none) :
    ∀ (n : Nat) (L : List St5) (u y : Int), L.length = n → Wlk5 v L u → (∀ s ∈ L, s ∈ ss) → gon N L = some y → (L.length : Int) + U.length * y ≤ (U.length - 1) + U.length * (N + 9 * (U.length - 1)) := by
  intro n
  induction n using Nat.strongRecOn with
  | _ n ih =>
    intro L u y e hw hs hg
    have hUl : 1 ≤ U.length := List.length_pos_of_mem hv
    rcases wlk_first L.length L u rfl hw hs with hn | ⟨W, R, M, e3, hl⟩
    · have h1 := nd_len (v :: L.map (·.other)) U hn fun x hx => (List.mem_cons.mp hx).elim (fun z => by rw [z]; exact hv) fun z => by
        obtain ⟨t, ht, rfl⟩ := List.mem_map.mp z
        exact (hU t (hs t ht)).2
      rw [List.length_cons, List.length_map] at h1
      have h2 := gon_chg hg
      have h3 := chg_le fun s h => hc s (hs s h)
      have h4 : y ≤ N + 9 * ((U.length : Int) - 1) := by omega
      have h5 := Int.mul_le_mul_of_nonneg_left h4 (show (0 : Int) ≤ U.length by omega)
      omega
    · subst e3
      obtain ⟨p, w1, w2⟩ := hl.walk
      obtain ⟨q, g1, g2⟩ := (wlk5_app v (W ++ R) M u).mp hw
      obtain ⟨p', g3, g4⟩ := (wlk5_app v W R q).mp g1
      have wend : ∀ {a b c : Int} {L : List St5}, Wlk5 a L b → Wlk5 a L c → b = c := by
        intro a b c L
        induction L generalizing a with
        | nil => exact fun h1 h2 => h1.symm.trans h2
        | cons s L ih => exact fun h1 h2 => ih h1.2 h2.2
      obtain rfl : p = p' := wend w1 g3
      obtain rfl : p = q := wend w2 g4
      rw [gon_app] at hg
      cases hz : gon N (W ++ R) with
      | none =>
        rw [hz] at hg
        cases hg
      | some z =>
        rw [hz] at hg
        have hneg : chg R < 0 := by
          refine Int.not_le.mp fun q => ?_
          have := hno W R hl q
          rw [hz] at this
          cases this
        rw [gon_app] at hz
        cases hzw : gon N W with
        | none =>
          rw [hzw] at hz
          cases hz
        | some z0 =>
          rw [hzw] at hz
          have hz' : gon z0 R = some z := hz
          have ez := gon_chg hz'
          have hg' : gon z M = some y := hg
          have hm := gon_mono M hg' (show z ≤ z0 by omega)
          have hlen : R.length ≤ U.length := by
            have h1 := nd_len (R.map (·.one)) U (by
              have := hl.nd
              rw [List.map_append] at this
              exact (List.nodup_append.mp this).2.1) fun x hx => by
              obtain ⟨t, ht, rfl⟩ := List.mem_map.mp hx
              exact (hU t (hl.sub t (List.mem_append_right _ ht))).1
            rw [List.length_map] at h1
            exact h1
          have hR1 := List.length_pos_iff.mpr hl.ne
          rw [List.length_append, List.length_append] at e
          have := ih (W ++ M).length (by rw [List.length_append]; omega) (W ++ M) u (y + (z0 - z)) rfl ((wlk5_app _ _ _ _).mpr ⟨p, w1, g2⟩) (fun t ht => hs t (by
            rcases List.mem_append.mp ht with h | h
            · exact List.mem_append_left _ (List.mem_append_left _ h)
            · exact List.mem_append_right _ h)) (by rw [gon_app, hzw]; exact hm)
          rw [List.length_append] at this
          rw [List.length_append, List.length_append]
          have h6 : (U.length : Int) * (y + 1) ≤ U.length * (y + (z0 - z)) := Int.mul_le_mul_of_nonneg_left (by omega) (by omega)
          rw [Int.mul_add] at h6
          omega
/-- a lasso whose ring loses nothing leads on for ever -/
theorem las_bck {ss : List St5} {v N : Int} {W R : List St5} (hl : Las ss v W R) (h : 0 ≤ chg R) {y : Int} (hg : gon N (W ++ R) = some y) : ∃ p L z, Wlk5 v L p ∧ (∀ s ∈ L, s ∈ ss) ∧ gon N L = some z ∧ Bck ss p := by
  obtain ⟨A, B, e, hb⟩ := rot_go h
  obtain ⟨p, w1, w2⟩ := hl.walk
  rw [e] at w2
  obtain ⟨q, g1, g2⟩ := (wlk5_app p A B p).mp w2
  rw [e, ← List.append_assoc, gon_app] at hg
  cases hz : gon N (W ++ A) with
  | none =>
    rw [hz] at hg
    cases hg
  | some z =>
    obtain ⟨y0, hy0⟩ := Option.isSome_iff_exists.mp hb
    have hsub : ∀ s ∈ R, s ∈ ss := fun s hs => hl.sub s (List.mem_append_right _ hs)
    refine ⟨q, W ++ A, z, (wlk5_app _ _ _ _).mpr ⟨p, w1, g1⟩, fun s hs => ?_, hz, B ++ A, y0, ?_, (wlk5_app _ _ _ _).mpr ⟨p, g2, g1⟩, fun s hs => ?_, hy0⟩
    · rcases List.mem_append.mp hs with h | h
      · exact hl.sub s (List.mem_append_left _ h)
      · exact hsub s (by rw [e]; exact List.mem_append_left _ h)
    · intro z
      obtain ⟨z1, z2⟩ := List.append_eq_nil_iff.mp z
      exact hl.ne (by rw [e, z1, z2]; rfl)
    · rw [e] at hsub
      exact hsub s ((List.mem_append.mp hs).elim (List.mem_append_right _) (List.mem_append_left _))
end AA

set_option Elab.async false
set_option linter.all false
set_option maxRecDepth 100000
set_option maxHeartbeats 4000000
/-! Safe steps: without a heap. -/
namespace AA
open PySem PySem.Spec PyProof.Rows L2 Evl
/-- who can go on for ever has what is needed -/
theorem NOk.enough {ss : List St5} {U : List Int} {nd : List (Int × Int)} {v N : Int} (h : NOk ss nd) (hN : 0 ≤ N) (hv : v ∈ U) (hU : ∀ s ∈ ss, s.one ∈ U ∧ s.other ∈ U) (hc : ∀ s ∈ ss, s.change ≤ 9) (hf : For ss v N) :
    ∃ p L z, Wlk5 v L p ∧ (∀ s ∈ L, s ∈ ss) ∧ gon N L = some z ∧ Bck ss p := by
  refine Classical.byContradiction fun hno => ?_
  obtain ⟨L, u, y, h1, h2, h3, h4⟩ := hf ((U.length - 1) + U.length * (N + 9 * (U.length - 1)) + 1 : Int).toNat
  have h5 := far_lasso hN hv hU hc (fun W R hl h0 => by
    cases hg : gon N (W ++ R) with
    | none => rfl
    | some q => exact absurd (las_bck hl h0 hg) hno) L.length L u y rfl h1 h2 h3
  have y0 := gon_nn L hN h3
  have h6 : (0 : Int) ≤ U.length * y := Int.mul_nonneg (by omega) y0
  omega
/-- a step behind which one has what is needed, having it ahead -/
def Safe (nd : List (Int × Int)) (s : St5) : Prop := ∃ x y, gt nd s.one = some x ∧ gt nd s.other = some y ∧ y ≤ x + s.change
theorem NOk.safe {ss : List St5} {U : List Int} {nd : List (Int × Int)} {v x : Int} (h : NOk ss nd) (hv : v ∈ U) (hU : ∀ s ∈ ss, s.one ∈ U ∧ s.other ∈ U) (hc : ∀ s ∈ ss, s.change ≤ 9) (hx : gt nd v = some x) : ∃ s ∈ ss, s.one = v ∧ Safe nd s := by
  obtain ⟨x0, hf⟩ := h.num v x hx
  obtain ⟨p, L, z, h1, h2, h3, h4⟩ := h.enough x0 hv hU hc hf
  have key : ∀ (s : St5) (M : List St5) (q z' N : Int), 0 ≤ N → N ≤ x → s.one = v → s ∈ ss → Wlk5 s.other M q → (∀ t ∈ M, t ∈ ss) → gon N (s :: M) = some z' → Bck ss q → ∃ s ∈ ss, s.one = v ∧ Safe nd s := fun s M q z' N hN hNx ho hs hM hMs hg hb => by
    rw [gon_cons] at hg
    by_cases c : N + s.change < 0
    · rw [if_pos c] at hg
      cases hg
    · rw [if_neg c] at hg
      obtain ⟨y, hy, hle⟩ := h.least s.other (N + s.change) q M z' (by omega) hM hMs hg hb
      exact ⟨s, hs, ho, x, y, by rw [ho]; exact hx, hy, by omega⟩
  cases L with
  | cons s M =>
    obtain ⟨ho, hM⟩ := h1
    exact key s M p z x x0 (Int.le_refl _) ho (h2 s List.mem_cons_self) hM (fun t ht => h2 t (List.mem_cons_of_mem _ ht)) h3 h4
  | nil =>
    have e : v = p := h1
    subst e
    obtain ⟨R, y, ne, w1, w2, hg⟩ := id h4
    cases R with
    | nil => exact absurd rfl ne
    | cons s M =>
      obtain ⟨ho, hM⟩ := w1
      exact key s M v y 0 (Int.le_refl _) x0 ho (w2 s List.mem_cons_self) hM (fun t ht => w2 t (List.mem_cons_of_mem _ ht)) hg h4
/-- safe steps one behind the other can be gone -/
theorem safe_go {nd : List (Int × Int)} : ∀ {L : List St5} {v u x N : Int}, Wlk5 v L u → (∀ s ∈ L, Safe nd s) → gt nd v = some x → x ≤ N → (∀ p y, gt nd p = some y → 0 ≤ y) → ∃ y, gt nd u = some y ∧ y - x ≤ chg L ∧ ∃ z, gon N L = some z ∧ y ≤ z
  | [], v, u, x, N, h, _, hx, hN, _ => by
    have e : v = u := h
    subst e
    exact ⟨x, hx, by rw [chg_nil]; omega, N, rfl, hN⟩
  | s :: L, v, u, x, N, h, hs, hx, hN, h0 => by
    obtain ⟨rfl, h2⟩ := h
    obtain ⟨x', y', e1, e2, le⟩ := hs s List.mem_cons_self
    rw [hx] at e1
    cases e1
    have y0 := h0 _ _ e2
    obtain ⟨y, g1, g2, z, g3, g4⟩ := safe_go (N := N + s.change) h2 (fun t ht => hs t (List.mem_cons_of_mem _ ht)) e2 (by omega) h0
    refine ⟨y, g1, by rw [chg_cons]; omega, z, ?_, g4⟩
    rw [gon_cons, if_neg (by omega)]
    exact g3
/-- a ring of safe steps loses nothing -/
theorem safe_ring {nd : List (Int × Int)} {R : List St5} {p : Int} (h : Wlk5 p R p) (ne : R ≠ []) (hs : ∀ s ∈ R, Safe nd s) (h0 : ∀ p y, gt nd p = some y → 0 ≤ y) : 0 ≤ chg R := by
  cases R with
  | nil => exact absurd rfl ne
  | cons s R =>
    obtain ⟨x, _, hx, _⟩ := hs s List.mem_cons_self
    have e : s.one = p := h.1
    rw [e] at hx
    obtain ⟨y, g1, g2, _⟩ := safe_go (N := x) h hs hx (Int.le_refl _) h0
    rw [hx] at g1
    cases g1
    omega
end AA

set_option Elab.async false
set_option linter.all false
set_option maxRecDepth 100000
set_option maxHeartbeats 4000000
/-! Walks on their way round, and lists of walks on the heap. -/
namespace AA
open PySem PySem.Spec PyProof.Rows L2 Evl
theorem six_len {l : List Int} (hn : l.Nodup) (h : ∀ x ∈ l, 0 ≤ x ∧ x < 6) : l.length ≤ 6 :=
  nd_len l [0, 1, 2, 3, 4, 5] hn fun x hx => by
    have := h x hx
    simp only [List.mem_cons, List.not_mem_nil, or_false]
    omega
/-- the places that a walk comes to -/
def metL (w : List St5) (t : St5) : List Int := w.map (·.one) ++ [t.other]
/-- a walk on its way round from f -/
structure RWay (ss : List St5) (f : Int) (w : List St5) (t : St5) : Prop where
  last : w.getLast? = some t
  sub : ∀ s ∈ w, s ∈ ss
  nd : (w.map (·.one)).Nodup
  nx : t.other = f ∨ t.other ∉ w.map (·.one)
/-- a walk that is told -/
structure RgOk (ss w : List St5) : Prop where
  len : w.length ≤ 6
  sub : ∀ s ∈ w, s ∈ ss
theorem RWay.ok {c f : Int} {ss w : List St5} {t : St5} (h : RWay ss f w t) (hc : c ≤ 6) (hok : ∀ s ∈ ss, StOk c s) : RgOk ss w := by
  refine ⟨?_, h.sub⟩
  have := six_len h.nd fun x hx => by
    obtain ⟨s, hs, rfl⟩ := List.mem_map.mp hx
    have o := hok s (h.sub s hs)
    exact ⟨o.o0, by have := o.o1; omega⟩
  rw [List.length_map] at this
  exact this
theorem RWay.more {f : Int} {ss w : List St5} {t s : St5} (h : RWay ss f w t) (hf : t.other ≠ f) (hs : s ∈ ss) (e : s.one = t.other) (hn : s.other = f ∨ s.other ∉ metL w t) : RWay ss f (w ++ [s]) s := by
  have em : (w ++ [s]).map (·.one) = metL w t := by
    unfold metL
    rw [List.map_append, ← e]
    rfl
  refine ⟨by rw [List.getLast?_append]; rfl, fun x hx => (List.mem_append.mp hx).elim (h.sub x) (fun z => (List.mem_singleton.mp z) ▸ hs), ?_, by rw [em]; exact hn⟩
  rw [em]
  unfold metL
  refine List.nodup_append.mpr ⟨h.nd, by simp, fun x hx y hy z => ?_⟩
  obtain rfl := List.mem_singleton.mp hy
  exact (h.nx.resolve_left hf) (z ▸ hx)
/-- the steps that begin where a walk has not been -/
def rest (ss w : List St5) : Nat := (ss.filter fun s => decide (s.one ∉ w.map (·.one))).length
def deg (ss : List St5) (p : Int) : Nat := (ss.filter fun s => decide (s.one = p)).length
theorem rest_deg {w : List St5} {p : Int} {s : St5} (hp : p ∉ w.map (·.one)) (e : s.one = p) : ∀ ss : List St5, rest ss (w ++ [s]) + deg ss p = rest ss w
  | [] => rfl
  | x :: ss => by
    have ih := rest_deg hp e ss
    unfold rest deg at ih ⊢
    have em : (w ++ [s]).map (·.one) = w.map (·.one) ++ [p] := by rw [List.map_append, ← e]; rfl
    rw [em] at ih ⊢
    by_cases h1 : x.one = p
    · have h2 : ¬ (x.one ∉ w.map (·.one) ++ [p]) := by rw [h1]; simp
      have h3 : x.one ∉ w.map (·.one) := by rw [h1]; exact hp
      rw [List.filter_cons_of_neg (by simpa using h2), List.filter_cons_of_pos (by simpa using h1), List.filter_cons_of_pos (by simpa using h3), List.length_cons, List.length_cons]
      omega
    · rw [List.filter_cons_of_neg (a := x) (p := fun s => decide (s.one = p)) (by simpa using h1)]
      by_cases h3 : x.one ∈ w.map (·.one)
      · have h2 : ¬ (x.one ∉ w.map (·.one) ++ [p]) := fun z => z (List.mem_append_left _ h3)
        rw [List.filter_cons_of_neg (by simpa using h2), List.filter_cons_of_neg (by simpa using h3)]
        exact ih
      · have h2 : x.one ∉ w.map (·.one) ++ [p] := fun z => (List.mem_append.mp z).elim h3 fun y => h1 (List.mem_singleton.mp y)
        rw [List.filter_cons_of_pos (by simpa using h2), List.filter_cons_of_pos (by simpa using h3), List.length_cons, List.length_cons]
        omega
theorem rest_nil (ss : List St5) : rest ss [] = ss.length := by
  unfold rest
  rw [List.filter_eq_self.mpr fun x _ => by simp]
def mzR (ss w : List St5) : Nat := 2 ^ rest ss w
def mzS (ss : List St5) (ws : List (List St5)) : Nat := (ws.map (mzR ss)).sum
theorem mzR_pos (ss w : List St5) : 1 ≤ mzR ss w := Nat.one_le_pow _ _ (by decide)
theorem mzS_len (ss : List St5) : ∀ ws : List (List St5), ws.length ≤ mzS ss ws
  | [] => Nat.zero_le _
  | w :: r => by
    have h1 := mzR_pos ss w
    have h2 := mzS_len ss r
    show r.length + 1 ≤ mzR ss w + mzS ss r
    omega
theorem mzS_app (ss : List St5) (xs ys : List (List St5)) : mzS ss (xs ++ ys) = mzS ss xs + mzS ss ys := by
  unfold mzS
  rw [List.map_append, List.sum_append]
theorem mzS_le {ss : List St5} {n : Nat} : ∀ ws : List (List St5), (∀ w ∈ ws, mzR ss w ≤ n) → mzS ss ws ≤ ws.length * n
  | [], _ => Nat.zero_le _
  | w :: r, h => by
    have h1 := h w List.mem_cons_self
    have h2 := mzS_le r fun x hx => h x (List.mem_cons_of_mem _ hx)
    show mzR ss w + mzS ss r ≤ (r.length + 1) * n
    rw [Nat.succ_mul]
    omega
/-- all that goes on from a walk weighs less than it -/
theorem mzS_lt {ss u : List St5} {p : Int} {news : List (List St5)} (hp : p ∉ u.map (·.one)) (hn : ∀ w ∈ news, ∃ s : St5, w = u ++ [s] ∧ s.one = p) (hl : news.length ≤ deg ss p) : mzS ss news < mzR ss u := by
  cases news with
  | nil => exact mzR_pos ss u
  | cons w0 r =>
    obtain ⟨s0, _, e0⟩ := hn w0 List.mem_cons_self
    have hr := rest_deg hp e0 ss
    have hle := mzS_le (ss := ss) (n := 2 ^ rest ss (u ++ [s0])) (w0 :: r) fun w hw => by
      obtain ⟨s, ew, es⟩ := hn w hw
      have h2 := rest_deg hp es ss
      unfold mzR
      rw [ew]
      exact Nat.pow_le_pow_right (by decide) (by omega)
    have h1 : (w0 :: r).length * 2 ^ rest ss (u ++ [s0]) < 2 ^ deg ss p * 2 ^ rest ss (u ++ [s0]) := Nat.mul_lt_mul_of_pos_right (Nat.lt_of_le_of_lt hl Nat.lt_two_pow_self) (Nat.one_le_pow _ _ (by decide))
    have h2 : mzR ss u = 2 ^ deg ss p * 2 ^ rest ss (u ++ [s0]) := by
      unfold mzR
      rw [← hr, Nat.pow_add, Nat.mul_comm]
    omega
theorem deg_take {ss : List St5} {p : Int} (i : Nat) : deg (ss.take i) p ≤ deg ss p := by
  unfold deg
  exact (List.Sublist.filter _ (List.take_sublist i ss)).length_le
theorem deg_le {ss : List St5} {p : Int} : deg ss p ≤ ss.length := List.length_filter_le _ _
/-- a walk as a list on the heap, beside some addresses -/
def WyAt (K : PySem.W.Frag) (H : Hp) (X : List Addr) (G : Hp) (o : V) (w : List St5) : Prop := ∃ q xs, o = V.ref q ∧ H q = none ∧ q ∉ X ∧ G q = some (.lst xs) ∧ DpAll K H xs (w.map stD)
inductive WyL (K : PySem.W.Frag) (H : Hp) (X : List Addr) (G : Hp) : List V → List (List St5) → Prop
  | nil : WyL K H X G [] []
  | cons {o : V} {w : List St5} {os : List V} {ws : List (List St5)} (h : WyAt K H X G o w) (t : WyL K H X G os ws) : WyL K H X G (o :: os) (w :: ws)
section
variable {K : PySem.W.Frag} {H : Hp}
theorem WyAt.go {X : List Addr} {G G' : Hp} {o : V} {w : List St5} (h : WyAt K H X G o w) (e : ∀ q u, q ∉ X → G q = some u → G' q = some u) : WyAt K H X G' o w := by
  obtain ⟨q, xs, h1, h0, h2, h3, h4⟩ := h
  exact ⟨q, xs, h1, h0, h2, e _ _ h2 h3, h4⟩
theorem WyL.go {X : List Addr} {G G' : Hp} (e : ∀ q u, q ∉ X → G q = some u → G' q = some u) : ∀ {os : List V} {ws : List (List St5)}, WyL K H X G os ws → WyL K H X G' os ws
  | _, _, .nil => .nil
  | _, _, .cons h t => .cons (h.go e) (WyL.go e t)
theorem WyL.sub {X Y : List Addr} {G : Hp} (hs : ∀ x ∈ Y, x ∈ X) : ∀ {os : List V} {ws : List (List St5)}, WyL K H X G os ws → WyL K H Y G os ws
  | _, _, .nil => .nil
  | _, _, .cons ⟨q, xs, h1, h0, h2, h3⟩ t => .cons ⟨q, xs, h1, h0, fun z => h2 (hs q z), h3⟩ (WyL.sub hs t)
theorem WyL.add {X : List Addr} {G : Hp} {D : Addr} (h : G D = none) : ∀ {os : List V} {ws : List (List St5)}, WyL K H X G os ws → WyL K H (X ++ [D]) G os ws
  | _, _, .nil => .nil
  | _, _, .cons ⟨q, xs, h1, h0, h2, h3, h4⟩ t => .cons ⟨q, xs, h1, h0, fun z => (List.mem_append.mp z).elim h2 (fun y => ne_of_none h3 h (List.mem_singleton.mp y)), h3, h4⟩ (WyL.add h t)
theorem WyL.app {X : List Addr} {G : Hp} : ∀ {os ps : List V} {ws us : List (List St5)}, WyL K H X G os ws → WyL K H X G ps us → WyL K H X G (os ++ ps) (ws ++ us)
  | _, _, _, _, .nil, k => k
  | _, _, _, _, .cons h t, k => .cons h (WyL.app t k)
theorem WyL.len {X : List Addr} {G : Hp} : ∀ {os : List V} {ws : List (List St5)}, WyL K H X G os ws → os.length = ws.length
  | _, _, .nil => rfl
  | _, _, .cons h t => by rw [List.length_cons, List.length_cons, WyL.len t]
theorem WyL.snoc {X : List Addr} {G : Hp} : ∀ {os : List V} {ws : List (List St5)}, WyL K H X G os ws → ws ≠ [] → ∃ ps p us u, os = ps ++ [p] ∧ ws = us ++ [u] ∧ WyL K H X G ps us ∧ WyAt K H X G p u
  | _, _, .nil, h => absurd rfl h
  | _, _, .cons h .nil, _ => ⟨[], _, [], _, rfl, rfl, .nil, h⟩
  | _, _, .cons h (.cons h2 t), _ => by
    obtain ⟨ps, p, us, u, e1, e2, k1, k2⟩ := WyL.snoc (.cons h2 t) (by simp)
    exact ⟨_ :: ps, p, _ :: us, u, by rw [e1]; rfl, by rw [e2]; rfl, .cons h k1, k2⟩
/-- as data -/
def wkD (w : List St5) : PyData := .list (w.map stD)
theorem WyL.dpa {X : List Addr} {G : Hp} (e : Ex H G) : ∀ {os : List V} {ws : List (List St5)}, WyL K H X G os ws → DpAll K G os (ws.map wkD)
  | _, _, .nil => .nil
  | _, _, .cons ⟨q, xs, h1, h0, h2, h3, h4⟩ t => by
    subst h1
    exact .cons (.lst (SqL.of h3) (dpa_ex e _ _ h4)) (WyL.dpa e t)
theorem wkDs_lay : ∀ ws : List (List St5), PyData.canLayAll0 (ws.map wkD) = true
  | [] => rfl
  | s :: r => by
    show (PyData.canLayAll0 (s.map stD) && PyData.canLayAll0 (r.map wkD)) = true
    rw [wkDs_lay r, stDs_lay]
    rfl
theorem wkDs_depth : ∀ ws : List (List St5), PyData.depthAll (ws.map wkD) ≤ 3
  | [] => by decide
  | s :: r => by
    have h1 := wkDs_depth r
    have h2 := stDs_depth s
    show max (PyData.depthAll (s.map stD) + 1) (PyData.depthAll (r.map wkD)) ≤ 3
    omega
theorem wkDs_shaped (ws : List (List St5)) : SeqAt.shaped (.list (ws.map wkD)) = true := by
  have h : PyData.depth (.list (ws.map wkD)) ≤ 64 := by
    have := wkDs_depth ws
    show PyData.depthAll (ws.map wkD) + 1 ≤ 64
    omega
  show (PyData.canLayAll0 (ws.map wkD) && decide (PyData.depth (.list (ws.map wkD)) ≤ 64)) = true
  rw [wkDs_lay, decide_eq_true h]
  rfl
theorem eqv_wks_nil : ∀ ws : List (List St5), PyData.eqv (.list (ws.map wkD)) (.list []) = ws.isEmpty
  | [] => rfl
  | _ :: _ => rfl
end
end AA

set_option Elab.async false
set_option linter.all false
set_option maxRecDepth 100000
set_option maxHeartbeats 4000000
/-! All walks that come into no place twice and a ring behind each: without a heap. -/
namespace AA
open PySem PySem.Spec PyProof.Rows L2 Evl
/-- a walk from v to e that comes into no place twice -/
structure Sw (ss : List St5) (v : Int) (w : List St5) (e : Int) : Prop where
  wk : Wlk5 v w e
  sub : ∀ s ∈ w, s ∈ ss
  nd : (v :: w.map (·.other)).Nodup
theorem Sw.nil {ss : List St5} {v : Int} : Sw ss v [] v := ⟨rfl, fun s h => absurd h (by simp), by simp⟩
theorem Sw.fresh {ss w : List St5} {v e : Int} (h : Sw ss v w e) : e ∉ w.map (·.one) := fun z => by
  have := h.nd
  rw [← wlk_ones h.wk] at this
  exact (List.nodup_append.mp this).2.2 e z e (by simp) rfl
theorem Sw.more {ss w : List St5} {v : Int} {s : St5} (h : Sw ss v w s.one) (hs : s ∈ ss) (hn : s.other ∉ v :: w.map (·.other)) : Sw ss v (w ++ [s]) s.other := by
  refine ⟨(wlk5_app _ _ _ _).mpr ⟨_, h.wk, rfl, rfl⟩, fun t ht => (List.mem_append.mp ht).elim (h.sub t) fun z => by rw [List.mem_singleton.mp z]; exact hs, ?_⟩
  rw [List.map_append, ← List.cons_append]
  refine List.nodup_append.mpr ⟨h.nd, by simp, fun x hx y hy z => ?_⟩
  have : y = s.other := by simpa using hy
  rw [← this, ← z] at hn
  exact hn hx
theorem Sw.few {ss w : List St5} {U : List Int} {v e : Int} (h : Sw ss v w e) (hv : v ∈ U) (hU : ∀ s ∈ ss, s.other ∈ U) : w.length < U.length := by
  have := nd_len _ U h.nd fun x hx => (List.mem_cons.mp hx).elim (fun z => by rw [z]; exact hv) fun z => by
    obtain ⟨t, ht, rfl⟩ := List.mem_map.mp z
    exact hU t (h.sub t ht)
  rw [List.length_cons, List.length_map] at this
  omega
theorem wlk_cut : ∀ {v : Int} {L : List St5} {u q : Int} {j : Nat}, Wlk5 v L u → (v :: L.map (·.other))[j]? = some q → Wlk5 v (L.take j) q ∧ Wlk5 q (L.drop j) u
  | v, L, u, q, 0, h, hq => by
    have e : v = q := by simpa using hq
    subst e
    exact ⟨rfl, h⟩
  | v, [], u, q, j + 1, h, hq => by simp at hq
  | v, s :: L, u, q, j + 1, h, hq => by
    obtain ⟨h1, h2⟩ := h
    have := wlk_cut (j := j) h2 (by simpa using hq)
    exact ⟨⟨h1, this.1⟩, this.2⟩
theorem Sw.lasso {ss w : List St5} {v : Int} {s : St5} {j : Nat} (h : Sw ss v w s.one) (hs : s ∈ ss) (hj : (v :: w.map (·.other))[j]? = some s.other) : Las ss v (w.take j) (w.drop j ++ [s]) := by
  obtain ⟨h1, h2⟩ := wlk_cut h.wk hj
  refine ⟨⟨s.other, h1, (wlk5_app _ _ _ _).mpr ⟨_, h2, rfl, rfl⟩⟩, by simp, fun t ht => ?_, ?_⟩
  · rw [← List.append_assoc, List.take_append_drop] at ht
    exact (List.mem_append.mp ht).elim (h.sub t) fun z => by rw [List.mem_singleton.mp z]; exact hs
  · rw [← List.append_assoc, List.take_append_drop, List.map_append]
    have := h.nd
    rw [← wlk_ones h.wk] at this
    exact this
/-- how a lasso goes on behind a walk -/
theorem las_next {ss u W R : List St5} {v e : Int} (h : Sw ss v u e) (hl : Las ss v W R) (hp : u <+: W ++ R) (hne : u ≠ W ++ R) :
    ∃ s, s ∈ ss ∧ s.one = e ∧ ((∃ j, (v :: u.map (·.other))[j]? = some s.other ∧ W = u.take j ∧ R = u.drop j ++ [s]) ∨ (s.other ∉ v :: u.map (·.other) ∧ u ++ [s] <+: W ++ R ∧ u ++ [s] ≠ W ++ R)) := by
  obtain ⟨T, hT⟩ := hp
  obtain ⟨s, M, rfl⟩ : ∃ s M, T = s :: M := by
    cases T with
    | nil =>
      rw [List.append_nil] at hT
      exact absurd hT hne
    | cons s M => exact ⟨s, M, rfl⟩
  obtain ⟨p, w1, w2⟩ := hl.walk
  have wall : Wlk5 v (u ++ s :: M) p := by
    rw [hT]
    exact (wlk5_app _ _ _ _).mpr ⟨p, w1, w2⟩
  have wend : ∀ {a b c : Int} {L : List St5}, Wlk5 a L b → Wlk5 a L c → b = c := by
    intro a b c L
    induction L generalizing a with
    | nil => exact fun h1 h2 => h1.symm.trans h2
    | cons s L ih => exact fun h1 h2 => ih h1.2 h2.2
  obtain ⟨m, g1, g2, g3⟩ := (wlk5_app _ _ _ _).mp wall
  obtain rfl : m = e := wend g1 h.wk
  have hs : s ∈ ss := hl.sub s (by rw [← hT]; simp)
  refine ⟨s, hs, g2, ?_⟩
  cases M with
  | nil =>
    left
    have g3' : s.other = p := g3
    obtain ⟨R', r, rfl⟩ : ∃ R' r, R = R' ++ [r] := ⟨R.dropLast, R.getLast hl.ne, (List.dropLast_concat_getLast hl.ne).symm⟩
    rw [← List.append_assoc] at hT
    obtain ⟨e1, e2⟩ := List.append_inj' hT rfl
    cases e2
    have e0 : (v :: u.map (·.other))[W.length]? = some p := by
      rw [e1, List.map_append, ← List.cons_append, List.getElem?_append_left (by rw [List.length_cons, List.length_map]; omega)]
      have : (v :: W.map (·.other))[W.length]? = some p := by
        rw [← wlk_ones w1, List.getElem?_append_right (by rw [List.length_map]; exact Nat.le_refl _), List.length_map, Nat.sub_self]
        rfl
      exact this
    refine ⟨W.length, by rw [e0, g3'], ?_, ?_⟩
    · rw [e1, List.take_left]
    · rw [e1, List.drop_left]
  | cons s2 M =>
    right
    have g4 : s2.one = s.other := g3.1
    refine ⟨fun z => ?_, ⟨s2 :: M, by rw [← hT, List.append_assoc]; rfl⟩, fun z => ?_⟩
    · have nd := hl.nd
      rw [← hT, List.map_append, List.map_cons, List.map_cons] at nd
      rw [← wlk_ones h.wk] at z
      have e5 : u.map (·.one) ++ s.one :: s2.one :: M.map (·.one) = (u.map (·.one) ++ [m]) ++ s2.one :: M.map (·.one) := by rw [← g2, List.append_assoc]; rfl
      rw [e5] at nd
      exact (List.nodup_append.mp nd).2.2 _ z s2.one List.mem_cons_self g4.symm
    · rw [← hT] at z
      have := congrArg List.length z
      rw [List.length_append, List.length_append] at this
      simp at this
/-- the lassos found so far, and the walks that wait -/
structure LCv (ss : List St5) (v : Int) (found : List (List St5 × List St5)) (ways : List (List St5)) : Prop where
  ok : ∀ f ∈ found, Las ss v f.1 f.2
  sw : ∀ w ∈ ways, ∃ e, Sw ss v w e
  all : ∀ W R, Las ss v W R → (W, R) ∈ found ∨ ∃ w ∈ ways, w <+: W ++ R ∧ w ≠ W ++ R
theorem LCv.begin {ss : List St5} {v : Int} : LCv ss v [] [[]] := ⟨fun f h => absurd h (by simp), fun w h => by rw [List.mem_singleton.mp h]; exact ⟨v, .nil⟩, fun W R h => .inr ⟨[], by simp, List.nil_prefix, fun z => h.ne (List.append_eq_nil_iff.mp z.symm).2⟩⟩
theorem LCv.end' {ss : List St5} {v : Int} {found : List (List St5 × List St5)} (h : LCv ss v found []) (f : List St5 × List St5) : f ∈ found ↔ Las ss v f.1 f.2 :=
  ⟨h.ok f, fun hl => (h.all f.1 f.2 hl).elim id fun ⟨w, hw, _⟩ => absurd hw (by simp)⟩
/-- one round: the walk u, from which new lassos and new walks go on -/
theorem LCv.round {ss u : List St5} {v e : Int} {found laps : List (List St5 × List St5)} {us news : List (List St5)} (h : LCv ss v found (us ++ [u])) (hu : Sw ss v u e) (hl : ∀ f ∈ laps, Las ss v f.1 f.2) (hn : ∀ w ∈ news, ∃ e, Sw ss v w e)
    (h1 : ∀ s ∈ ss, s.one = e → ∀ j, (v :: u.map (·.other))[j]? = some s.other → (u.take j, u.drop j ++ [s]) ∈ laps) (h2 : ∀ s ∈ ss, s.one = e → s.other ∉ v :: u.map (·.other) → u ++ [s] ∈ news) : LCv ss v (found ++ laps) (us ++ news) := by
  refine ⟨fun f hf => (List.mem_append.mp hf).elim (h.ok f) (hl f), fun w hw => (List.mem_append.mp hw).elim (fun z => h.sw w (List.mem_append_left _ z)) (hn w), fun W R hlas => ?_⟩
  rcases h.all W R hlas with z | ⟨w, hw, p1, p2⟩
  · exact .inl (List.mem_append_left _ z)
  · rcases List.mem_append.mp hw with hw | hw
    · exact .inr ⟨w, List.mem_append_left _ hw, p1, p2⟩
    · rw [List.mem_singleton.mp hw] at p1 p2
      obtain ⟨s, hs, he, hx⟩ := las_next hu hlas p1 p2
      rcases hx with ⟨j, hj, rfl, rfl⟩ | ⟨q1, q2, q3⟩
      · exact .inl (List.mem_append_right _ (h1 s hs he j hj))
      · exact .inr ⟨u ++ [s], List.mem_append_right _ (h2 s hs he q1), q2, q3⟩
end AA

set_option Elab.async false
set_option linter.all false
set_option maxRecDepth 100000
set_option maxHeartbeats 4000000
/-! A way on, step by step: without a heap. -/
namespace AA
open PySem PySem.Spec PyProof.Rows L2 Evl
def outS (ss : List St5) (p : Int) : List St5 := ss.filter fun s => decide (s.one = p)
/-- whether a step keeps what is needed -/
def safeB (g : Int → Option Int) (s : St5) : Bool := match g s.other with
  | none => false
  | some y => match g s.one with
    | none => false
    | some x => decide (y ≤ x + s.change)
theorem safeB_iff {nd : List (Int × Int)} {s : St5} : safeB (gt nd) s = true ↔ Safe nd s := by
  unfold safeB Safe
  cases h1 : gt nd s.other with
  | none => simp
  | some y =>
    cases h2 : gt nd s.one with
    | none => simp
    | some x => simp
def nxt (ss : List St5) (g : Int → Option Int) (p : Int) : Option St5 := (outS ss p).find? (safeB g)
theorem nxt_some {ss : List St5} {nd : List (Int × Int)} {p : Int} {s : St5} (h : nxt ss (gt nd) p = some s) : s ∈ ss ∧ s.one = p ∧ Safe nd s := by
  have h1 := List.mem_of_find?_eq_some h
  have h2 := List.find?_some h
  unfold outS at h1
  rw [List.mem_filter, decide_eq_true_eq] at h1
  exact ⟨h1.1, h1.2, safeB_iff.mp h2⟩
theorem nxt_is {ss : List St5} {nd : List (Int × Int)} {p : Int} {s : St5} (hs : s ∈ ss) (ho : s.one = p) (h : Safe nd s) : ∃ t, nxt ss (gt nd) p = some t := by
  cases e : nxt ss (gt nd) p with
  | some t => exact ⟨t, rfl⟩
  | none =>
    have := List.find?_eq_none.mp e s (List.mem_filter.mpr ⟨hs, by rw [decide_eq_true_eq]; exact ho⟩)
    exact absurd (safeB_iff.mpr h) this
/-- going on from step to step until one stands where one stood -/
def wyg (f : Int → Option St5) : Nat → List St5 → Int → List St5 × Int
  | 0, L, p => (L, p)
  | k + 1, L, p => if p ∈ L.map (·.one) then (L, p) else match f p with
    | none => (L, p)
    | some s => wyg f k (L ++ [s]) s.other
/-- where one stood, and when -/
def stO : Nat → List St5 → List (Int × Int)
  | _, [] => []
  | n, s :: L => (s.one, (n : Int)) :: stO (n + 1) L
theorem stO_snoc {s : St5} : ∀ {n : Nat} {L : List St5}, stO n (L ++ [s]) = stO n L ++ [(s.one, ((n + L.length : Nat) : Int))]
  | n, [] => rfl
  | n, t :: L => by
    rw [List.cons_append]
    show (t.one, (n : Int)) :: stO (n + 1) (L ++ [s]) = (t.one, (n : Int)) :: (stO (n + 1) L ++ _)
    rw [stO_snoc (n := n + 1) (L := L), List.length_cons]
    congr 4
    omega
theorem stO_keys : ∀ {n : Nat} {L : List St5}, (stO n L).map (·.1) = L.map (·.one)
  | _, [] => rfl
  | n, s :: L => by
    show s.one :: (stO (n + 1) L).map (·.1) = _
    rw [stO_keys (n := n + 1) (L := L)]
    rfl
theorem stO_len {n : Nat} {L : List St5} : (stO n L).length = L.length := by
  have := congrArg List.length (stO_keys (n := n) (L := L))
  rw [List.length_map, List.length_map] at this
  exact this
theorem stO_no {n : Nat} {L : List St5} {p : Int} : gt (stO n L) p = none ↔ p ∉ L.map (·.one) := by
  have := gt_mem (p := p) (l := stO n L)
  rw [stO_keys] at this
  rw [← this]
  cases gt (stO n L) p <;> simp
theorem stO_get {p x : Int} : ∀ {n : Nat} {L : List St5}, gt (stO n L) p = some x → ∃ (j : Nat) (s : St5), x = ((n + j : Nat) : Int) ∧ L[j]? = some s ∧ s.one = p
  | n, [], h => by cases h
  | n, s :: L, h => by
    have e : gt (stO n (s :: L)) p = if s.one = p then some (n : Int) else gt (stO (n + 1) L) p := rfl
    rw [e] at h
    by_cases q : s.one = p
    · rw [if_pos q] at h
      cases h
      exact ⟨0, s, rfl, rfl, q⟩
    · rw [if_neg q] at h
      obtain ⟨j, t, h1, h2, h3⟩ := stO_get h
      exact ⟨j + 1, t, by rw [h1]; congr 1; omega, h2, h3⟩
/-- the walk and the ring behind it -/
def wayOf (f : Int → Option St5) (v : Int) : List St5 × List St5 :=
  ((wyg f 64 [] v).1.take ((gt (stO 0 (wyg f 64 [] v).1) (wyg f 64 [] v).2).getD 0).toNat, (wyg f 64 [] v).1.drop ((gt (stO 0 (wyg f 64 [] v).1) (wyg f 64 [] v).2).getD 0).toNat)
structure Chn (f : Int → Option St5) (v : Int) (L : List St5) (p : Int) : Prop where
  wk : Wlk5 v L p
  st : ∀ s ∈ L, f s.one = some s
  nd : (L.map (·.one)).Nodup
  run : wyg f (64 - L.length) L p = wyg f 64 [] v
theorem Chn.nil {f : Int → Option St5} {v : Int} : Chn f v [] v := ⟨rfl, fun s h => absurd h (by simp), List.nodup_nil, rfl⟩
theorem Chn.more {f : Int → Option St5} {v p : Int} {L : List St5} {s : St5} (h : Chn f v L p) (hp : p ∉ L.map (·.one)) (hf : f p = some s) (ho : s.one = p) (hl : L.length < 64) : Chn f v (L ++ [s]) s.other := by
  refine ⟨(wlk5_app _ _ _ _).mpr ⟨p, h.wk, ho, rfl⟩, fun t ht => ?_, ?_, ?_⟩
  · rcases List.mem_append.mp ht with q | q
    · exact h.st t q
    · rw [List.mem_singleton.mp q, ho]
      exact hf
  · rw [List.map_append]
    refine List.nodup_append.mpr ⟨h.nd, by simp, fun x hx y hy e => ?_⟩
    have : y = s.one := by simpa using hy
    exact hp (by rw [← ho, ← this, ← e]; exact hx)
  · have e := h.run
    obtain ⟨k, hk⟩ : ∃ k, 64 - L.length = k + 1 := ⟨63 - L.length, by omega⟩
    rw [hk] at e
    have e2 : wyg f (k + 1) L p = wyg f k (L ++ [s]) s.other := by
      show (if p ∈ L.map (·.one) then (L, p) else match f p with
        | none => (L, p)
        | some s => wyg f k (L ++ [s]) s.other) = _
      rw [if_neg hp, hf]
    rw [e2] at e
    rw [← e, List.length_append, List.length_singleton]
    congr 1
    omega
theorem Chn.end' {f : Int → Option St5} {v p x : Int} {L : List St5} (h : Chn f v L p) (hx : gt (stO 0 L) p = some x) (hl : L.length < 64) : ∃ j : Nat, x = (j : Int) ∧ j < L.length ∧ wayOf f v = (L.take j, L.drop j) ∧ Wlk5 v (L.take j) p ∧ Wlk5 p (L.drop j) p := by
  obtain ⟨j, s, h1, h2, h3⟩ := stO_get hx
  rw [Nat.zero_add] at h1
  have jl := (List.getElem?_eq_some_iff.mp h2).1
  have hp : p ∈ L.map (·.one) := by rw [← h3]; exact List.mem_map.mpr ⟨s, mem_of_get h2, rfl⟩
  obtain ⟨k, hk⟩ : ∃ k, 64 - L.length = k + 1 := ⟨63 - L.length, by omega⟩
  have e := h.run
  rw [hk] at e
  have e2 : wyg f (k + 1) L p = (L, p) := by
    show (if p ∈ L.map (·.one) then (L, p) else match f p with
      | none => (L, p)
      | some s => wyg f k (L ++ [s]) s.other) = _
    rw [if_pos hp]
  rw [e2] at e
  have ew : wayOf f v = (L.take j, L.drop j) := by
    unfold wayOf
    rw [← e]
    show (L.take ((gt (stO 0 L) p).getD 0).toNat, L.drop ((gt (stO 0 L) p).getD 0).toNat) = _
    rw [hx, h1]
    rfl
  have c := wlk_cut (j := j) (q := p) h.wk (by
    rw [← wlk_ones h.wk, List.getElem?_append_left (by rw [List.length_map]; exact jl), List.getElem?_map, h2]
    show some s.one = some p
    rw [h3])
  exact ⟨j, h1, jl, ew, c.1, c.2⟩
/-- a walk and a ring behind it that loses nothing, gone with a stock -/
structure Way (ss : List St5) (v N : Int) (W R : List St5) : Prop where
  sub : ∀ s ∈ W ++ R, s ∈ ss
  ne : R ≠ []
  wk : ∃ p, Wlk5 v W p ∧ Wlk5 p R p
  nd : (R.map (·.one)).Nodup
  g : 0 ≤ chg R
  go : (gon N (W ++ R ++ R)).isSome = true
  sh : (W ++ R).length ≤ 63
theorem Chn.len {ss : List St5} {nd : List (Int × Int)} {v p : Int} {L : List St5} {U : List Int} (h : Chn (nxt ss (gt nd)) v L p) (hU : ∀ s ∈ ss, s.one ∈ U) : L.length ≤ U.length := by
  have := nd_len (L.map (·.one)) U h.nd fun q hq => by
    obtain ⟨s, h1, rfl⟩ := List.mem_map.mp hq
    exact hU s (nxt_some (h.st s h1)).1
  rw [List.length_map] at this
  exact this
theorem Chn.way {ss : List St5} {nd : List (Int × Int)} {v p N x : Int} {L : List St5} {U : List Int} {j : Nat} (h : Chn (nxt ss (gt nd)) v L p) (hU : ∀ s ∈ ss, s.one ∈ U) (hUl : U.length ≤ 63) (h0 : ∀ p y, gt nd p = some y → 0 ≤ y) (hx : gt nd v = some x) (hN : x ≤ N) (jl : j < L.length) (w1 : Wlk5 v (L.take j) p) (w2 : Wlk5 p (L.drop j) p) : Way ss v N (L.take j) (L.drop j) := by
  have sf : ∀ s ∈ L, s ∈ ss ∧ Safe nd s := fun s hs => let z := nxt_some (h.st s hs); ⟨z.1, z.2.2⟩
  have hd : ∀ s ∈ L.drop j, s ∈ L := fun s hs => List.mem_of_mem_drop hs
  have ne : L.drop j ≠ [] := fun z => by
    have := congrArg List.length z
    rw [List.length_drop] at this
    simp at this
    omega
  have h1 := h.len hU
  have all : ∀ s ∈ L.take j ++ L.drop j ++ L.drop j, Safe nd s := fun s hs => by
    rw [List.take_append_drop] at hs
    rcases List.mem_append.mp hs with q | q
    · exact (sf s q).2
    · exact (sf s (hd s q)).2
  obtain ⟨y, _, _, z, hz, _⟩ := safe_go ((wlk5_app _ _ _ _).mpr ⟨p, (wlk5_app _ _ _ _).mpr ⟨p, w1, w2⟩, w2⟩) all hx hN h0
  refine ⟨fun s hs => ?_, ne, ⟨p, w1, w2⟩, ?_, safe_ring w2 ne (fun s hs => (sf s (hd s hs)).2) h0, by rw [hz]; rfl, by rw [List.take_append_drop]; omega⟩
  · rw [List.take_append_drop] at hs
    exact (sf s hs).1
  · have := h.nd
    rw [← List.take_append_drop j L, List.map_append] at this
    exact (List.nodup_append.mp this).2.1
theorem NOk.half {ss : List St5} {U : List Int} {nd nd' : List (Int × Int)} {v x : Int} (h : NOk ss nd) (k : NOk ss nd') (hU : ∀ s ∈ ss, s.one ∈ U ∧ s.other ∈ U) (hc : ∀ s ∈ ss, s.change ≤ 9) (hx : gt nd v = some x) : ∃ x', gt nd' v = some x' ∧ x' ≤ x := by
  obtain ⟨x0, hf⟩ := h.num v x hx
  have hv : v ∈ U := by
    obtain ⟨L, u, y, h1, h2, _, h4⟩ := hf 1
    cases L with
    | nil => simp at h4
    | cons s L =>
      have e : s.one = v := h1.1
      rw [← e]
      exact (hU s (h2 s List.mem_cons_self)).1
  obtain ⟨p, L, z, g1, g2, g3, g4⟩ := h.enough x0 hv hU hc hf
  exact k.least v x p L z x0 g1 g2 g3 g4
/-- the least stocks are settled -/
theorem NOk.uniq {ss : List St5} {U : List Int} {nd nd' : List (Int × Int)} (h : NOk ss nd) (k : NOk ss nd') (hU : ∀ s ∈ ss, s.one ∈ U ∧ s.other ∈ U) (hc : ∀ s ∈ ss, s.change ≤ 9) : gt nd = gt nd' := by
  funext v
  cases e : gt nd v with
  | none =>
    cases e2 : gt nd' v with
    | none => rfl
    | some x =>
      obtain ⟨y, h1, _⟩ := k.half h hU hc e2
      rw [e] at h1
      cases h1
  | some x =>
    obtain ⟨y, h1, h2⟩ := h.half k hU hc e
    obtain ⟨z, h3, h4⟩ := k.half h hU hc h1
    rw [e] at h3
    cases h3
    rw [h1]
    congr 1
    omega
end AA

set_option Elab.async false
set_option linter.all false
set_option maxRecDepth 100000
set_option maxHeartbeats 4000000
/-! The cheapest ring, without a heap. -/
namespace AA
open PySem PySem.Spec PyProof.Rows L2 Evl
/-- what a step costs above a rate, as often as its bottom -/
def wAb (pr rt : Int × Int) (s : St5) : Int := rt.2 * pr.1 * s.p + rt.2 * pr.2 * s.q - rt.1 * s.ticks
/-- what a step costs -/
def cOf (pr : Int × Int) (s : St5) : Int := pr.1 * s.p + pr.2 * s.q
def cSum (pr : Int × Int) (ws : List St5) : Int := pr.1 * (ws.map (·.p)).sum + pr.2 * (ws.map (·.q)).sum
def tSum (ws : List St5) : Int := (ws.map (·.ticks)).sum
theorem cSum_cons (pr : Int × Int) (s : St5) (ws : List St5) : cSum pr (s :: ws) = cOf pr s + cSum pr ws := by
  unfold cSum cOf
  rw [List.map_cons, List.map_cons, List.sum_cons, List.sum_cons, Int.mul_add, Int.mul_add]
  omega
theorem tSum_cons (s : St5) (ws : List St5) : tSum (s :: ws) = s.ticks + tSum ws := rfl
theorem wAb_eq (pr rt : Int × Int) (s : St5) : wAb pr rt s = rt.2 * cOf pr s - rt.1 * s.ticks := by
  unfold wAb cOf
  rw [Int.mul_add, ← Int.mul_assoc, ← Int.mul_assoc]
theorem wAb_sum (pr rt : Int × Int) : ∀ ws : List St5, (ws.map (wAb pr rt)).sum = rt.2 * cSum pr ws - rt.1 * tSum ws
  | [] => by simp [cSum, tSum]
  | s :: ws => by
    rw [List.map_cons, List.sum_cons, wAb_sum pr rt ws, cSum_cons, tSum_cons, wAb_eq, Int.mul_add, Int.mul_add]
    omega
/-! ### sums over some of the steps -/
theorem perm_sum {l m : List Int} (h : l.Perm m) : l.sum = m.sum := by
  induction h with
  | nil => rfl
  | cons x _ ih => rw [List.sum_cons, List.sum_cons, ih]
  | swap x y l =>
    simp only [List.sum_cons]
    omega
  | trans _ _ h1 h2 => rw [h1, h2]
theorem sum_sub {f : St5 → Int} : ∀ (ws ss : List St5), ws.Nodup → (∀ s ∈ ws, s ∈ ss) → (∀ s ∈ ss, 0 ≤ f s) → (ws.map f).sum ≤ (ss.map f).sum
  | [], [], _, _, _ => Int.le_refl _
  | [], s :: ss, _, _, h => by
    have := sum_sub (f := f) [] ss List.nodup_nil (fun s h => absurd h (by simp)) fun t ht => h t (List.mem_cons_of_mem _ ht)
    have h0 := h s List.mem_cons_self
    rw [List.map_cons, List.sum_cons]
    simp only [List.map_nil, List.sum_nil] at this ⊢
    omega
  | w :: ws, ss, hn, hs, h => by
    have hn' := List.nodup_cons.mp hn
    have hw := hs w List.mem_cons_self
    have ih := sum_sub (f := f) ws (ss.erase w) hn'.2 (fun y hy => (List.mem_erase_of_ne fun (e : y = w) => hn'.1 (e ▸ hy)).mpr (hs y (List.mem_cons_of_mem _ hy))) fun s hs => h s (List.mem_of_mem_erase hs)
    have hp := List.perm_cons_erase hw
    have e : (ss.map f).sum = ((w :: ss.erase w).map f).sum := perm_sum (hp.map f)
    rw [e, List.map_cons, List.map_cons, List.sum_cons, List.sum_cons]
    omega
theorem IsRg.nds {ss ws : List St5} (h : IsRg ss ws) : ws.Nodup := List.Pairwise.imp (fun q e => q (by rw [e])) (List.pairwise_map.mp h.nd)
/-! ### heights show that no ring is below -/
theorem feas_walk {W : St5 → Int} {ss : List St5} {sm : List (Int × Int)} (h : ∀ s ∈ ss, ∀ a, gt sm s.one = some a → ∃ c, gt sm s.other = some c ∧ c ≤ a + W s) : ∀ (a : Int) (L : List St5) (e x : Int), Wlk5 a L e → (∀ s ∈ L, s ∈ ss) → gt sm a = some x → ∃ y, gt sm e = some y ∧ y ≤ x + (L.map W).sum
  | a, [], e, x, hw, _, hx => by
    have : a = e := hw
    subst this
    exact ⟨x, hx, by simp⟩
  | a, s :: L, e, x, hw, hs, hx => by
    obtain ⟨h1, h2⟩ := hw
    rw [← h1] at hx
    obtain ⟨c, hc, hle⟩ := h s (hs s List.mem_cons_self) x hx
    obtain ⟨y, hy, hle2⟩ := feas_walk h s.other L e c h2 (fun t ht => hs t (List.mem_cons_of_mem _ ht)) hc
    refine ⟨y, hy, ?_⟩
    rw [List.map_cons, List.sum_cons]
    omega
theorem feas_rch {W : St5 → Int} {ss : List St5} {sm : List (Int × Int)} (h : ∀ s ∈ ss, ∀ a, gt sm s.one = some a → ∃ c, gt sm s.other = some c ∧ c ≤ a + W s) {p v : Int} (hp : (gt sm p).isSome = true) (hr : Rch (ss.map fun s => (s.one, s.other)) [p] v) : (gt sm v).isSome = true := by
  induction hr with
  | base hm => rw [List.mem_singleton.mp hm]; exact hp
  | step _ he ih =>
    obtain ⟨s, hs, e⟩ := List.mem_map.mp he
    cases e
    cases hg : gt sm s.one with
    | none =>
      rw [hg] at ih
      cases ih
    | some a =>
      obtain ⟨c, hc, _⟩ := h s hs a hg
      rw [hc]
      rfl
/-- a ring that one can come to from a place -/
def RgFrom (ss : List St5) (p : Int) (ws : List St5) : Prop := IsRg ss ws ∧ ∀ s ∈ ws, Rch (ss.map fun s => (s.one, s.other)) [p] s.one
theorem feas_ring {W : St5 → Int} {ss : List St5} {sm : List (Int × Int)} (h : ∀ s ∈ ss, ∀ a, gt sm s.one = some a → ∃ c, gt sm s.other = some c ∧ c ≤ a + W s) {p : Int} (hp : (gt sm p).isSome = true) {ws : List St5} (hr : RgFrom ss p ws) : 0 ≤ (ws.map W).sum := by
  obtain ⟨q, hq⟩ := hr.1.round
  obtain ⟨s, L, rfl⟩ : ∃ s L, ws = s :: L := by
    cases hws : ws with
    | nil => exact absurd hws hr.1.ne
    | cons s L => exact ⟨s, L, rfl⟩
  have h1 := feas_rch h hp (hr.2 s List.mem_cons_self)
  have h2 : s.one = q := hq.1
  rw [h2] at h1
  cases hg : gt sm q with
  | none =>
    rw [hg] at h1
    cases h1
  | some x =>
    obtain ⟨y, hy, hle⟩ := feas_walk h q _ q x hq hr.1.sub hg
    rw [hg] at hy
    cases hy
    omega
/-! ### ever cheaper rings -/
def chp (ss : List St5) (p : Int) (pr : Int × Int) : Nat → Int × Int → Option (List St5) → Option (List St5)
  | 0, _, best => best
  | f + 1, rt, best => match (sorT (wAb pr rt) ss [(p, 0)]).2 with
    | none => best
    | some ws => chp ss p pr f (cSum pr ws, tSum ws) (some ws)
/-! ### this comes to an end -/
def fac : Nat → Nat
  | 0 => 1
  | n + 1 => (n + 1) * fac n
theorem fac_pos : ∀ n, 1 ≤ fac n
  | 0 => Nat.le_refl 1
  | n + 1 => Nat.mul_pos (Nat.succ_pos n) (fac_pos n)
theorem fac_dvd {b : Nat} (h0 : 1 ≤ b) : ∀ n, b ≤ n → b ∣ fac n
  | 0, h => by omega
  | n + 1, h => by
    by_cases q : b = n + 1
    · rw [q]
      exact Nat.dvd_mul_right _ _
    · exact Nat.dvd_trans (fac_dvd h0 n (by omega)) (Nat.dvd_mul_left _ _)
def bigA (pr : Int × Int) (ss : List St5) : Int := (ss.map fun s => ((cOf pr s).natAbs : Int)).sum
def bigD (ss : List St5) : Int := (fac (tSum ss).toNat : Nat)
theorem bigD_pos (ss : List St5) : 1 ≤ bigD ss := by
  have := fac_pos (tSum ss).toNat
  unfold bigD
  omega
def mesr (ss : List St5) (pr rt : Int × Int) : Int := rt.1 * (bigD ss / rt.2) + bigA pr ss * bigD ss
/-- a rate whose bottom divides -/
def RtOk (ss : List St5) (pr rt : Int × Int) : Prop := 1 ≤ rt.2 ∧ (∃ e, 1 ≤ e ∧ e ≤ bigD ss ∧ bigD ss = rt.2 * e) ∧ - bigA pr ss ≤ rt.1
theorem bigA_nn (pr : Int × Int) : ∀ ss : List St5, 0 ≤ bigA pr ss
  | [] => Int.le_refl _
  | s :: ss => by
    have := bigA_nn pr ss
    unfold bigA at this ⊢
    rw [List.map_cons, List.sum_cons]
    omega
theorem RtOk.div {ss : List St5} {pr rt : Int × Int} (h : RtOk ss pr rt) : ∃ e, 1 ≤ e ∧ e ≤ bigD ss ∧ bigD ss = rt.2 * e ∧ bigD ss / rt.2 = e := by
  obtain ⟨h1, ⟨e, h2, h3, h4⟩, _⟩ := h
  refine ⟨e, h2, h3, h4, ?_⟩
  rw [h4]
  exact Int.mul_ediv_cancel_left e (by omega)
theorem RtOk.nn {ss : List St5} {pr rt : Int × Int} (h : RtOk ss pr rt) : 0 ≤ mesr ss pr rt := by
  obtain ⟨e, h2, h3, h4, h5⟩ := h.div
  have h6 := h.2.2
  have hA := bigA_nn pr ss
  unfold mesr
  rw [h5]
  have g1 : -bigA pr ss * e ≤ rt.1 * e := Int.mul_le_mul_of_nonneg_right h6 (by omega)
  have g2 : bigA pr ss * e ≤ bigA pr ss * bigD ss := Int.mul_le_mul_of_nonneg_left h3 hA
  have g3 : -bigA pr ss * e = -(bigA pr ss * e) := Int.neg_mul _ _
  omega
theorem RtOk.lt {ss : List St5} {pr rt rt' : Int × Int} (h : RtOk ss pr rt) (h' : RtOk ss pr rt') (hlt : rt'.1 * rt.2 < rt.1 * rt'.2) : mesr ss pr rt' < mesr ss pr rt := by
  obtain ⟨e, h2, h3, h4, h5⟩ := h.div
  obtain ⟨e', h2', h3', h4', h5'⟩ := h'.div
  unfold mesr
  rw [h5, h5']
  have hD := bigD_pos ss
  have g : rt'.1 * e' < rt.1 * e := by
    refine Int.lt_of_mul_lt_mul_left (a := bigD ss) ?_ (by omega)
    have k1 : bigD ss * (rt'.1 * e') = rt'.1 * rt.2 * (e * e') := by
      rw [h4]
      simp only [Int.mul_assoc, Int.mul_comm, Int.mul_left_comm]
    have k2 : bigD ss * (rt.1 * e) = rt.1 * rt'.2 * (e * e') := by
      rw [h4']
      simp only [Int.mul_assoc, Int.mul_comm, Int.mul_left_comm]
    rw [k1, k2]
    exact Int.mul_lt_mul_of_pos_right hlt (Int.mul_pos (by omega) (by omega))
  omega
theorem cSum_ge (pr : Int × Int) : ∀ ws : List St5, -(ws.map fun s => ((cOf pr s).natAbs : Int)).sum ≤ cSum pr ws
  | [] => by simp [cSum]
  | s :: ws => by
    have := cSum_ge pr ws
    rw [cSum_cons, List.map_cons, List.sum_cons]
    omega
theorem tSum_ge : ∀ ws : List St5, (∀ s ∈ ws, 1 ≤ s.ticks) → (ws.length : Int) ≤ tSum ws
  | [], _ => Int.le_refl _
  | s :: ws, h => by
    have := tSum_ge ws fun t ht => h t (List.mem_cons_of_mem _ ht)
    have h1 := h s List.mem_cons_self
    rw [tSum_cons, List.length_cons]
    omega
theorem IsRg.rt {ss ws : List St5} {pr : Int × Int} (h : IsRg ss ws) (ht : ∀ s ∈ ss, 1 ≤ s.ticks) : RtOk ss pr (cSum pr ws, tSum ws) := by
  have h1 := tSum_ge ws fun s hs => ht s (h.sub s hs)
  have hl : 1 ≤ ws.length := List.length_pos_iff.mpr h.ne
  have h2 : tSum ws ≤ tSum ss := sum_sub (f := (·.ticks)) ws ss h.nds h.sub fun s hs => by have := ht s hs; omega
  have h3 : (ws.map fun s => ((cOf pr s).natAbs : Int)).sum ≤ bigA pr ss := sum_sub (f := fun s => ((cOf pr s).natAbs : Int)) ws ss h.nds h.sub fun s _ => by omega
  have h4 := cSum_ge pr ws
  refine ⟨by show 1 ≤ tSum ws; omega, ?_, by show -bigA pr ss ≤ cSum pr ws; omega⟩
  obtain ⟨e, he⟩ := fac_dvd (b := (tSum ws).toNat) (by omega) (tSum ss).toNat (by omega)
  have hp := fac_pos (tSum ss).toNat
  have he0 : 1 ≤ e := by
    refine Nat.pos_of_ne_zero fun z => ?_
    rw [z] at he
    omega
  have hle : e ≤ fac (tSum ss).toNat := by
    rw [he]
    exact Nat.le_mul_of_pos_left _ (by omega)
  refine ⟨e, by omega, by unfold bigD; omega, ?_⟩
  have hb : ((tSum ws).toNat : Int) = tSum ws := Int.toNat_of_nonneg (by omega)
  unfold bigD
  rw [he, Int.natCast_mul, hb]
/-- how many turns are enough -/
def chF (ss : List St5) (pr : Int × Int) (t0 : Int) : Nat := (mesr ss pr (t0, 1)).toNat + 1
structure ChOk (ss : List St5) (p : Int) (pr : Int × Int) (o : Option (List St5)) : Prop where
  none' : o = none → ∀ R, ¬ RgFrom ss p R
  some' : ∀ ws, o = some ws → RgFrom ss p ws ∧ ∀ R, RgFrom ss p R → cSum pr ws * tSum R ≤ cSum pr R * tSum ws
theorem chp_ok {ss : List St5} {p : Int} {pr : Int × Int} {U : List Int} (t0 : Int) (ht : ∀ s ∈ ss, 1 ≤ s.ticks) (hdear : ∀ s ∈ ss, cOf pr s < t0) (h00 : 0 ≤ t0) (hp : p ∈ U) (hU : ∀ s ∈ ss, s.other ∈ U) (hz : U.length ≤ 63) :
    ∀ (f : Nat) (rt : Int × Int) (best : Option (List St5)), ((best = none ∧ rt = (t0, 1)) ∨ ∃ ws, best = some ws ∧ rt = (cSum pr ws, tSum ws) ∧ RgFrom ss p ws) → mesr ss pr rt < f → ChOk ss p pr (chp ss p pr f rt best) := by
  have rt0 : ∀ (rt : Int × Int) (best : Option (List St5)), ((best = none ∧ rt = (t0, 1)) ∨ ∃ ws, best = some ws ∧ rt = (cSum pr ws, tSum ws) ∧ RgFrom ss p ws) → RtOk ss pr rt := by
    rintro rt best (⟨_, rfl⟩ | ⟨ws, _, rfl, h⟩)
    · have hA := bigA_nn pr ss
      exact ⟨Int.le_refl _, ⟨bigD ss, bigD_pos ss, Int.le_refl _, (Int.one_mul _).symm⟩, by show -bigA pr ss ≤ t0; omega⟩
    · exact h.1.rt ht
  intro f
  induction f with
  | zero =>
    intro rt best hb hm
    have := (rt0 rt best hb).nn
    omega
  | succ f ih =>
    intro rt best hb hm
    have hk : ∀ q, (gt [(p, (0 : Int))] q).isSome = true → q = p := fun q hq => by
      have := gt_mem.mp hq
      simpa using this
    have so := sorT_ok (W := wAb pr rt) (ss := ss) (I := [(p, 0)]) (U := U) (by simp) (fun q hq => hk q hq ▸ hp) hU hz (List.length_pos_of_mem hp)
    unfold chp
    cases hs : (sorT (wAb pr rt) ss [(p, 0)]).2 with
    | none =>
      obtain ⟨_, g2, g3⟩ := so.sums hs
      have gp := g2 p (by show (if p = p then some (0 : Int) else none).isSome = true; rw [if_pos rfl]; rfl)
      have hnn : ∀ R, RgFrom ss p R → 0 ≤ rt.2 * cSum pr R - rt.1 * tSum R := fun R hR => by
        have := feas_ring g3 gp hR
        rw [wAb_sum] at this
        exact this
      show ChOk ss p pr best
      rcases hb with ⟨rfl, rfl⟩ | ⟨ws, rfl, rfl, hw⟩
      · refine ⟨fun _ R hR => ?_, fun ws z => by cases z⟩
        have h1 := hnn R hR
        have h2 : ∀ L : List St5, (∀ s ∈ L, s ∈ ss) → cSum pr L + L.length ≤ t0 * tSum L := by
          intro L
          induction L with
          | nil => intro _; simp [cSum, tSum]
          | cons s L ihL =>
            intro hs
            have k1 := ihL fun t ht => hs t (List.mem_cons_of_mem _ ht)
            have k2 := hdear s (hs s List.mem_cons_self)
            have k3 := ht s (hs s List.mem_cons_self)
            have k4 : t0 * 1 ≤ t0 * s.ticks := Int.mul_le_mul_of_nonneg_left k3 h00
            rw [cSum_cons, tSum_cons, Int.mul_add, List.length_cons]
            omega
        have h3 := h2 R hR.1.sub
        have h4 : 1 ≤ R.length := List.length_pos_iff.mpr hR.1.ne
        have h1' : 0 ≤ 1 * cSum pr R - t0 * tSum R := h1
        omega
      · refine ⟨fun z => (by cases z), fun ws' z => ?_⟩
        obtain rfl : ws = ws' := Option.some.inj z
        refine ⟨hw, fun R hR => ?_⟩
        have h1 : 0 ≤ tSum ws * cSum pr R - cSum pr ws * tSum R := hnn R hR
        rw [Int.mul_comm (cSum pr R)]
        omega
    | some ws =>
      obtain ⟨g1, g2, g3⟩ := so.ring ws hs
      have hw : RgFrom ss p ws := ⟨g1, fun s hs => by
        obtain ⟨q, hq, hr⟩ := g3 s hs
        rw [hk q hq] at hr
        exact hr⟩
      rw [wAb_sum] at g2
      have r1 := rt0 rt best hb
      have r2 := g1.rt (pr := pr) ht
      have hlt := r1.lt r2 (by
        show cSum pr ws * rt.2 < rt.1 * tSum ws
        rw [Int.mul_comm (cSum pr ws)]
        omega)
      exact ih (cSum pr ws, tSum ws) (some ws) (.inr ⟨ws, rfl, rfl, hw⟩) (by omega)
/-- the cheapest ring -/
def cheap (ss : List St5) (p : Int) (pr : Int × Int) (t0 : Int) : Option (List St5) := chp ss p pr (chF ss pr t0) (t0, 1) none
theorem cheap_ok {ss : List St5} {p : Int} {pr : Int × Int} {U : List Int} (t0 : Int) (ht : ∀ s ∈ ss, 1 ≤ s.ticks) (hdear : ∀ s ∈ ss, cOf pr s < t0) (h00 : 0 ≤ t0) (hp : p ∈ U) (hU : ∀ s ∈ ss, s.other ∈ U) (hz : U.length ≤ 63) : ChOk ss p pr (cheap ss p pr t0) :=
  chp_ok t0 ht hdear h00 hp hU hz _ _ _ (.inl ⟨rfl, rfl⟩) (by unfold chF; omega)
end AA

set_option Elab.async false
set_option linter.all false
set_option maxRecDepth 100000
set_option maxHeartbeats 4000000
/-! lowered. -/
namespace AA
open PySem PySem.Spec PyProof.Rows L2 Evl
theorem get_len {α : Type} {l : List α} {i : Nat} {x : α} (h : l[i]? = some x) : i < l.length := (List.getElem?_eq_some_iff.mp h).1
/-- a dict from integers to integers -/
def smK (l : List (Int × Int)) : List (Key × V) := l.map fun e => (Sum.inl e.1, V.int e.2)
theorem smK_val (p : Int) : ∀ l : List (Int × Int), valV (smK l) (Sum.inl p) = (gt l p).map V.int
  | [] => rfl
  | e :: l => by
    by_cases h : e.1 = p
    · have h1 : valV (smK (e :: l)) (Sum.inl p) = some (V.int e.2) := valV_pos (p := (Sum.inl e.1, V.int e.2)) (by rw [h])
      have h2 : gt (e :: l) p = some e.2 := if_pos h
      rw [h1, h2]
      rfl
    · have h1 : valV (smK (e :: l)) (Sum.inl p) = valV (smK l) (Sum.inl p) := valV_neg (p := (Sum.inl e.1, V.int e.2)) fun z => h (Sum.inl.inj z)
      have h2 : gt (e :: l) p = gt l p := if_neg h
      rw [h1, h2, smK_val p l]
/-- a dict from integers to steps -/
inductive CmD (K : PySem.W.Frag) (B : Hp) : List (Key × V) → List (Int × St5) → Prop
  | nil : CmD K B [] []
  | cons {p : Int} {s : St5} {t : Addr} {kvs : List (Key × V)} {cm : List (Int × St5)} (h : Dp K B (.ref t) (stD s)) (r : CmD K B kvs cm) : CmD K B ((Sum.inl p, .ref t) :: kvs) ((p, s) :: cm)
section
variable {K : PySem.W.Frag} {B : Hp}
theorem CmD.len : ∀ {kvs : List (Key × V)} {cm : List (Int × St5)}, CmD K B kvs cm → kvs.length = cm.length
  | _, _, .nil => rfl
  | _, _, .cons _ r => by rw [List.length_cons, List.length_cons, r.len]
theorem CmD.val {p : Int} : ∀ {kvs : List (Key × V)} {cm : List (Int × St5)}, CmD K B kvs cm → (gt cm p = none ∧ valV kvs (Sum.inl p) = none) ∨ ∃ s t, gt cm p = some s ∧ valV kvs (Sum.inl p) = some (.ref t) ∧ Dp K B (.ref t) (stD s)
  | _, _, .nil => .inl ⟨rfl, rfl⟩
  | _, _, .cons (p := q) (s := s) (t := t) (kvs := kvs) (cm := cm) h r => by
    by_cases e : q = p
    · exact .inr ⟨s, t, if_pos e, valV_pos (p := (Sum.inl q, V.ref t)) (by rw [e]), h⟩
    · have h1 : valV ((Sum.inl q, V.ref t) :: kvs) (Sum.inl p) = valV kvs (Sum.inl p) := valV_neg (p := (Sum.inl q, V.ref t)) fun z => e (Sum.inl.inj z)
      have h2 : gt ((q, s) :: cm) p = gt cm p := if_neg e
      rw [h1, h2]
      exact r.val
theorem put_new' {α : Type} {p : Int} {x : α} : ∀ {l : List (Int × α)}, gt l p = none → put l p x = l ++ [(p, x)]
  | [], _ => rfl
  | e :: l, h => by
    have h' : (if e.1 = p then some e.2 else gt l p) = none := h
    by_cases q : e.1 = p
    · rw [if_pos q] at h'
      cases h'
    · rw [if_neg q] at h'
      show (if e.1 = p then (p, x) :: l else e :: put l p x) = _
      rw [if_neg q, put_new' h']
      rfl
theorem gt_none {α : Type} {p : Int} {l : List (Int × α)} (h : gt l p = none) : ∀ e ∈ l, e.1 ≠ p := fun e he q => by
  have := gt_mem.mpr (List.mem_map.mpr ⟨e, he, q⟩)
  rw [h] at this
  cases this
/-- one key at most is the one that is put -/
theorem put_map {α : Type} {p : Int} {x : α} : ∀ {l : List (Int × α)}, (l.map (·.1)).Nodup → (gt l p).isSome = true → put l p x = l.map fun e => if e.1 = p then (p, x) else e
  | [], _, h => by cases h
  | e :: l, hn, h => by
    rw [List.map_cons] at hn
    have hn' := List.nodup_cons.mp hn
    show (if e.1 = p then (p, x) :: l else e :: put l p x) = _
    by_cases q : e.1 = p
    · rw [if_pos q, List.map_cons, if_pos q]
      congr 1
      have : ∀ y ∈ l, (if y.1 = p then (p, x) else y) = y := fun y hy => if_neg fun z => hn'.1 (List.mem_map.mpr ⟨y, hy, by rw [z, q]⟩)
      rw [List.map_congr_left this, List.map_id']
    · have h' : (gt l p).isSome = true := by
        have h2 : (if e.1 = p then some e.2 else gt l p).isSome = true := h
        rw [if_neg q] at h2
        exact h2
      rw [if_neg q, List.map_cons, if_neg q, put_map hn'.2 h']
theorem smK_put {p x : Int} {l : List (Int × Int)} (hn : (l.map (·.1)).Nodup) : putK (smK l) (Sum.inl p) (V.int x) = smK (put l p x) := by
  cases h : gt l p with
  | none =>
    rw [putK_new _ (by rw [smK_val, h]; rfl), put_new' h]
    unfold smK
    rw [List.map_append]
    rfl
  | some y =>
    have hs : (gt l p).isSome = true := by rw [h]; rfl
    rw [put_map hn hs]
    unfold putK
    have h1 : ((smK l).any fun kv => decide (kv.1 = Sum.inl p)) = true := by
      rw [valV_any, smK_val, h]
      rfl
    rw [if_pos h1]
    unfold smK
    rw [List.map_map, List.map_map]
    refine List.map_congr_left fun e _ => ?_
    show (if (Sum.inl e.1 : Key) = Sum.inl p then ((Sum.inl e.1 : Key), V.int x) else (Sum.inl e.1, V.int e.2)) = ((Sum.inl (if e.1 = p then (p, x) else e).1 : Key), V.int (if e.1 = p then (p, x) else e).2)
    by_cases q : e.1 = p
    · rw [if_pos (by rw [q]), if_pos q, q]
    · rw [if_neg (fun z => q (Sum.inl.inj z)), if_neg q]
theorem CmD.snoc {p : Int} {s : St5} {t : Addr} (h : Dp K B (.ref t) (stD s)) : ∀ {kvs : List (Key × V)} {cm : List (Int × St5)}, CmD K B kvs cm → CmD K B (kvs ++ [(Sum.inl p, .ref t)]) (cm ++ [(p, s)])
  | _, _, .nil => .cons h .nil
  | _, _, .cons g r => .cons g (r.snoc h)
theorem CmD.turn {p : Int} {s : St5} {t : Addr} (h : Dp K B (.ref t) (stD s)) : ∀ {kvs : List (Key × V)} {cm : List (Int × St5)}, CmD K B kvs cm → CmD K B (kvs.map fun kv => if kv.1 = Sum.inl p then (kv.1, V.ref t) else kv) (cm.map fun e => if e.1 = p then (p, s) else e)
  | _, _, .nil => .nil
  | _, _, .cons (p := q) (s := s') (t := t') (kvs := kvs) (cm := cm) g r => by
    rw [List.map_cons, List.map_cons]
    by_cases e : q = p
    · rw [if_pos (show (Sum.inl q : Key) = Sum.inl p by rw [e]), if_pos (show ((q, s') : Int × St5).1 = p from e), e]
      exact .cons h (r.turn h)
    · rw [if_neg (show ¬ (Sum.inl q : Key) = Sum.inl p from fun z => e (Sum.inl.inj z)), if_neg (show ¬ ((q, s') : Int × St5).1 = p from e)]
      exact .cons g (r.turn h)
theorem CmD.put {p : Int} {s : St5} {t : Addr} {kvs : List (Key × V)} {cm : List (Int × St5)} (c : CmD K B kvs cm) (hn : (cm.map (·.1)).Nodup) (h : Dp K B (.ref t) (stD s)) : CmD K B (putK kvs (Sum.inl p) (.ref t)) (AA.put cm p s) := by
  rcases c.val (p := p) with ⟨h1, h2⟩ | ⟨s', t', h1, h2, _⟩
  · rw [putK_new _ h2, put_new' h1]
    exact c.snoc h
  · rw [put_map hn (by rw [h1]; rfl)]
    unfold putK
    rw [if_pos (by rw [valV_any, h2]; rfl)]
    exact c.turn h
end
/-- all stands but two things -/
def Ex2 (a b : Addr) (H H' : Hp) : Prop := ∀ x u, x ≠ a → x ≠ b → H x = some u → H' x = some u
theorem Ex2.refl {a b : Addr} {H : Hp} : Ex2 a b H H := fun _ _ _ _ h => h
theorem Ex2.trans {a b : Addr} {H H1 H2 : Hp} (h : Ex2 a b H H1) (k : Ex2 a b H1 H2) : Ex2 a b H H2 := fun x u h1 h2 h3 => k x u h1 h2 (h x u h1 h2 h3)
theorem Ex2.of {a b : Addr} {H H1 : Hp} (h : Ex H H1) : Ex2 a b H H1 := fun x u _ _ h3 => h x u h3
theorem Ex2.fst {a b : Addr} {H : Hp} {o : HO} : Ex2 a b H (upd H a o) := fun x u h1 _ h3 => by rw [upd_ne h1]; exact h3
theorem Ex2.snd {a b : Addr} {H : Hp} {o : HO} : Ex2 a b H (upd H b o) := fun x u _ h2 h3 => by rw [upd_ne h2]; exact h3
theorem lowTo_none {W : St5 → Int} {sm : List (Int × Int)} {s : St5} (h : gt sm s.one = none) : lowTo W sm s = none := by
  unfold lowTo
  rw [h]
theorem lowTo_new {W : St5 → Int} {sm : List (Int × Int)} {s : St5} {a : Int} (h : gt sm s.one = some a) (h2 : gt sm s.other = none) : lowTo W sm s = some (a + W s) := by
  unfold lowTo
  rw [h]
  show (match gt sm s.other with | none => some (a + W s) | some c => if a + W s < c then some (a + W s) else none) = _
  rw [h2]
theorem lowTo_old {W : St5 → Int} {sm : List (Int × Int)} {s : St5} {a c : Int} (h : gt sm s.one = some a) (h2 : gt sm s.other = some c) : lowTo W sm s = if a + W s < c then some (a + W s) else none := by
  unfold lowTo
  rw [h]
  show (match gt sm s.other with | none => some (a + W s) | some c => if a + W s < c then some (a + W s) else none) = _
  rw [h2]
theorem low1_no {W : St5 → Int} {b : BS} {s : St5} (h : lowTo W b.sm s = none) : low1 W b s = b := by
  unfold low1
  rw [h]
theorem low1_yes {W : St5 → Int} {b : BS} {s : St5} {x : Int} (h : lowTo W b.sm s = some x) : low1 W b s = ⟨put b.sm s.other x, put b.cm s.other s, some s.other⟩ := by
  unfold low1
  rw [h]
section
variable {P : Program} {w : World} {K : PySem.W.Frag} {mg : Str → Option Value} {base : Heap}
end
end AA

set_option Elab.async false
set_option linter.all false
set_option maxRecDepth 100000
set_option maxHeartbeats 4000000
/-! list(reversed(xs)). -/
namespace AA
open PySem PySem.Spec PyProof.Rows L2 Evl
section
variable {P : Program} {w : World} {A : Around} {E : Value → Shared → Prop} {s : Shared}
theorem hint_rev {it l : Addr} {i : Int} {Q : Bool → Shared → Prop} (hi : s.heap.IsRevIter it l i) (k : ∀ b, Q b s) : wpAny (model P w) A (Builtin.List.listLengthHint (.ref it)) Q E s := by
  have ht := hi.typeIs
  have h1 := RT.nolen_lri
  have h2 := RT.hint_lri
  unfold Builtin.List.listLengthHint
  refine wpAny_bind (wpAny_specialOf ht h1 ?_)
  dsimp only
  rw [if_neg (by decide +kernel), if_neg (by decide +kernel)]
  refine wpAny_bind (wpAny_specialOf ht h2 ?_)
  dsimp only
  have h3 : splitId "list_reverseiterator.__length_hint__" = some ("list_reverseiterator", "__length_hint__") := by decide +kernel
  rw [h3]
  dsimp only
  have h4 : isSubtype (.type "list_reverseiterator") (.type "list_reverseiterator") = pure true := by rfl
  refine wpAny_bind (wpAny_isInstance ht h4 ?_)
  rw [if_neg (by decide +kernel), if_pos (by decide +kernel), if_neg (by decide +kernel)]
  exact wpAny_pure (k false)
theorem mv_trans {wr : List Addr} {s z t : Shared} (h : Moved wr (fun a b => b = a) s z) (k : Moved wr (fun a b => b = a) z t) : Moved wr (fun a b => b = a) s t :=
  ⟨fun b o h1 h2 => k.heap b o h1 (h.heap b o h1 h2), k.gens.trans h.gens, k.drawn.trans h.drawn, k.os.trans h.os, Nat.le_trans h.toks k.toks⟩
theorem listUpd {S : Addr} {xs : Array Value} {c : Nat} {f : Array Value → Array Value} {Q : Unit → Shared → Prop} (hS : s.heap.get? S = some { cls := .type "list", data := .seq xs c }) (hz : xs.size ≤ 4 ∧ (f xs).size ≤ 4)
    (k : ∀ (z : Shared), Moved [S] (fun a b => b = a) s z → (∃ c', z.heap.get? S = some { cls := .type "list", data := .seq (f xs) c' }) → Q () z) : wpAny (model P w) A (Builtin.List.listUpdate (.ref S) f) Q E s := by
  have hsz : sizeLine = 16777216 := rfl
  show wpAny (model P w) A (updateSeq S f) Q E s
  refine wpAny_updateSeq hS rfl ?_ (by omega) (by omega)
  refine k _ ⟨fun b o hb h => ?_, rfl, rfl, rfl, Nat.le_refl _⟩ ⟨_, Heap.get?_update_self (Obj.mapSeq f) hS rfl⟩
  exact (Heap.get?_update_other _ (Obj.mapSeq f) (fun q => hb (by rw [q]; exact List.mem_cons_self))).trans h
theorem ext_rev {it l S : Addr} {items : Array Value} {res : Value} {c0 : Nat} {R : Result → Shared → Prop} (hh : A.handled = none) (hi : s.heap.IsRevIter it l (items.size - 1)) (hl : s.heap.IsList l items) (ne : l ≠ it) (hS : s.heap.get? S = some { cls := .type "list", data := .seq #[] c0 }) (Si : S ≠ it) (Sl : S ≠ l) (hz : items.size ≤ sizeLine)
    (k : ∀ (s' : Shared) (acc : Array Value) (c : Nat), Moved [S, it] (fun a b => b = a) s s' → s'.heap.get? S = some { cls := .type "list", data := .seq acc c } → ItemsOf (fun i v => items[items.size - 1 - i]? = some v) acc items.size → R (.ok (.ret res)) s') :
    wpAny (model P w) A.in1 (Builtin.List.listExtendWith (.ref S) (.ref it) res) (fun fin s' => match fin with
      | .done f => R (.ok f) s'
      | .again c' => c'.quiet = true ∧ codeAny (model P w) A c' R s') (fun e s' => R (.error e) s') s := by
  have ht := hi.typeIs
  unfold Builtin.List.listExtendWith
  refine wpAny_bind (wpAny_typeOf ht ?_)
  rw [if_neg (by
    have h1 : Builtin.List.listSameRef (.ref S) (.ref it) = false := by
      show (S == it) = false
      exact beq_eq_false_iff_ne.mpr Si
    rw [h1]
    decide +kernel)]
  refine wpAny_bind (wpAny_pyIter_revIter hi ?_)
  refine wpAny_bind (wpAny_holding (hint_rev hi fun b => ?_))
  dsimp only
  have hw : Walks P w A.in1 it [it, l] [it] items.size (fun i v => items[items.size - 1 - i]? = some v) fun i h => i ≤ items.size ∧ h.IsRevIter it l (↑items.size - 1 - ↑i) ∧ h.IsList l items := Walks.listRev (by exact hh) it l ne items
  have off : S ∉ [it, l] := by
    simp only [List.mem_cons, List.not_mem_nil, or_false, not_or]
    exact ⟨Si, Sl⟩
  have loop : ∀ (z : Shared) (c : Nat), Moved [S, it] (fun a b => b = a) s z → z.heap.get? S = some { cls := .type "list", data := .seq #[] c } → z.heap.IsRevIter it l (items.size - 1) → z.heap.IsList l items → codeAny (model P w) A (Code.builtin "list.extend.loop" { pos := [.ref S, .ref it, res] }) R z := by
    intro z c hm hzS hzi hzl
    refine codeAny_extend_loopS hw.toS hz S off res (items.size - 0) 0 z #[] c rfl (Nat.zero_le _) ⟨Nat.zero_le _, by simpa using hzi, hzl⟩ hzS (.nil _) fun s' acc c' hm' hs' hits => ?_
    exact k s' acc c' (mv_trans hm hm') hs' hits
  have fin : ∀ (z : Shared) (c : Nat), Moved [S, it] (fun a b => b = a) s z → z.heap.get? S = some { cls := .type "list", data := .seq #[] c } → z.heap.IsRevIter it l (items.size - 1) → z.heap.IsList l items → wpAny (model P w) A.in1 (again (Code.builtin "list.extend.loop" { pos := [.ref S, .ref it, res] })) (fun fin s' => match fin with
      | .done f => R (.ok f) s'
      | .again c' => c'.quiet = true ∧ codeAny (model P w) A c' R s') (fun e s' => R (.error e) s') z := fun z c h1 h2 h3 h4 => wpAny_pure ⟨plainId_quiet F.plain_extend_loop _, loop z c h1 h2 h3 h4⟩
  split
  · refine wpAny_bind (wpAny_rule ?_)
    refine wpAny_bind ?_
    unfold Builtin.List.listTouch
    refine wpAny_bind ?_
    refine listUpd hS (by simp) fun z1 m1 ⟨c1, g1⟩ => ?_
    refine listUpd g1 (by simp) fun z2 m2 ⟨c2, g2⟩ => ?_
    have e2 : (((#[] : Array Value).push Value.none).pop) = #[] := rfl
    rw [e2] at g2
    have m12 := mv_trans m1 m2
    have kp : ∀ b o, b ≠ S → s.heap.get? b = some o → z2.heap.get? b = some o := fun b o hb h => m12.heap b o (by simpa using hb) h
    obtain ⟨oi, hi1, hi2, hi3⟩ := hi
    obtain ⟨ol, hl1, hl2⟩ := hl
    refine fin z2 _ ⟨fun b o hb h => kp b o (fun q => hb (by rw [q]; exact List.mem_cons_self)) h, m12.gens, m12.drawn, m12.os, m12.toks⟩ g2 ⟨oi, kp _ _ Si.symm hi1, hi2, hi3⟩ ⟨ol, kp _ _ Sl.symm hl1, hl2⟩
  · exact fin s c0 ⟨fun b o _ h => h, rfl, rfl, rfl, Nat.le_refl _⟩ hS hi hl
theorem call_list_rev {it l : Addr} {items : Array Value} {Q : Value → Shared → Prop} (hh : A.handled = none) (hi : s.heap.IsRevIter it l (items.size - 1)) (hl : s.heap.IsList l items) (ne : l ≠ it) (hz : items.size ≤ sizeLine)
    (k : ∀ (h' : Heap) (tk : Nat) (acc : Array Value) (c : Nat), (∀ b o, b ≠ it → s.heap.get? b = some o → h'.get? b = some o) → h'.get? s.heap.objs.size = some { cls := .type "list", data := .seq acc c } → ItemsOf (fun i v => items[items.size - 1 - i]? = some v) acc items.size → Q (.ref s.heap.objs.size) { s with heap := h', toks := tk }) :
    wpAny (model P w) A (call (.type "list") [.ref it]) Q E s := by
  refine callType_codes (Q₁ := fun u z => u = .ref s.heap.objs.size ∧ z = { s with heap := s.heap.push { cls := .type "list", data := .seq #[] } }) F.called_list (F.typeCall_list_1 _) F.entry_list_init (code_list_new _ ⟨rfl, rfl⟩) fun obj s1 h1 => ?_
  obtain ⟨rfl, rfl⟩ := h1
  have new : (s.heap.push { cls := .type "list", data := .seq #[] }).get? s.heap.objs.size = some { cls := .type "list", data := .seq #[] } := Heap.get?_push_size _ rfl
  have kp0 : ∀ b o, s.heap.get? b = some o → (s.heap.push { cls := .type "list", data := .seq #[] }).get? b = some o := fun b o h => Heap.get?_push_of_some _ h
  have Si : s.heap.objs.size ≠ it := by
    obtain ⟨o, h1, _⟩ := hi
    exact Ne.symm (Nat.ne_of_lt (Heap.lt_size h1))
  have Sl : s.heap.objs.size ≠ l := by
    obtain ⟨o, h1, _⟩ := hl
    exact Ne.symm (Nat.ne_of_lt (Heap.lt_size h1))
  refine ⟨⟨_, new, rfl⟩, F.args_list_init_2 _ _, ?_⟩
  unfold Builtin.«list.__init__»
  dsimp only
  rw [if_neg (by decide +kernel), if_neg (show ¬ ([Value.ref it] : List Value).length > 1 from Nat.lt_irrefl 1)]
  refine wpAny_bind (wpAny_listItems new rfl ?_)
  refine wpAny_bind (listUpd new (by simp) fun z m ⟨c, g⟩ => ?_)
  refine wpAny_bind (wpAny_letGo ?_)
  have kp1 : ∀ b o, b ≠ s.heap.objs.size → s.heap.get? b = some o → z.heap.get? b = some o := fun b o hb h => m.heap b o (by simpa using hb) (kp0 b o h)
  refine ext_rev (A := A.in1) (by exact hh) (items := items) (l := l) ?_ ?_ ne g Si Sl hz fun z2 acc c2 m2 g2 hits => ?_
  · obtain ⟨o, h1, h2⟩ := hi
    exact ⟨o, kp1 _ _ Si.symm h1, h2⟩
  · obtain ⟨o, h1, h2⟩ := hl
    exact ⟨o, kp1 _ _ Sl.symm h1, h2⟩
  · refine ⟨rfl, ?_⟩
    obtain ⟨h', g4, d', tk', os'⟩ := z2
    obtain ⟨hz', g5, d5, tk5, os5⟩ := z
    obtain rfl : g5 = s.gens := m.gens
    obtain rfl : d5 = s.drawn := m.drawn
    obtain rfl : os5 = s.os := m.os
    obtain rfl : g4 = s.gens := m2.gens
    obtain rfl : d' = s.drawn := m2.drawn
    obtain rfl : os' = s.os := m2.os
    refine k h' tk' acc c2 (fun b o hb h => ?_) g2 hits
    have hbS : b ≠ s.heap.objs.size := Nat.ne_of_lt (Heap.lt_size h)
    exact m2.heap b o (by simp only [List.mem_cons, List.not_mem_nil, or_false, not_or]; exact ⟨hbS, hb⟩) (kp1 b o hbS h)
end
section
def tLstRev (K : PySem.W.Frag) (te : TE) : TE := fun σ H Q => te σ H fun v H1 => ∃ (a : Addr) (xs : List V), v = .ref a ∧ SqL K H1 a xs ∧ ∀ q, H1 q = none → Q (.ref q) (upd H1 q (.lst xs.reverse))
theorem pe_listRev {X : Cx} {e : Expr} {te : TE} {p p2 pos pos2 : Pos} (hc : X.calm = true) (hg : Gl X "list") (hm : X.mg "list" = none) (hg2 : Gl X "reversed") (hm2 : X.mg "reversed" = none) (he : PE X e te)
    (na : starEach [e] X.env = (false, eval e X.env) :: starEach [] X.env := by rfl) : PE X (.Call (.Name "list" p) [.Call (.Name "reversed" p2) [e] [] pos2] [] pos) (tLstRev X.K te) := by
  refine ⟨fun pins s σ H Q I h => ?_⟩
  refine Call_ (ld_blt I hg hm boot_list ?_)
  refine PyProof.Rows.callWith_type1 (PyProof.Rows.args_cons ?_ rfl) rfl rfl
  refine Call_ (ld_blt I hg2 hm2 PyProof.Rows.boot_reversed ?_)
  refine PyProof.Rows.callWith_type1 (PyProof.Rows.args_cons (thn (he.run pins s σ H _ I h) fun v s1 ⟨x, H1, I1, r1, q1⟩ => PyProof.Rows.args_nil ?_) na) na rfl
  obtain ⟨a, xs, rfl, hq, q1⟩ := q1
  cases r1
  obtain ⟨its, rv, pl, hz⟩ := I1.list hq
  have hlen : its.toArray.size = xs.length := by rw [List.size_toArray, ← rv.length]
  refine call_reversed_list pl.isList ?_
  refine PyProof.Rows.args_nil ?_
  have hal : a ≠ s1.heap.objs.size := by
    obtain ⟨o, h1, _⟩ := pl.isList
    exact Nat.ne_of_lt (Heap.lt_size h1)
  refine call_list_rev (items := its.toArray) (l := a) (it := s1.heap.objs.size) (I1.ok.hd hc) ⟨_, Heap.get?_push_size _ rfl, rfl, rfl⟩ (pl.isList.push _) hal (by rw [hlen]; omega) fun h' tk acc c kp hS hits => ?_
  have hS0 : H1 (s1.heap.objs.size + 1) = none := I1.hok.fresh (Nat.le_succ _)
  have eS : (s1.heap.push (revObj a (↑its.toArray.size - 1))).objs.size = s1.heap.objs.size + 1 := Heap.size_push ..
  rw [eS] at hS ⊢
  refine ⟨.ref (s1.heap.objs.size + 1), upd H1 (s1.heap.objs.size + 1) (.lst xs.reverse), ?_, rfl, q1 _ hS0⟩
  refine I1.turnedNew (t' := tk) (ch := [s1.heap.objs.size]) (fun b o hb h => kp b o (fun z => hb (by rw [z]; exact List.mem_cons_self)) (Heap.get?_push_of_some _ h)) (fun b hb => ?_) (Nat.le_succ _) ?_
  · obtain rfl := List.mem_singleton.mp hb
    exact I1.fpOk (Nat.le_refl _) (I1.hok.fresh (Nat.le_refl _))
  · exact ⟨by rw [List.length_reverse]; exact hz, _, c, RT.vals_rev rv hits, hS⟩
end
end AA

set_option Elab.async false
set_option linter.all false
set_option maxRecDepth 100000
set_option maxHeartbeats 4000000
/-! A dict of what was seen; the last one of steps. -/
namespace AA
open PySem PySem.Spec PyProof.Rows L2 Evl
def seenK (l : List Int) : List (Key × V) := l.map fun v => (Sum.inl v, V.bl true)
theorem seenK_val {v : Int} : ∀ l : List Int, valV (seenK l) (Sum.inl v) = if v ∈ l then some (V.bl true) else none
  | [] => rfl
  | x :: l => by
    by_cases e : x = v
    · have : valV (seenK (x :: l)) (Sum.inl v) = some (V.bl true) := valV_pos (p := (Sum.inl x, V.bl true)) (by rw [e])
      rw [this, if_pos (by simp [e])]
    · have : valV (seenK (x :: l)) (Sum.inl v) = valV (seenK l) (Sum.inl v) := valV_neg (p := (Sum.inl x, V.bl true)) fun z => e (Sum.inl.inj z)
      rw [this, seenK_val l]
      by_cases q : v ∈ l
      · rw [if_pos q, if_pos (List.mem_cons_of_mem _ q)]
      · rw [if_neg q, if_neg (fun z => (List.mem_cons.mp z).elim (fun z => e z.symm) q)]
theorem seenK_new {v : Int} {l : List Int} (h : v ∉ l) : putK (seenK l) (Sum.inl v) (V.bl true) = seenK (l ++ [v]) := by
  rw [putK_new _ (by rw [seenK_val, if_neg h])]
  unfold seenK
  rw [List.map_append]
  rfl
theorem seenK_old {v : Int} {l : List Int} (h : v ∈ l) : putK (seenK l) (Sum.inl v) (V.bl true) = seenK l := by
  unfold putK
  have h1 : ((seenK l).any fun kv => decide (kv.1 = Sum.inl v)) = true := by
    rw [valV_any, seenK_val, if_pos h]
    rfl
  rw [if_pos h1]
  unfold seenK
  rw [List.map_map]
  refine List.map_congr_left fun x hx => ?_
  show (if (Sum.inl x : Key) = Sum.inl v then ((Sum.inl x : Key), V.bl true) else (Sum.inl x, V.bl true)) = (Sum.inl x, V.bl true)
  split <;> rfl
section
variable {K : PySem.W.Frag}
theorem last_at {H : Hp} {xs : List V} {u : List St5} {t : St5} (h : DpAll K H xs (u.map stD)) (hl : u.getLast? = some t) : ∃ b, atI xs (-1) = some (V.ref b) ∧ Dp K H (.ref b) (stD t) := by
  have hlen := sts_len h
  rw [List.getLast?_eq_getElem?] at hl
  have lt := (List.getElem?_eq_some_iff.mp hl).1
  obtain ⟨x, hx⟩ : ∃ x, xs[u.length - 1]? = some x := ⟨_, List.getElem?_eq_getElem (by omega)⟩
  obtain ⟨t', b, ht, rfl, hb⟩ := sts_get h hx
  rw [hl] at ht
  cases ht
  refine ⟨b, ?_, hb⟩
  unfold atI
  have e : ixN xs.length (-1) = some (u.length - 1) := by
    rw [hlen]
    unfold ixN
    rw [if_neg (by omega), if_pos (by omega)]
    congr 1
    omega
  rw [e]
  exact hx
end
end AA

set_option Elab.async false
set_option linter.all false
set_option maxRecDepth 100000
set_option maxHeartbeats 4000000
/-! spread, come_to. -/
namespace AA
open PySem PySem.Spec PyProof.Rows L2 Evl
def eD (e : Int × Int) : PyData := .tuple [.int e.1, .int e.2]
theorem eD_inv {K : PySem.W.Frag} {G : Hp} {v : V} {e : Int × Int} (h : Dp K G v (eD e)) : ∃ t, v = .ref t ∧ SqT K G t [.int e.1, .int e.2] := by
  unfold eD at h
  cases h with
  | tup h1 h2 =>
    cases h2 with
    | cons a h2 =>
      cases h2 with
      | cons b h2 =>
        cases h2
        cases a
        cases b
        exact ⟨_, rfl, h1⟩
section
variable {P : Program} {w : World} {K : PySem.W.Frag} {mg : Str → Option Value} {base : Heap}
abbrev rLoF (K : PySem.W.Frag) : List V → Hp → VK → Prop := fun vs G Q => ∃ p ys, vs = [V.ref p] ∧ (SqL K G p ys ∨ SqT K G p ys) ∧ ∀ l, G l = none → Q (.ref l) (upd G l (.lst ys))
def spSpread (K : PySem.W.Frag) : Sp := fun vs H Q _ => ∃ (nb st : Addr) (xs : List V) (es : List (Int × Int)) (S U : List Int), vs = [.ref nb, .ref st] ∧ SqL K H nb xs ∧ DpAll K H xs (es.map eD) ∧ SqL K H st (S.map V.int) ∧ (∀ v ∈ S, v ∈ U) ∧ (∀ a b, (a, b) ∈ es → b ∈ U) ∧ U.length < 64 ∧ es.length ≤ 100000 ∧ S.length ≤ 100000 ∧
  ∀ (H' : Hp) (p : Addr) (zs : List Int), Ex H H' → H p = none → H' p = some (.lst (zs.map V.int)) → zs.Nodup → zs.Pairwise (· ≤ ·) → (∀ v, v ∈ zs ↔ Rch es S v) → Q (.ref p) H'
abbrev nmSpr : List Str := ["neighbours", "starts", "ahead", "one", "other", "seen", "todo", "place"]
theorem scSpr : FnScope nmSpr ["neighbours", "starts"] (defScope sSpread) := ⟨rfl, rfl, rfl, by decide +kernel, rfl, by decide +kernel, by decide +kernel⟩
theorem ok_spread {f : Addr} {fd : FuncData} (F : L2.Fun K "spread" "spread" sSpread f fd) (B : Bn mg) : FnOk P w K mg base CX0 1 f fd ["neighbours", "starts"] (spSpread K) := by
  refine F.ok scSpr (fun vs H Q E h => ?_) (fun cdv A outer s H vs Q E hr h => ?_)
  · obtain ⟨nb, st, xs, es, S, U, rfl, _⟩ := h
    rfl
  · obtain ⟨nb, st, xs, es, S, U, rfl, hnb, hxs, hst, hSU, hEU, hU, hez, hSz, k⟩ := h
    have hu := hr.un
    have hu1 : (A.deeper (envOfC "spread" (defScope sSpread) s.heap.objs.size f cdv)).units + 1 < cLine := by omega
    refine ⟨_, pss_cons (ps_set (i := 2) scSpr.nd rfl (Or.inl rfl) pe_dnewK)
      (Evl.pss_cut (ps_for PassesOwn.never rfl (pi_list (pv 0)) (pg_tup (n := 2) rfl (pgs_cons (pg_name (i := 3) scSpr.nd rfl (Or.inl rfl)) (pgs_cons (pg_name (i := 4) scSpr.nd rfl (Or.inl rfl)) pgs_nil)))
          (pss_one (ps_expr (pe_bm PySem.F.plainAttrs_list PySem.F.slot_list_append PySem.F.type_list_append mt_append (pe_dsetd (pv 2) (pv 3) (pe_lst pa_nil) ⟨by rfl, by rfl, by rfl, by rfl⟩) (pa_cons (pv 4) pa_nil)))))
      (Evl.pss_cut (ps_setDc (i := 5) (own := [("place", 7)]) (g := gName 7) (tt := tYes) (by rfl) scSpr.nd rfl rfl (sw_trueD rfl rfl rfl (by decide +kernel)) (pi_list (pv 1)) (blkOk_by (N := nmSpr) (sc := defScope sSpread) (by decide +kernel))
          (fun _ _ _ _ _ => pg_name (i := 7) scSpr.nd rfl (Or.inl rfl)) (fun _ _ _ _ _ => pts_nil) (fun _ _ _ _ _ => pv 7) (fun _ _ _ _ _ => pe_bl))
      (pss_cons (ps_set (i := 6) scSpr.nd rfl (Or.inl rfl) (pe_callTy (r := rLoF K) call_list_of (by rfl) B.list boot_list (pa_cons (pv 1) pa_nil)))
      (Evl.pss_cut (ps_while PassesOwn.never (pt_truth (pv 6) (fun _ => rfl))
          (pss_cons (ps_set (i := 7) scSpr.nd rfl (Or.inl rfl) (pe_bm0 PySem.F.plainAttrs_list PySem.F.slot_list_pop PySem.F.type_list_pop mt_pop (pv 6)))
          (pss_one (ps_for PassesOwn.never rfl (pi_list (pe_dget2 hu1 (pv 2) (pv 7) (pe_lst pa_nil) ⟨by rfl, by rfl, by rfl, by rfl⟩)) (pg_name (i := 4) scSpr.nd rfl (Or.inl rfl))
            (pss_one (ps_if (pt_cmp (pc_dnotin hu1 (pv 4) (pv 5))) (pss_cons (ps_dput hu1 (pv 5) (pv 4) pe_bl (by rfl)) (pss_one (ps_expr (pe_bm PySem.F.plainAttrs_list PySem.F.slot_list_append PySem.F.type_list_append mt_append (pv 6) (pa_cons (pv 4) pa_nil))))) pss_nil))))))
      (pss_one (ps_ret (pe_callB (call_sortedDI (by rfl)) (by rfl) B.sorted boot_sorted (pa_cons (pv 5) pa_nil)))))))), ?_⟩
    intro A hA
    have y0 := Ex.new (o := .dK []) hA
    have j0 : upd H A (.dK []) A = some (.dK []) := upd_same
    generalize upd H A (.dK []) = G0 at y0 j0 ⊢
    -- whom one comes to next
    refine ⟨fun σ G => ∃ (x3 x4 : Option V) (rows : List (Row Int)), σ = [some (.ref nb), some (.ref st), some (.ref A), x3, x4, none, none, none] ∧ Ex H G ∧ Adj V.int H G A rows ∧ Tells rows es ∧ (∀ r ∈ rows, r.2.2.length ≤ 100000), ?_, ?_⟩
    · refine ⟨_, rfl, nb, rfl, ⟨_, ex_l y0 hnb⟩, ?_⟩
      have hlen : xs.length = es.length := by
        have := dpa_len hxs
        rw [List.length_map] at this
        exact this
      refine for_list (K := K) (a := nb) (xs := xs) (fun i σ G => ∃ (x3 x4 : Option V) (rows : List (Row Int)), σ = [some (.ref nb), some (.ref st), some (.ref A), x3, x4, none, none, none] ∧ Ex H G ∧ Adj V.int H G A rows ∧ Tells rows (es.take i) ∧ rows.length ≤ i ∧ (∀ r ∈ rows, r.2.2.length ≤ i)) ?_ (fun i σ G _ ⟨_, _, _, _, e, _⟩ => ex_l e hnb) ?_ ?_
      · exact ⟨none, none, [], rfl, y0, ⟨j0, by simp, by simp, (fun r h => absurd h (by simp)), fun r h => absurd h (by simp)⟩, Tells.nil, Nat.le_refl _, fun r h => absurd h (by simp)⟩
      · rintro i v σ G hv ⟨x3, x4, rows, rfl, e, ad, tl, rl, bl⟩
        have il := (List.getElem?_eq_some_iff.mp hv).1
        obtain ⟨d, hd1, hd2⟩ := dpa_get hxs hv
        rw [List.getElem?_map] at hd1
        cases hei : es[i]? with
        | none =>
          rw [hei] at hd1
          cases hd1
        | some ei =>
          rw [hei] at hd1
          obtain rfl : eD ei = d := Option.some.inj hd1
          obtain ⟨t, rfl, ht⟩ := eD_inv hd2
          obtain ⟨ea, eb⟩ := ei
          have tk : es.take (i + 1) = es.take i ++ [(ea, eb)] := by rw [List.take_add_one, hei]; rfl
          refine ⟨t, _, rfl, ex_t e ht, rfl, _, _, rfl, _, _, rfl, rfl, ?_⟩
          refine ⟨_, rfl, A, rfl, .inl ⟨_, .inl ad.dk⟩, _, rfl, Nat.zero_le _, fun p hp => ?_⟩
          have y1 := Ex.new (o := .lst []) hp
          have j1 : upd G p (.lst []) p = some (.lst []) := upd_same
          generalize upd G p (.lst []) = G1 at y1 j1 ⊢
          have ad1 := ad.go y1
          have pA : p ≠ A := (ne_of_none ad.dk hp).symm
          have pr : ∀ r ∈ rows, p ≠ r.2.1 := fun r hr => (ne_of_none (ad.at' r hr) hp).symm
          have p0 := fresh_back e hp
          have kl : (rowK rows).length < sizeLine := by
            unfold rowK
            rw [List.length_map]
            exact sz_m (by omega)
          refine ⟨rowK rows, Sum.inl ea, ad1.dk, rfl, kl, fun v hv => ?_, fun hn => ?_⟩
          · obtain ⟨j, r, h1, h2, rfl⟩ := rowK_some hv
            have hr := mem_of_get h1
            have hat := ad1.at' r hr
            have hbl := bl r hr
            refine ⟨.inl ⟨rfl, _, SqL.of hat⟩, _, rfl, r.2.1, _, _, rfl, rfl, hat, by rw [List.length_map]; exact sz_m (by omega), ?_⟩
            have hE : r.2.2.map V.int ++ [V.int eb] = (r.2.2 ++ [eb]).map V.int := by
              rw [List.map_append]
              rfl
            rw [hE]
            have h2' : r.1 = ea := h2
            refine ⟨_, _, rows.set j (r.1, r.2.1, r.2.2 ++ [eb]), rfl, (e.trans y1).mut (ad.fr r hr).1, ad1.more h1 eb, ?_, by rw [List.length_set]; omega, fun s hs => ?_⟩
            · rw [tk, ← h2']
              exact tl.more h1 eb
            · rcases (mem_set h1).mp hs with rfl | ⟨j', _, hj⟩
              · show (r.2.2 ++ [eb]).length ≤ i + 1
                rw [List.length_append]
                exact Nat.succ_le_succ hbl
              · have := bl s (mem_of_get hj)
                omega
          · have hn' := rowK_none.mp hn
            have hd : upd G1 A (.dK (putK (rowK rows) (Sum.inl ea) (V.ref p))) p = some (.lst []) := by
              rw [upd_ne pA]
              exact j1
            refine ⟨.inl ⟨rfl, _, SqL.of hd⟩, _, rfl, p, _, _, rfl, rfl, hd, by show 0 < sizeLine; decide, ?_⟩
            refine ⟨_, _, rows ++ [(ea, p, [eb])], rfl, ((e.trans y1).mut hA).mut p0, ad1.new hn' p0 pA pr ad1.dk, ?_, by rw [List.length_append]; exact Nat.succ_le_succ rl, fun s hs => ?_⟩
            · rw [tk]
              exact tl.new ea p eb
            · rcases List.mem_append.mp hs with hs | hs
              · have := bl s hs
                omega
              · obtain rfl := List.mem_singleton.mp hs
                show 1 ≤ i + 1
                omega
      · rintro σ G ⟨x3, x4, rows, rfl, e, ad, tl, rl, bl⟩
        rw [hlen, List.take_length] at tl
        exact ⟨x3, x4, rows, rfl, e, ad, tl, fun r hr => by have := bl r hr; omega⟩
    rintro σ G1 ⟨x3, x4, rows, rfl, e1, ad1, tl, bl⟩
    -- where one begins
    refine ⟨fun σ G => ∃ (x7 : Option V) (D : Addr) (seen : List Int), σ = [some (.ref nb), some (.ref st), some (.ref A), x3, x4, some (.ref D), none, x7] ∧ Ex G1 G ∧ G1 D = none ∧ G D = some (.dK (seenK seen)) ∧ seen.Nodup ∧ ∀ v, v ∈ seen ↔ v ∈ S, ?_, ?_⟩
    · refine ⟨_, rfl, st, rfl, ⟨_, ex_l e1 hst⟩, fun D hD => ?_⟩
      refine dc_list (xs := S.map V.int) (fun i G => Ex G1 G ∧ ∃ seen, G D = some (.dK (seenK seen)) ∧ seen.Nodup ∧ (∀ v, v ∈ seen ↔ v ∈ S.take i) ∧ seen.length ≤ i) ⟨Ex.new hD, [], upd_same, List.nodup_nil, (fun v => by simp), Nat.le_refl _⟩ (fun i G _ q => ex_l q.1 (ex_l e1 hst)) ?_ ?_
      · rintro i x G hx ⟨q1, seen, q2, q3, q4, q5⟩
        have il := (List.getElem?_eq_some_iff.mp hx).1
        rw [List.length_map] at il
        obtain ⟨c, hc, rfl⟩ := get_ints hx
        have tk : S.take (i + 1) = S.take i ++ [c] := by rw [List.take_add_one, hc]; rfl
        refine ⟨rfl, _, rfl, seenK seen, Sum.inl c, rfl, q2, by unfold seenK; rw [List.length_map]; exact sz_m (by omega), q1.mut hD, ?_⟩
        by_cases hin : c ∈ seen
        · rw [seenK_old hin]
          refine ⟨seen, upd_same, q3, fun v => ?_, by omega⟩
          rw [tk, List.mem_append, q4 v, List.mem_singleton]
          exact ⟨.inl, fun z => z.elim id fun e => by rw [e]; exact (q4 c).mp hin⟩
        · rw [seenK_new hin]
          refine ⟨seen ++ [c], upd_same, ?_, fun v => ?_, by rw [List.length_append]; exact Nat.succ_le_succ q5⟩
          · refine List.nodup_append.mpr ⟨q3, by simp, fun x hx y hy e => ?_⟩
            rw [List.mem_singleton.mp hy] at e
            exact hin (e ▸ hx)
          · rw [tk, List.mem_append, List.mem_append, q4 v]
      · rintro G ⟨q1, seen, q2, q3, q4, q5⟩
        rw [List.length_map, List.take_length] at q4
        exact ⟨_, D, seen, rfl, q1, hD, q2, q3, q4⟩
    rintro σ G2 ⟨x7, D, seen0, rfl, e2, D0, hD2, snd0, sm0⟩
    refine ⟨_, rfl, st, _, rfl, .inl (ex_l (e1.trans e2) hst), fun T hT => ?_⟩
    have y3 := Ex.new (o := .lst (S.map V.int)) hT
    have hT3 : upd G2 T (.lst (S.map V.int)) T = some (.lst (S.map V.int)) := upd_same
    generalize upd G2 T (.lst (S.map V.int)) = G3 at y3 hT3 ⊢
    have e3 := e1.trans (e2.trans y3)
    have ad3 := ad1.go (e2.trans y3)
    have DA : D ≠ A := (ne_of_none ad1.dk D0).symm
    have TA : T ≠ A := (ne_of_none (e2 _ _ ad1.dk) hT).symm
    have TD : T ≠ D := (ne_of_none hD2 hT).symm
    have Dr : ∀ r ∈ rows, D ≠ r.2.1 := fun r hr => (ne_of_none (ad1.at' r hr) D0).symm
    have Tr : ∀ r ∈ rows, T ≠ r.2.1 := fun r hr => (ne_of_none (e2 _ _ (ad1.at' r hr)) hT).symm
    have D0H := fresh_back e1 D0
    have T0H := fresh_back (e1.trans e2) hT
    have hRU : ∀ v, Rch es S v → v ∈ U := fun v h => h.in hSU hEU
    -- all that one comes to
    refine ⟨fun σ G => ∃ (x4 x7 : Option V) (seen : List Int), σ = [some (.ref nb), some (.ref st), some (.ref A), x3, x4, some (.ref D), some (.ref T), x7] ∧ Ex H G ∧ G D = some (.dK (seenK seen)) ∧ seen.Nodup ∧ ∀ v, v ∈ seen ↔ Rch es S v, ?_, ?_⟩
    · refine ⟨fun mm σ G => ∃ (x4 x7 : Option V) (seen todo : List Int), σ = [some (.ref nb), some (.ref st), some (.ref A), x3, x4, some (.ref D), some (.ref T), x7] ∧ 2 * (U.length - seen.length) + todo.length = mm ∧ mm ≤ 2 * U.length + S.length ∧ Ex H G ∧ Adj V.int H G A rows ∧ G D = some (.dK (seenK seen)) ∧ G T = some (.lst (todo.map V.int)) ∧ seen.Nodup ∧ (∀ v ∈ S, v ∈ seen) ∧ (∀ v ∈ todo, v ∈ seen) ∧ (∀ v ∈ seen, Rch es S v) ∧ (∀ a ∈ seen, a ∉ todo → ∀ b, (a, b) ∈ es → b ∈ seen),
        ⟨_, x4, x7, seen0, S, rfl, rfl, by omega, e3, ad3, y3 _ _ hD2, hT3, snd0, (fun v h => (sm0 v).mpr h), (fun v h => (sm0 v).mpr h), (fun v h => .base ((sm0 v).mp h)), fun a ha hn => absurd ((sm0 a).mp ha) hn⟩, ?_⟩
      rintro mm σ G ⟨y4, y7, seen, todo, rfl, rfl, hmm, e, ad, hD, hTT, snd, hS, hts, hr, hcl⟩
      refine ⟨_, rfl, _, .inl ⟨_, SqL.of hTT, rfl⟩, ?_⟩
      cases htz : todo with
      | nil =>
        refine ⟨y4, y7, seen, rfl, e, hD, snd, fun v => ⟨hr v, fun h => h.closed hS fun a ha b hab => hcl a ha (by rw [htz]; simp) b hab⟩⟩
      | cons t0 tr =>
        obtain ⟨ps, c, ep⟩ : ∃ ps c, todo = ps ++ [c] := ⟨todo.dropLast, todo.getLast (by rw [htz]; simp), (List.dropLast_concat_getLast _).symm⟩
        refine iteT ?_
        rw [← htz, ep]
        rw [ep] at hTT hts hcl hmm
        have hTT' : G T = some (.lst (ps.map V.int ++ [V.int c])) := by
          rw [hTT, List.map_append]
          rfl
        have hc : c ∈ seen := hts c (by simp)
        have rc := hr c hc
        refine ⟨fun σ G => ∃ (x4 x7 : Option V) (seen' todo : List Int), σ = [some (.ref nb), some (.ref st), some (.ref A), x3, x4, some (.ref D), some (.ref T), x7] ∧ 2 * (U.length - seen'.length) + todo.length < 2 * (U.length - seen.length) + (ps ++ [c]).length ∧ Ex H G ∧ Adj V.int H G A rows ∧ G D = some (.dK (seenK seen')) ∧ G T = some (.lst (todo.map V.int)) ∧ seen'.Nodup ∧ (∀ v ∈ S, v ∈ seen') ∧ (∀ v ∈ todo, v ∈ seen') ∧ (∀ v ∈ seen', Rch es S v) ∧ (∀ a ∈ seen', a ∉ todo → ∀ b, (a, b) ∈ es → b ∈ seen'), ?_, ?_⟩
        · rintro σ' G' ⟨x4, x7, seen', todo', e', lt, r⟩
          exact ⟨_, lt, x4, x7, seen', todo', e', rfl, by omega, r⟩
        refine ⟨_, rfl, .inl ⟨rfl, _, SqL.of hTT'⟩, T, _, .int c, rfl, rfl, hTT', by simp, ?_⟩
        rw [List.dropLast_concat]
        have eP := e.mut (o := .lst (ps.map V.int)) T0H
        have adP := ad.upd (o := .lst (ps.map V.int)) TA Tr
        have hDP : upd G T (.lst (ps.map V.int)) D = some (.dK (seenK seen)) := by rw [upd_ne TD.symm]; exact hD
        have hTP : upd G T (.lst (ps.map V.int)) T = some (.lst (ps.map V.int)) := upd_same
        generalize upd G T (.lst (ps.map V.int)) = G5 at eP adP hDP hTP ⊢
        refine ⟨_, rfl, A, rfl, .inl ⟨_, .inl adP.dk⟩, _, rfl, Nat.zero_le _, fun p hp => ?_⟩
        have y6 := Ex.new (o := .lst []) hp
        have j6 : upd G5 p (.lst []) p = some (.lst []) := upd_same
        have pD : p ≠ D := (ne_of_none hDP hp).symm
        have pT : p ≠ T := (ne_of_none hTP hp).symm
        generalize upd G5 p (.lst []) = G6 at y6 j6 ⊢
        have ad6 := adP.go y6
        refine ⟨valV (rowK rows) (Sum.inl c), DGet.k (k := Sum.inl c) ad6.dk, ?_⟩
        obtain ⟨lb, bs, ev, hlb, lD, lT, hbs⟩ : ∃ (lb : Addr) (bs : List Int), (valV (rowK rows) (Sum.inl c)).getD (.ref p) = .ref lb ∧ G6 lb = some (.lst (bs.map V.int)) ∧ lb ≠ D ∧ lb ≠ T ∧ ∀ b, b ∈ bs ↔ (c, b) ∈ es := by
          cases hv : valV (rowK rows) (Sum.inl c) with
          | none =>
            refine ⟨p, [], rfl, j6, pD, pT, fun b => ⟨fun h => absurd h (by simp), fun h => ?_⟩⟩
            obtain ⟨r, h1, h2, _⟩ := (tl c b).mp h
            exact absurd h2 (rowK_none.mp hv r h1)
          | some v =>
            obtain ⟨i, r, h1, h2, rfl⟩ := rowK_some hv
            have hm := mem_of_get h1
            refine ⟨r.2.1, r.2.2, rfl, ad6.at' r hm, (Dr r hm).symm, (Tr r hm).symm, fun b => ?_⟩
            rw [tl.key ad1.kn h1 b, h2]
        rw [ev]
        refine ⟨lb, rfl, ⟨_, SqL.of hlb⟩, ?_⟩
        refine for_list (K := K) (a := lb) (xs := bs.map V.int) (fun j σ G => ∃ (y4 : Option V) (seen' todo : List Int), σ = [some (.ref nb), some (.ref st), some (.ref A), x3, y4, some (.ref D), some (.ref T), some (.int c)] ∧ 2 * (U.length - seen'.length) + todo.length ≤ 2 * (U.length - seen.length) + ps.length ∧ Ex H G ∧ Adj V.int H G A rows ∧ G lb = some (.lst (bs.map V.int)) ∧ G D = some (.dK (seenK seen')) ∧ G T = some (.lst (todo.map V.int)) ∧ seen'.Nodup ∧ (∀ v ∈ S, v ∈ seen') ∧ (∀ v ∈ todo, v ∈ seen') ∧ (∀ v ∈ seen', Rch es S v) ∧
            (∀ a ∈ seen', a ∉ todo → a = c ∨ ∀ b, (a, b) ∈ es → b ∈ seen') ∧ ∀ b ∈ bs.take j, b ∈ seen') ?_ (fun j σ G _ ⟨_, _, _, _, _, _, _, q, _⟩ => SqL.of q) ?_ ?_
        · refine ⟨_, seen, ps, rfl, Nat.le_refl _, eP.trans y6, ad6, hlb, y6 _ _ hDP, y6 _ _ hTP, snd, hS, (fun v h => hts v (List.mem_append_left _ h)), hr, (fun a ha hn => ?_), fun b h => absurd h (by simp)⟩
          by_cases q : a = c
          · exact .inl q
          · exact .inr (hcl a ha fun z => (List.mem_append.mp z).elim hn fun z => q (List.mem_singleton.mp z))
        · rintro j x σ G' hx ⟨y4', seen', todo', rfl, hm', e', ad', hlb', hD', hT', snd', hS', hts', hr', hcl', htk⟩
          obtain ⟨b, hb, rfl⟩ := get_ints hx
          have tk : bs.take (j + 1) = bs.take j ++ [b] := by rw [List.take_add_one, hb]; rfl
          have heb : (c, b) ∈ es := (hbs b).mp (mem_of_get hb)
          refine ⟨_, rfl, _, rfl, D, _, rfl, DGet.k (k := Sum.inl b) hD', ?_⟩
          rw [seenK_val]
          by_cases hin : b ∈ seen'
          · rw [if_pos hin]
            refine ⟨_, rfl, iteF ⟨_, seen', todo', rfl, hm', e', ad', hlb', hD', hT', snd', hS', hts', hr', hcl', fun z hz => ?_⟩⟩
            rw [tk] at hz
            exact (List.mem_append.mp hz).elim (htk z) fun q => by rw [List.mem_singleton.mp q]; exact hin
          · rw [if_neg hin]
            refine ⟨_, rfl, iteT ?_⟩
            have nd2 : (seen' ++ [b]).Nodup := List.nodup_append.mpr ⟨snd', by simp, fun x hx y hy q => by
              rw [List.mem_singleton.mp hy] at q
              exact hin (q ▸ hx)⟩
            have rb : Rch es S b := .step rc heb
            have hz := nd_len (seen' ++ [b]) U nd2 fun v hv => (List.mem_append.mp hv).elim (fun q => hRU v (hr' v q)) fun q => by rw [List.mem_singleton.mp q]; exact hRU b rb
            rw [List.length_append, List.length_singleton] at hz
            have kz : (seenK seen').length < sizeLine := by
              unfold seenK
              rw [List.length_map]
              exact sz_m (by omega)
            refine ⟨_, rfl, _, rfl, D, _, rfl, DPut.k (k := Sum.inl b) hD' kz, ?_⟩
            have hk : putK (seenK seen') (Sum.inl b) (V.bl true) = seenK (seen' ++ [b]) := seenK_new hin
            rw [hk]
            have e7 := e'.mut (o := .dK (seenK (seen' ++ [b]))) D0H
            have ad7 := ad'.upd (o := .dK (seenK (seen' ++ [b]))) DA Dr
            have hT7 : upd G' D (.dK (seenK (seen' ++ [b]))) T = some (.lst (todo'.map V.int)) := by rw [upd_ne TD]; exact hT'
            have hD7 : upd G' D (.dK (seenK (seen' ++ [b]))) D = some (.dK (seenK (seen' ++ [b]))) := upd_same
            have hl7 : upd G' D (.dK (seenK (seen' ++ [b]))) lb = some (.lst (bs.map V.int)) := by rw [upd_ne lD]; exact hlb'
            generalize upd G' D (.dK (seenK (seen' ++ [b]))) = G7 at e7 ad7 hT7 hD7 hl7 ⊢
            refine ⟨_, rfl, .inl ⟨rfl, _, SqL.of hT7⟩, _, rfl, T, _, _, rfl, rfl, hT7, by rw [List.length_map]; have : sizeLine = 16777216 := rfl; rw [List.length_append, List.length_singleton] at hmm; omega, ?_⟩
            have hE : todo'.map V.int ++ [V.int b] = (todo' ++ [b]).map V.int := by
              rw [List.map_append]
              rfl
            rw [hE]
            refine ⟨_, seen' ++ [b], todo' ++ [b], rfl, by rw [List.length_append, List.length_append, List.length_singleton]; omega, e7.mut T0H, ad7.upd TA Tr, by rw [upd_ne lT]; exact hl7, by rw [upd_ne TD.symm]; exact hD7, upd_same, nd2, (fun v h => List.mem_append_left _ (hS' v h)), fun v h => ?_, fun v h => ?_, fun a ha hn => ?_, fun z hz => ?_⟩
            · exact (List.mem_append.mp h).elim (fun q => List.mem_append_left _ (hts' v q)) fun q => List.mem_append_right _ q
            · exact (List.mem_append.mp h).elim (hr' v) fun q => by rw [List.mem_singleton.mp q]; exact rb
            · rcases List.mem_append.mp ha with ha | ha
              · refine (hcl' a ha fun z => hn (List.mem_append_left _ z)).imp id fun q b' hb' => List.mem_append_left _ (q b' hb')
              · exact absurd (List.mem_append_right _ ha) hn
            · rw [tk] at hz
              exact (List.mem_append.mp hz).elim (fun q => List.mem_append_left _ (htk z q)) fun q => List.mem_append_right _ q
        · rintro σ G' ⟨y4', seen', todo', rfl, hm', e', ad', hlb', hD', hT', snd', hS', hts', hr', hcl', htk⟩
          rw [List.length_map, List.take_length] at htk
          refine ⟨_, _, seen', todo', rfl, by rw [List.length_append, List.length_singleton]; omega, e', ad', hD', hT', snd', hS', hts', hr', fun a ha hn b hab => ?_⟩
          rcases hcl' a ha hn with q | q
          · rw [q] at hab
            exact htk b ((hbs b).mpr hab)
          · exact q b hab
    rintro σ G4 ⟨z4, z7, seen, rfl, e4, hD4, snd, hsm⟩
    refine ⟨_, rfl, D, seenK seen, seen, rfl, .inl hD4, ?_, ?_, fun ys p pm so hp => ?_⟩
    · unfold seenK
      rw [List.map_map]
      rfl
    · exact Nat.lt_of_le_of_lt (nd_len seen U snd fun v hv => hRU v ((hsm v).mp hv)) hU
    · exact k _ p ys (e4.trans (Ex.new hp)) (fresh_back e4 hp) upd_same (pm.symm.nodup snd) so fun v => by rw [pm.mem_iff, hsm v]
end
end AA

set_option Elab.async false
set_option linter.all false
set_option maxRecDepth 100000
set_option maxHeartbeats 4000000
/-! come_to, check_place, reached. -/
namespace AA
open PySem PySem.Spec PyProof.Rows L2 Evl
def edg (ss : List St5) : List (Int × Int) := ss.map fun s => (s.one, s.other)
theorem edg_mem {ss : List St5} {a b : Int} : (a, b) ∈ edg ss ↔ ∃ s ∈ ss, s.one = a ∧ s.other = b := by
  unfold edg
  rw [List.mem_map]
  exact ⟨fun ⟨s, h1, h2⟩ => ⟨s, h1, (Prod.mk.inj h2).1, (Prod.mk.inj h2).2⟩, fun ⟨s, h1, h2, h3⟩ => ⟨s, h1, by rw [h2, h3]⟩⟩
section
variable {P : Program} {w : World} {K : PySem.W.Frag} {mg : Str → Option Value} {base : Heap}
def spComeTo (K : PySem.W.Frag) : Sp := fun vs H Q _ => ∃ (l st : Addr) (us : List V) (ss : List St5) (S U : List Int), vs = [.ref l, .ref st] ∧ SqL K H l us ∧ DpAll K H us (ss.map stD) ∧ SqL K H st (S.map V.int) ∧ (∀ v ∈ S, v ∈ U) ∧ (∀ s ∈ ss, s.other ∈ U) ∧ U.length < 64 ∧ ss.length ≤ 100000 ∧ S.length ≤ 100000 ∧
  ∀ (H' : Hp) (p : Addr) (zs : List Int), Ex H H' → H p = none → H' p = some (.lst (zs.map V.int)) → zs.Nodup → zs.Pairwise (· ≤ ·) → (∀ v, v ∈ zs ↔ Rch (edg ss) S v) → Q (.ref p) H'
abbrev nmCmt : List Str := ["steps", "starts", "step"]
theorem scCmt : FnScope nmCmt ["steps", "starts"] (defScope sComeTo) := ⟨rfl, rfl, rfl, by decide +kernel, rfl, by decide +kernel, by decide +kernel⟩
theorem ok_comeTo {f : Addr} {fd : FuncData} (F : L2.Fun K "come_to" "come_to" sComeTo f fd) (cS : C8.Cal P w K mg base 1 "spread" (spSpread K) []) : FnOk P w K mg base CX0 2 f fd ["steps", "starts"] (spComeTo K) := by
  refine F.ok scCmt (fun vs H Q E h => ?_) (fun cdv A outer s H vs Q E hr h => ?_)
  · obtain ⟨l, st, us, ss, S, U, rfl, _⟩ := h
    rfl
  · obtain ⟨l, st, us, ss, S, U, rfl, hl, hD, hst, hSU, hEU, hU, hez, hSz, k⟩ := h
    refine ⟨_, pss_one (ps_ret (C8.pe_c cS hr (by decide) (by rfl) (pa_cons (pe_lc (own := [("step", 2)]) (g := gName 2) (tt := tYes) (by rfl) scCmt.nd (pi_list (pv 0)) (blkOk_by (N := nmCmt) (sc := defScope sComeTo) (by decide +kernel)) (fun _ _ _ _ _ => pg_name (i := 2) scCmt.nd rfl (Or.inl rfl)) (fun _ _ _ _ _ => pts_nil)
        (fun _ _ _ _ _ => pe_tup (pa_cons (pe_ix (r := rIxT K) ix_tup (pv 2) pe_int (fun _ _ => rfl)) (pa_cons (pe_ix (r := rIxT K) ix_tup (pv 2) pe_int (fun _ _ => rfl)) pa_nil)))) (pa_cons (pv 1) pa_nil)))), ?_⟩
    refine ⟨_, rfl, l, rfl, ⟨_, hl⟩, fun D hD0 => ?_⟩
    have hul := sts_len hD
    refine lc_list (xs := us) (fun i G => Ex H G ∧ ∃ ys : List V, G D = some (.lst ys) ∧ DpAll K (tps G) ys ((edg (ss.take i)).map eD)) ⟨Ex.new hD0, [], upd_same, .nil⟩ (fun i G _ q => ex_l q.1 hl) ?_ ?_
    · rintro i x G hx ⟨q1, ys, q2, q3⟩
      have il := (List.getElem?_eq_some_iff.mp hx).1
      obtain ⟨s, t, hs, rfl, ht⟩ := sts_get hD hx
      obtain ⟨_, u, e, p1, p2⟩ := stD_inv (dp_ex q1 _ _ ht)
      cases e
      have hyl : ys.length = i := by
        have := dpa_len q3
        rw [this, List.length_map]
        unfold edg
        rw [List.length_map, List.length_take]
        omega
      refine ⟨rfl, _, rfl, t, _, 0, .int s.one, rfl, rfl, p1, rfl, _, rfl, t, _, 1, .int s.other, rfl, rfl, p1, rfl, by show 2 ≤ sizeLine; decide, fun T hT => ?_⟩
      have z1 := Ex.new (o := .tup [V.int s.one, V.int s.other]) hT
      have hD1 := z1 _ _ q2
      have tp := (tps_mono z1).trans (tps_upd (o := .lst (ys ++ [V.ref T])) (NoTup.lst hD1))
      refine ⟨ys, hD1, by rw [hyl]; exact sz_m (by omega), (q1.trans z1).mut hD0, _, upd_same, ?_⟩
      have tk : edg (ss.take (i + 1)) = edg (ss.take i) ++ [(s.one, s.other)] := by
        unfold edg
        rw [List.take_add_one, hs, List.map_append]
        rfl
      rw [tk, List.map_append]
      refine dpa_app (dpa_ex tp _ _ q3) (.cons (dp_ex (tps_upd (NoTup.lst hD1)) _ _ ?_) .nil)
      exact .tup (SqT.of (tps_of upd_same)) (.cons (.int _) (.cons (.int _) .nil))
    · rintro G ⟨q1, ys, q2, q3⟩
      rw [hul, List.take_length] at q3
      refine ⟨_, rfl, D, st, ys, edg ss, S, U, rfl, SqL.of q2, dpa_ex tps_le _ _ q3, ex_l q1 hst, hSU, fun a b h => ?_, hU, by unfold edg; rw [List.length_map]; exact hez, hSz, fun H' p zs e p0 hp nd so hm => k H' p zs (q1.trans e) (fresh_back q1 p0) hp nd so hm⟩
      obtain ⟨s, h1, h2, h3⟩ := edg_mem.mp h
      rw [← h3]
      exact hEU s h1
end
end AA

set_option Elab.async false
set_option linter.all false
set_option maxRecDepth 100000
set_option maxHeartbeats 4000000
/-! Who comes to one another: what an order of leaving tells. -/
namespace AA
open PySem PySem.Spec PyProof.Rows L2 Evl
/-- from a one comes to b -/
abbrev To (es : List (Int × Int)) (a b : Int) : Prop := Rch es [a] b
theorem To.refl {es : List (Int × Int)} (a : Int) : To es a a := .base List.mem_cons_self
theorem To.one {es : List (Int × Int)} {a b : Int} (h : (a, b) ∈ es) : To es a b := .step (To.refl a) h
theorem To.trans {es : List (Int × Int)} {a b c : Int} (h : To es a b) (k : To es b c) : To es a c := by
  induction k with
  | base h2 =>
    rw [List.mem_singleton.mp h2]
    exact h
  | step _ e ih => exact .step ih e
theorem rch_to {es : List (Int × Int)} {S : List Int} {v : Int} : Rch es S v ↔ ∃ a ∈ S, To es a v := by
  constructor
  · intro h
    induction h with
    | base h => exact ⟨_, h, To.refl _⟩
    | step _ e ih =>
      obtain ⟨a, h1, h2⟩ := ih
      exact ⟨a, h1, .step h2 e⟩
  · rintro ⟨a, h1, h2⟩
    induction h2 with
    | base h =>
      rw [List.mem_singleton.mp h]
      exact .base h1
    | step _ e ih => exact .step ih e
/-- all places that steps name are found, each once; and if a step leads from z to y, then y comes to all that is left between the two, if y is left behind z -/
structure Ord (es : List (Int × Int)) (found : List Int) : Prop where
  nd : found.Nodup
  q : ∀ (i : Nat) (z y : Int), found[i]? = some z → (z, y) ∈ es → ∃ m : Nat, found[m]? = some y ∧ ∀ (j : Nat) (x : Int), i ≤ j → j < m → found[j]? = some x → To es y x
/-- the steps backwards that lead to none of T -/
inductive Back (es : List (Int × Int)) (T : Int → Prop) (r : Int) : Int → Prop
  | base : Back es T r r
  | step {y x : Int} : Back es T r y → (x, y) ∈ es → ¬ T x → Back es T r x
theorem get_uniq {l : List Int} (h : l.Nodup) {i j : Nat} {x : Int} (h1 : l[i]? = some x) (h2 : l[j]? = some x) : i = j := nodup_at h h1 h2
/-- whoever comes to r, and is left no later, is come to from r -/
theorem ord_back {es : List (Int × Int)} {found : List Int} (O : Ord es found) {T : Int → Prop} {r : Int} {ir : Nat} (hr : found[ir]? = some r) (hT : ∀ (i : Nat) (x : Int), found[i]? = some x → ¬ T x → i ≤ ir) (all : ∀ a b, (a, b) ∈ es → a ∈ found) {x : Int} (h : Back es T r x) : To es x r ∧ To es r x := by
  induction h with
  | base => exact ⟨To.refl r, To.refl r⟩
  | @step y x _ e nT ih =>
    obtain ⟨h1, h2⟩ := ih
    refine ⟨(To.one e).trans h1, ?_⟩
    obtain ⟨iz, hz⟩ := List.getElem?_of_mem (all x y e)
    have le := hT iz x hz nT
    obtain ⟨m, hm, hq⟩ := O.q iz x y hz e
    by_cases c1 : iz < m
    · exact h2.trans (hq iz x (Nat.le_refl _) c1 hz)
    by_cases c2 : m = iz
    · rw [c2, hz] at hm
      rw [Option.some.inj hm]
      exact h2
    by_cases c3 : iz = ir
    · rw [c3, hr] at hz
      rw [← Option.some.inj hz]
      exact To.refl r
    have lt1 : m < iz := by omega
    have lt2 : iz < ir := by omega
    have key : ∀ v, To es y v → (∃ iv : Nat, found[iv]? = some v ∧ iv < iz) ∨ To es y x := fun v hv => by
      induction hv with
      | base hb =>
        rw [List.mem_singleton.mp hb]
        exact .inl ⟨m, hm, lt1⟩
      | @step a b hab e2 ih2 =>
        rcases ih2 with ⟨iv, h3, h4⟩ | h3
        · obtain ⟨m', h5, h6⟩ := O.q iv a b h3 e2
          have yb : To es y b := .step hab e2
          rcases Nat.lt_trichotomy m' iz with c | c | c
          · exact .inl ⟨m', h5, c⟩
          · rw [c, hz] at h5
            rw [Option.some.inj h5]
            exact .inr yb
          · exact .inr (yb.trans (h6 iz x (Nat.le_of_lt h4) c hz))
        · exact .inr h3
    rcases key r h1 with ⟨iv, h3, h4⟩ | h3
    · have := get_uniq O.nd h3 hr
      omega
    · exact h2.trans h3
/-- and whoever comes to r and back stands there -/
theorem back_of {es : List (Int × Int)} {T : Int → Prop} {r x : Int} (hT : ∀ v, To es v r → To es r v → ¬ T v) (h1 : To es x r) (h2 : To es r x) : Back es T r x := by
  -- along the way from x to r, from its end
  have walk : ∀ a, To es a r → To es r a → Back es T r a := by
    intro a ha
    have : ∀ v, To es a v → To es v r → To es r a → Back es T r v → Back es T r a := by
      intro v hv
      induction hv with
      | base hb =>
        rw [List.mem_singleton.mp hb]
        exact fun _ _ h => h
      | @step b c hab e ih =>
        intro hcr hra hback
        have hbr : To es b r := (To.one e).trans hcr
        exact ih hbr hra (.step hback e (hT b hbr (hra.trans hab)))
    exact fun hra => this r ha (To.refl r) hra .base
  exact walk x h1 h2
end AA

set_option Elab.async false
set_option linter.all false
set_option maxRecDepth 100000
set_option maxHeartbeats 4000000
/-! check_place; the error of places. -/
namespace AA
open PySem PySem.Spec PyProof.Rows L2 Evl
section
variable {P : Program} {w : World} {K : PySem.W.Frag} {mg : Str → Option Value} {base : Heap}
theorem scBadPc : FnScope ["self", "place"] ["self", "place"] (defScope sBadPcInit) := ⟨rfl, rfl, rfl, by decide +kernel, rfl, by decide +kernel, by decide +kernel⟩
theorem ok_badPc {CB f fI : Addr} {fd : FuncData} (F : L2.Fun K "__init__" "BadPlace.__init__" sBadPcInit f fd) (T : ExT K mg "BadPlace" "place" CB fI) : FnOk P w K mg base CX0 1 f fd ["self", "place"] (spExI CB "place") := by
  refine F.ok scBadPc (fun vs H Q E h => ?_) (fun cdv A outer s H vs Q E hr h => ?_)
  · obtain ⟨a, v, rfl, _⟩ := h
    rfl
  · obtain ⟨a, v, rfl, ha, k⟩ := h
    exact ⟨_, pss_one (ps_ost (pv 0) (pv 1) rfl), _, rfl, _, rfl, a, CB, rfl, T.ox, T.no, .inl ⟨ha, k⟩⟩
/-- a thing that is no place of so many -/
def NoPlc (K : PySem.W.Frag) (H : Hp) (n : Int) (v : V) : Prop := NotI K H v ∨ ∃ j : Int, v = .int j ∧ (j < 0 ∨ n ≤ j)
theorem NoPlc.ex {H H' : Hp} {n : Int} {v : V} (h : NoPlc K H n v) (e : Ex H H') : NoPlc K H' n v := h.imp (fun y => y.ex e) id
def spPlc (K : PySem.W.Frag) (CW CB : Addr) : Sp := fun vs H Q E => ∃ (x : Addr) (n : Int) (ss : List St5) (v : V), vs = [.ref x, v] ∧ WebAt K CW H x n ss ∧ ((NoPlc K H n v ∧ BadE CB "place" H v E) ∨ ∃ i : Int, v = .int i ∧ 0 ≤ i ∧ i < n ∧ Q .non H)
theorem scPlc : FnScope ["web", "place"] ["web", "place"] (defScope sCheckPlace) := ⟨rfl, rfl, rfl, by decide +kernel, rfl, by decide +kernel, by decide +kernel⟩
theorem ok_plc {f CW CB fB gP : Addr} {fd fdB ddP : FuncData} (F : L2.Fun K "check_place" "check_place" sCheckPlace f fd) (B : Bn mg) (T : WebTxt K mg CW) (TB : ExT K mg "BadPlace" "place" CB fB) (GB : FnOk P w K mg base CX0 1 fB fdB ["self", "place"] (spExI CB "place")) (bB : Binds K fdB ["self", "place"] [])
    (GP : FnOk P w K mg base CX0 1 gP ddP ["self"] (spPlaces K CW)) (bP : Binds K ddP ["self"] []) (mP : Meth K CW "places" gP) (cI : C8.Cal P w K mg base 1 "is_integer" (spIsIntegerV K) []) : FnOk P w K mg base (L2.CX P w) 3 f fd ["web", "place"] (spPlc K CW CB) := by
  refine F.okX scPlc (fun vs H Q E h => ?_) (fun cdv A outer s H vs Q E hr h => ?_)
  · obtain ⟨x, n, ss, v, rfl, _⟩ := h
    rfl
  · obtain ⟨x, n, ss, v, rfl, hw, h⟩ := h
    have hr1 : Room 1 _ := hr.mono (by decide)
    refine ⟨_, pss_one (ps_if (PW.pt (pw_or (pt_not (pt_val (C8.pe_c cI hr (by decide) (by rfl) (pa_cons (pv 1) pa_nil)))) (pw_or (pt_cmpR op_lt (pv 1) pe_int (nomark _)) (pw_or1 (pt_cmpR op_ge (pv 1) (pe_meth0 (pv 0) T.cl mP GP hr1 bP .nil pass0) (nomark _))))))
        (pss_one (ps_raise rfl (takes_of rfl rfl rfl rfl) (pmk_oex TB.ox TB.iC TB.tC GB (hr.mono (by decide)) bB .nil pass0 (by rfl) TB.gC (pa_cons (pv 1) pa_nil)))) pss_nil), ?_⟩
    obtain ⟨dx, l, kd, ys, hx, h2, h3⟩ := id hw
    have no : (wf n l kd).lookup ("places" : Str) = none := wf_no _ _ _ (by decide +kernel) (by decide +kernel) (by decide +kernel)
    rcases h with ⟨hb, kb⟩ | ⟨i, rfl, i0, i1, k⟩
    · rcases hb with hni | ⟨j, rfl, hj⟩
      · refine ⟨_, rfl, v, rfl, .inl ⟨hni, ⟨_, rfl, iteT (iteT ?_)⟩⟩⟩
        exact ⟨_, rfl, by show 1 ≤ 1000; decide, raise_go kb⟩
      · refine ⟨_, rfl, .int j, rfl, .inr ⟨j, rfl, ⟨_, rfl, iteF ?_⟩⟩⟩
        refine ⟨_, rfl, _, _, rfl, rfl, _, rfl, ?_⟩
        refine dec_ite (fun z => iteT ⟨_, rfl, by show 1 ≤ 1000; decide, raise_go kb⟩) (fun z => ?_)
        refine ⟨_, rfl, _, rfl, x, dx, _, rfl, hx, no, x, n, ss, rfl, hw, _, _, rfl, rfl, _, rfl, ?_⟩
        refine dec_ite (fun z => ⟨_, rfl, by show 1 ≤ 1000; decide, raise_go kb⟩) (fun z => ?_)
        omega
    · refine ⟨_, rfl, .int i, rfl, .inr ⟨_, rfl, ⟨_, rfl, iteF ?_⟩⟩⟩
      refine ⟨_, rfl, _, _, rfl, rfl, _, rfl, ?_⟩
      refine dec_ite (fun z => by omega) (fun z => ?_)
      refine ⟨_, rfl, _, rfl, x, dx, _, rfl, hx, no, x, n, ss, rfl, hw, _, _, rfl, rfl, _, rfl, ?_⟩
      refine dec_ite (fun z => by omega) (fun z => ?_)
      exact k
end
end AA

set_option Elab.async false
set_option linter.all false
set_option maxRecDepth 100000
set_option maxHeartbeats 4000000
/-! left_last: the places in the order in which they are left. -/
namespace AA
open PySem PySem.Spec PyProof.Rows L2 Evl
/-- seen, found, and the way down -/
structure Lft (es : List (Int × Int)) (S sn fd td : List Int) : Prop where
  nd : (fd ++ td).Nodup
  mem : ∀ v, v ∈ sn ↔ v ∈ fd ∨ v ∈ td
  st : td.Pairwise (To es)
  j : ∀ (i : Nat) (z y : Int), fd[i]? = some z → (z, y) ∈ es → (y ∈ td ∧ ∀ (j : Nat) (x : Int), i ≤ j → fd[j]? = some x → To es y x) ∨ ∃ m : Nat, fd[m]? = some y ∧ ∀ (j : Nat) (x : Int), i ≤ j → j < m → fd[j]? = some x → To es y x
  r : ∀ v ∈ sn, Rch es S v
theorem Lft.nil {es : List (Int × Int)} {S : List Int} : Lft es S [] [] [] := ⟨List.nodup_nil, fun v => by simp, List.Pairwise.nil, fun i z y h => by simp at h, fun v h => absurd h (by simp)⟩
theorem get_app {l : List Int} {z : Int} {j : Nat} {x : Int} (h : (l ++ [z])[j]? = some x) : l[j]? = some x ∨ (j = l.length ∧ x = z) := by
  by_cases c : j < l.length
  · rw [List.getElem?_append_left c] at h
    exact .inl h
  · rw [List.getElem?_append_right (by omega)] at h
    have : j - l.length = 0 := by
      have := (List.getElem?_eq_some_iff.mp h).1
      rw [List.length_singleton] at this
      omega
    rw [this] at h
    exact .inr ⟨by omega, (Option.some.inj h).symm⟩
theorem get_lt {l : List Int} {j : Nat} {x : Int} (h : l[j]? = some x) : j < l.length := (List.getElem?_eq_some_iff.mp h).1
theorem get_old {l : List Int} {z : Int} {j : Nat} {x : Int} (h : l[j]? = some x) : (l ++ [z])[j]? = some x := by
  rw [List.getElem?_append_left (get_lt h)]
  exact h
theorem get_last (l : List Int) (z : Int) : (l ++ [z])[l.length]? = some z := by
  rw [List.getElem?_append_right (Nat.le_refl _), Nat.sub_self]
  rfl
/-- the last one is left -/
theorem Lft.leave {es : List (Int × Int)} {S sn fd ps : List Int} {z : Int} (L : Lft es S sn fd (ps ++ [z])) (hz : ∀ y, (z, y) ∈ es → y ∈ sn) : Lft es S sn (fd ++ [z]) ps := by
  obtain ⟨nd, mem, st, jj, r⟩ := L
  have stz : ∀ y ∈ ps, To es y z := fun y hy => (List.pairwise_append.mp st).2.2 y hy z (by simp)
  refine ⟨?_, fun v => ?_, (List.pairwise_append.mp st).1, fun i x y hi e => ?_, r⟩
  · have p : (fd ++ (ps ++ [z])).Perm (fd ++ [z] ++ ps) := by
      rw [List.append_assoc]
      exact List.Perm.append_left fd List.perm_append_comm
    exact p.nodup nd
  · rw [mem v, List.mem_append, List.mem_append, List.mem_singleton]
    constructor
    · rintro (h | h | h)
      · exact .inl (.inl h)
      · exact .inr h
      · exact .inl (.inr h)
    · rintro ((h | h) | h)
      · exact .inl h
      · exact .inr (.inr h)
      · exact .inr (.inl h)
  · rcases get_app hi with hi | ⟨rfl, rfl⟩
    · rcases jj i x y hi e with ⟨h1, h2⟩ | ⟨m, h1, h2⟩
      · rcases List.mem_append.mp h1 with hq | hq
        · have tz := stz y hq
          refine .inl ⟨hq, fun j w hj hw => ?_⟩
          rcases get_app hw with hw | ⟨_, ew⟩
          · exact h2 j w hj hw
          · rw [ew]
            exact tz
        · have ey := List.mem_singleton.mp hq
          refine .inr ⟨fd.length, by rw [ey]; exact get_last fd z, fun j w hj hl hw => ?_⟩
          rcases get_app hw with hw | ⟨q, _⟩
          · exact h2 j w hj hw
          · omega
      · refine .inr ⟨m, get_old h1, fun j w hj hl hw => ?_⟩
        rcases get_app hw with hw | ⟨q, _⟩
        · exact h2 j w hj hl hw
        · have := get_lt h1
          omega
    · rcases (mem y).mp (hz y e) with h | h
      · obtain ⟨m, hm⟩ := List.getElem?_of_mem h
        have := get_lt hm
        exact .inr ⟨m, get_old hm, fun j w hj hl hw => by omega⟩
      · rcases List.mem_append.mp h with hq | hq
        · have tz := stz y hq
          refine .inl ⟨hq, fun j w hj hw => ?_⟩
          rcases get_app hw with hw | ⟨_, ew⟩
          · have := get_lt hw
            omega
          · rw [ew]
            exact tz
        · rw [List.mem_singleton.mp hq]
          exact .inr ⟨fd.length, get_last fd x, fun j w hj hl hw => by omega⟩
/-- one step down -/
theorem Lft.down {es : List (Int × Int)} {S sn fd td : List Int} {w : Int} (L : Lft es S sn fd td) (hw : w ∉ sn) (hr : Rch es S w) (hto : ∀ y ∈ td, To es y w) : Lft es S (sn ++ [w]) fd (td ++ [w]) := by
  obtain ⟨nd, mem, st, jj, r⟩ := L
  refine ⟨?_, fun v => ?_, ?_, fun i x y hi e => ?_, fun v hv => ?_⟩
  · rw [← List.append_assoc]
    refine List.nodup_append.mpr ⟨nd, by simp, fun a ha b hb q => ?_⟩
    rw [List.mem_singleton.mp hb] at q
    rw [q] at ha
    exact hw ((mem w).mpr (List.mem_append.mp ha))
  · rw [List.mem_append, List.mem_append, mem v]
    exact ⟨fun h => h.elim (fun h => h.imp id .inl) fun h => .inr (.inr h), fun h => h.elim (fun h => .inl (.inl h)) fun h => h.elim (fun h => .inl (.inr h)) .inr⟩
  · exact List.pairwise_append.mpr ⟨st, List.pairwise_singleton .., fun a ha b hb => by rw [List.mem_singleton.mp hb]; exact hto a ha⟩
  · exact (jj i x y hi e).imp (fun ⟨h1, h2⟩ => ⟨List.mem_append_left _ h1, h2⟩) id
  · exact (List.mem_append.mp hv).elim (r v) fun h => by rw [List.mem_singleton.mp h]; exact hr
/-- none is open any more -/
theorem Lft.ord {es : List (Int × Int)} {S sn fd : List Int} (L : Lft es S sn fd []) (hS : ∀ v ∈ S, v ∈ sn) : Ord es fd ∧ ∀ v, v ∈ fd ↔ Rch es S v := by
  obtain ⟨nd, mem, st, jj, r⟩ := L
  have O : Ord es fd := ⟨by rw [List.append_nil] at nd; exact nd, fun i z y hi e => (jj i z y hi e).elim (fun h => absurd h.1 (by simp)) id⟩
  have sf : ∀ v, v ∈ sn ↔ v ∈ fd := fun v => (mem v).trans ⟨fun h => h.elim id fun h => absurd h (by simp), .inl⟩
  refine ⟨O, fun v => ⟨fun h => r v ((sf v).mpr h), fun h => h.closed (fun a ha => (sf a).mp (hS a ha)) fun a ha b hab => ?_⟩⟩
  obtain ⟨i, hi⟩ := List.getElem?_of_mem ha
  obtain ⟨m, hm, _⟩ := O.q i a b hi hab
  exact mem_of_get hm
end AA

set_option Elab.async false
set_option linter.all false
set_option maxRecDepth 100000
set_option maxHeartbeats 4000000
/-! left_last. -/
namespace AA
open PySem PySem.Spec PyProof.Rows L2 Evl
def pkD (q : Int × Nat) : PyData := eD (q.1, (q.2 : Int))
def mzT : List (Int × Nat) → Nat
  | [] => 0
  | q :: r => (100001 - q.2) + mzT r
theorem mzT_app : ∀ (a b : List (Int × Nat)), mzT (a ++ b) = mzT a + mzT b
  | [], b => (Nat.zero_add _).symm
  | q :: a, b => by
    show (100001 - q.2) + mzT (a ++ b) = (100001 - q.2) + mzT a + mzT b
    rw [mzT_app a b, Nat.add_assoc]
/-- how far one has looked around at z -/
def Look (rows : List (Row Int)) (sn : List Int) (q : Int × Nat) : Prop := (∀ r ∈ rows, r.1 = q.1 → q.2 ≤ r.2.2.length ∧ ∀ y ∈ r.2.2.take q.2, y ∈ sn) ∧ ((∀ r ∈ rows, r.1 ≠ q.1) → q.2 = 0)
theorem Look.more {rows : List (Row Int)} {sn sn' : List Int} {q : Int × Nat} (h : Look rows sn q) (e : ∀ v ∈ sn, v ∈ sn') : Look rows sn' q := ⟨fun r hr hq => ⟨(h.1 r hr hq).1, fun y hy => e y ((h.1 r hr hq).2 y hy)⟩, h.2⟩
section
variable {P : Program} {w : World} {K : PySem.W.Frag} {mg : Str → Option Value} {base : Heap}
def spLeft (K : PySem.W.Frag) : Sp := fun vs H Q _ => ∃ (A st : Addr) (rows : List (Row Int)) (es : List (Int × Int)) (S U : List Int), vs = [.ref A, .ref st] ∧ H A = some (.dK (rowK rows)) ∧ (rows.map (·.1)).Nodup ∧ (∀ r ∈ rows, H r.2.1 = some (.lst (r.2.2.map V.int))) ∧ (∀ r ∈ rows, r.2.2.length ≤ 100000) ∧ Tells rows es ∧
  SqL K H st (S.map V.int) ∧ (∀ v ∈ S, v ∈ U) ∧ (∀ a b, (a, b) ∈ es → b ∈ U) ∧ U.length < 64 ∧
  ∀ (H' : Hp) (p : Addr) (fd : List Int), Ex H H' → H p = none → H' p = some (.lst (fd.map V.int)) → Ord es fd → (∀ v, v ∈ fd ↔ Rch es S v) → Q (.ref p) H'
abbrev nmLL : List Str := ["ahead", "starts", "seen", "found", "start", "todo", "place", "k", "others"]
theorem scLL : FnScope nmLL ["ahead", "starts"] (defScope sLeftLast) := ⟨rfl, rfl, rfl, by decide +kernel, rfl, by decide +kernel, by decide +kernel⟩
theorem ok_left {f : Addr} {fd : FuncData} (F : L2.Fun K "left_last" "left_last" sLeftLast f fd) (B : Bn mg) : FnOk P w K mg base CX0 1 f fd ["ahead", "starts"] (spLeft K) := by
  refine F.ok scLL (fun vs H Q E h => ?_) (fun cdv Ar outer s H vs Q E hr h => ?_)
  · obtain ⟨A, st, rows, es, S, U, rfl, _⟩ := h
    rfl
  · obtain ⟨A, st, rows, es, S, U, rfl, hA, kn, hat, hrl, tl, hst, hSU, hEU, hU, kQ⟩ := h
    have hu := hr.un
    have hu1 : (Ar.deeper (envOfC "left_last" (defScope sLeftLast) s.heap.objs.size f cdv)).units + 1 < cLine := by omega
    refine ⟨_, pss_cons (ps_set (i := 2) scLL.nd rfl (Or.inl rfl) pe_dnewK)
      (pss_cons (ps_set (i := 3) scLL.nd rfl (Or.inl rfl) (pe_lst pa_nil))
      (Evl.pss_cut (ps_for PassesOwn.never rfl (pi_list (pv 1)) (pg_name (i := 4) scLL.nd rfl (Or.inl rfl))
          (Evl.pss_cut (ps_set (i := 5) scLL.nd rfl (Or.inl rfl) (pe_ifExp (pt_cmp (pc_din hu1 (pv 4) (pv 2))) (pe_lst pa_nil) (pe_lst (pa_cons (pe_tup (pa_cons (pv 4) (pa_cons pe_int pa_nil))) pa_nil))))
          (Evl.pss_cut (ps_dput hu1 (pv 2) (pv 4) pe_bl (by rfl))
          (pss_one (ps_while PassesOwn.never (pt_truth (pv 5) (fun _ => rfl))
            (pss_cons (ps_asg (pe_bm0 PySem.F.plainAttrs_list PySem.F.slot_list_pop PySem.F.type_list_pop mt_pop (pv 5)) (pg_tup (n := 2) rfl (pgs_cons (pg_name (i := 6) scLL.nd rfl (Or.inl rfl)) (pgs_cons (pg_name (i := 7) scLL.nd rfl (Or.inl rfl)) pgs_nil))))
            (pss_cons (ps_set (i := 8) scLL.nd rfl (Or.inl rfl) (pe_dget2 hu1 (pv 0) (pv 6) (pe_lst pa_nil) ⟨by rfl, by rfl, by rfl, by rfl⟩))
            (pss_one (ps_if (pt_cmpR op_eq (pv 7) (pe_callB call_len_seq (by rfl) B.len PySem.boot_len (pa_cons (pv 8) pa_nil)) (nomark _))
              (pss_one (ps_expr (pe_bm PySem.F.plainAttrs_list PySem.F.slot_list_append PySem.F.type_list_append mt_append (pv 3) (pa_cons (pv 6) pa_nil))))
              (pss_cons (ps_expr (pe_bm PySem.F.plainAttrs_list PySem.F.slot_list_append PySem.F.type_list_append mt_append (pv 5) (pa_cons (pe_tup (pa_cons (pv 6) (pa_cons (pe_op op_add (pv 7) pe_int) pa_nil))) pa_nil)))
              (pss_one (ps_if (pt_cmp (pc_dnotin hu1 (pe_ix ix_list (pv 8) (pv 7) (fun _ _ => rfl)) (pv 2)))
                (pss_cons (ps_dput hu1 (pv 2) (pe_ix ix_list (pv 8) (pv 7) (fun _ _ => rfl)) pe_bl (by rfl))
                (pss_one (ps_expr (pe_bm PySem.F.plainAttrs_list PySem.F.slot_list_append PySem.F.type_list_append mt_append (pv 5) (pa_cons (pe_tup (pa_cons (pe_ix ix_list (pv 8) (pv 7) (fun _ _ => rfl)) (pa_cons pe_int pa_nil))) pa_nil))))) pss_nil))))))))))))
      (pss_one (ps_ret (pv 3))))), ?_⟩
    intro D hD0
    have y1 := Ex.new (o := .dK []) hD0
    have j1 : upd H D (.dK []) D = some (.dK []) := upd_same
    generalize upd H D (.dK []) = G1 at y1 j1 ⊢
    refine ⟨Nat.zero_le _, fun Fo hFo0 => ?_⟩
    have y2 := Ex.new (o := .lst []) hFo0
    have j2 : upd G1 Fo (.lst []) Fo = some (.lst []) := upd_same
    have FD : Fo ≠ D := (ne_of_none j1 hFo0).symm
    have hFoH := fresh_back y1 hFo0
    generalize upd G1 Fo (.lst []) = G2 at y2 j2 ⊢
    have e2 := y1.trans y2
    have hD2 := y2 _ _ j1
    have nE : ∀ v, Rch es S v → v ∈ U := fun v h => h.in hSU hEU
    have szU : ∀ {sn fd td : List Int}, Lft es S sn fd td → sn.Nodup → sn.length ≤ U.length := fun L nd => nd_len _ U nd fun v hv => nE v (L.r v hv)
    have szT : ∀ {sn fd td : List Int}, Lft es S sn fd td → (fd ++ td).length ≤ U.length := fun L => nd_len _ U L.nd fun v hv => nE v (L.r v ((L.mem v).mpr (List.mem_append.mp hv)))
    refine ⟨fun σ G => ∃ (x4 x5 x6 x7 x8 : Option V) (sn fd : List Int), σ = [some (.ref A), some (.ref st), some (.ref D), some (.ref Fo), x4, x5, x6, x7, x8] ∧ Ex H G ∧ G Fo = some (.lst (fd.map V.int)) ∧ Lft es S sn fd [] ∧ ∀ v ∈ S, v ∈ sn, ?_, ?_⟩
    · refine ⟨_, rfl, st, rfl, ⟨_, ex_l e2 hst⟩, ?_⟩
      refine for_list (K := K) (a := st) (xs := S.map V.int) (fun i σ G => ∃ (x4 x5 x6 x7 x8 : Option V) (sn fd : List Int), σ = [some (.ref A), some (.ref st), some (.ref D), some (.ref Fo), x4, x5, x6, x7, x8] ∧ Ex H G ∧ G D = some (.dK (seenK sn)) ∧ G Fo = some (.lst (fd.map V.int)) ∧ sn.Nodup ∧ Lft es S sn fd [] ∧ ∀ v ∈ S.take i, v ∈ sn) ?_ (fun i σ G _ ⟨_, _, _, _, _, _, _, _, e, _⟩ => ex_l e hst) ?_ ?_
      · exact ⟨none, none, none, none, none, [], [], rfl, e2, hD2, j2, List.nodup_nil, Lft.nil, fun v h => absurd h (by simp)⟩
      · rintro i x σ G hx ⟨x4, x5, x6, x7, x8, sn, fd, rfl, e, hD, hF, snd, L, hS⟩
        obtain ⟨c, hc, rfl⟩ := get_ints hx
        have hcS := mem_of_get hc
        have tk : S.take (i + 1) = S.take i ++ [c] := by rw [List.take_add_one, hc]; rfl
        -- where the way begins
        refine ⟨fun σ G' => ∃ (T : Addr) (vt : List V) (td : List (Int × Nat)), σ = [some (.ref A), some (.ref st), some (.ref D), some (.ref Fo), some (.int c), some (.ref T), x6, x7, x8] ∧ Ex G G' ∧ G T = none ∧ G' T = some (.lst vt) ∧ DpAll K (tps G') vt (td.map pkD) ∧ ((c ∈ sn ∧ td = []) ∨ (c ∉ sn ∧ td = [(c, 0)])), ?_, ?_⟩
        · refine ⟨_, rfl, _, rfl, D, _, rfl, DGet.k (k := Sum.inl c) hD, ?_⟩
          rw [seenK_val]
          by_cases hin : c ∈ sn
          · rw [if_pos hin]
            refine ⟨_, rfl, iteT ⟨Nat.zero_le _, fun T hT => ?_⟩⟩
            exact ⟨T, [], [], rfl, Ex.new hT, hT, upd_same, .nil, .inl ⟨hin, rfl⟩⟩
          · rw [if_neg hin]
            refine ⟨_, rfl, iteF ⟨_, rfl, by show 2 ≤ sizeLine; decide, fun t ht => ⟨by show 1 ≤ sizeLine; decide, fun T hT => ?_⟩⟩⟩
            have z1 := Ex.new (o := .tup [V.int c, V.int 0]) ht
            refine ⟨T, [.ref t], [(c, 0)], rfl, z1.trans (Ex.new hT), fresh_back z1 hT, upd_same, .cons ?_ .nil, .inr ⟨hin, rfl⟩⟩
            exact .tup (SqT.of (tps_mono (Ex.new hT) _ _ (tps_of upd_same))) (.cons (.int c) (.cons (.int _) .nil))
        rintro σ G3 ⟨T, vt, td, rfl, e3, hT0, hT3, hvt, htd⟩
        have TD : T ≠ D := (ne_of_none hD hT0).symm
        have TF : T ≠ Fo := (ne_of_none hF hT0).symm
        have hTH := fresh_back e hT0
        have hD3 := e3 _ _ hD
        have hF3 := e3 _ _ hF
        -- seen
        refine ⟨fun σ G' => ∃ sn', σ = [some (.ref A), some (.ref st), some (.ref D), some (.ref Fo), some (.int c), some (.ref T), x6, x7, x8] ∧ Ex H G' ∧ G' D = some (.dK (seenK sn')) ∧ G' Fo = some (.lst (fd.map V.int)) ∧ G' T = some (.lst vt) ∧ DpAll K (tps G') vt (td.map pkD) ∧ sn'.Nodup ∧ Lft es S sn' fd (td.map (·.1)) ∧ (∀ v ∈ sn, v ∈ sn') ∧ c ∈ sn' ∧ ∀ q ∈ td, Look rows sn' q, ?_, ?_⟩
        · have hz := szU L snd
          have kz : (seenK sn).length < sizeLine := by
            unfold seenK
            rw [List.length_map]
            exact sz_m (by omega)
          refine ⟨_, rfl, _, rfl, D, _, rfl, DPut.k (k := Sum.inl c) hD3 kz, ?_⟩
          have nt3 : NoTup G3 D := fun xs z => by
            rw [hD3] at z
            cases z
          have hk : ∃ sn', putK (seenK sn) (Sum.inl c) (V.bl true) = seenK sn' ∧ sn'.Nodup ∧ Lft es S sn' fd (td.map (·.1)) ∧ (∀ v ∈ sn, v ∈ sn') ∧ c ∈ sn' ∧ ∀ q ∈ td, Look rows sn' q := by
            rcases htd with ⟨hin, rfl⟩ | ⟨hin, rfl⟩
            · exact ⟨sn, seenK_old hin, snd, L, fun v h => h, hin, fun q h => absurd h (by simp)⟩
            · refine ⟨sn ++ [c], seenK_new hin, ?_, L.down hin (.base hcS) fun y h => absurd h (by simp), fun v h => List.mem_append_left _ h, List.mem_append_right _ List.mem_cons_self, fun q h => ?_⟩
              · exact List.nodup_append.mpr ⟨snd, by simp, fun x hx y hy q => by
                  rw [List.mem_singleton.mp hy] at q
                  exact hin (q ▸ hx)⟩
              · rw [List.mem_singleton.mp h]
                exact ⟨fun r _ _ => ⟨Nat.zero_le _, fun y h => absurd h (by simp)⟩, fun _ => rfl⟩
          obtain ⟨sn', h1, h2, h3, h4, h5, h6⟩ := hk
          have h1' : putK (seenK sn) (Sum.inl c) (V.bl true) = seenK sn' := h1
          rw [h1']
          exact ⟨sn', rfl, (e.trans e3).mut hD0, upd_same, by rw [upd_ne FD]; exact hF3, by rw [upd_ne TD]; exact hT3, dpa_ex (tps_upd nt3) _ _ hvt, h2, h3, h4, h5, h6⟩
        rintro σ G4 ⟨sn0, rfl, e4, hD4, hF4, hT4, hvt4, snd0, L4, hsn0, hc0, hlk⟩
        -- down and up
        refine ⟨fun mm σ G' => ∃ (x6 x7 x8 : Option V) (vt : List V) (td : List (Int × Nat)) (sn' fd' : List Int), σ = [some (.ref A), some (.ref st), some (.ref D), some (.ref Fo), some (.int c), some (.ref T), x6, x7, x8] ∧ (U.length - sn'.length) * 100002 + mzT td = mm ∧ Ex H G' ∧ G' D = some (.dK (seenK sn')) ∧ G' Fo = some (.lst (fd'.map V.int)) ∧ G' T = some (.lst vt) ∧ DpAll K (tps G') vt (td.map pkD) ∧ sn'.Nodup ∧ Lft es S sn' fd' (td.map (·.1)) ∧ (∀ v ∈ sn0, v ∈ sn') ∧ ∀ q ∈ td, Look rows sn' q,
          ⟨_, x6, x7, x8, vt, td, sn0, fd, rfl, rfl, e4, hD4, hF4, hT4, hvt4, snd0, L4, (fun v h => h), hlk⟩, ?_⟩
        rintro mm σ G5 ⟨y6, y7, y8, vt5, td5, sn5, fd5, rfl, rfl, e5, hD5, hF5, hT5, hvt5, snd5, L5, hsn5, hlk5⟩
        have vl5 : vt5.length = td5.length := by
          have := dpa_len hvt5
          rw [List.length_map] at this
          exact this
        refine ⟨_, rfl, _, .inl ⟨_, SqL.of hT5, rfl⟩, ?_⟩
        have htz := szT L5
        rw [List.length_append, List.length_map] at htz
        cases hvz : vt5 with
        | nil =>
          rw [hvz] at vl5
          obtain rfl : td5 = [] := List.length_eq_zero_iff.mp vl5.symm
          refine ⟨_, _, y6, y7, y8, sn5, fd5, rfl, e5, hD5, hF5, snd5, L5, fun v hv => ?_⟩
          rw [tk] at hv
          exact (List.mem_append.mp hv).elim (fun h => hsn5 v (hsn0 v (hS v h))) fun h => by rw [List.mem_singleton.mp h]; exact hsn5 c hc0
        | cons v0 vr =>
          refine iteT ?_
          obtain ⟨ps, q, ep⟩ : ∃ ps q, td5 = ps ++ [q] := ⟨td5.dropLast, td5.getLast (fun z => by rw [z, hvz] at vl5; simp at vl5), (List.dropLast_concat_getLast _).symm⟩
          rw [ep] at hvt5 hlk5 L5 vl5 htz ⊢
          rw [List.length_append, List.length_singleton] at vl5 htz
          obtain ⟨v, hv⟩ : ∃ v, vt5[ps.length]? = some v := ⟨_, List.getElem?_eq_getElem (by omega)⟩
          have hps : DpAll K (tps G5) (vt5.take ps.length) (ps.map pkD) := by
            have hE : ((ps ++ [q]).map pkD).take ps.length = ps.map pkD := by
              rw [List.map_append]
              exact List.take_left' (List.length_map ..)
            have := dpa_take ps.length hvt5
            rw [hE] at this
            exact this
          obtain ⟨d, hd1, hd2⟩ := dpa_get hvt5 hv
          have hdq : d = pkD q := by
            rw [List.map_append, List.getElem?_append_right (by rw [List.length_map]; exact Nat.le_refl _), List.length_map, Nat.sub_self] at hd1
            exact (Option.some.inj hd1).symm
          rw [hdq] at hd2
          obtain ⟨t, rfl, ht⟩ := eD_inv (e := (q.1, (q.2 : Int))) hd2
          have ev5 : vt5 = vt5.take ps.length ++ [V.ref t] := by
            have h1 : vt5.take (ps.length + 1) = vt5 := List.take_of_length_le (by omega)
            rw [List.take_add_one, hv] at h1
            exact h1.symm
          generalize vt5.take ps.length = vp at hps ev5
          have vpl : vp.length = ps.length := by
            have := dpa_len hps
            rw [List.length_map] at this
            exact this
          have hT5' : G5 T = some (.lst (vp ++ [V.ref t])) := by rw [hT5, ev5]
          have hqU : q.1 ∈ U := nE _ (L5.r _ ((L5.mem _).mpr (.inr (by simp))))
          refine ⟨fun σ G' => ∃ (x6 x7 x8 : Option V) (vt : List V) (td : List (Int × Nat)) (sn' fd' : List Int), σ = [some (.ref A), some (.ref st), some (.ref D), some (.ref Fo), some (.int c), some (.ref T), x6, x7, x8] ∧ (U.length - sn'.length) * 100002 + mzT td < (U.length - sn5.length) * 100002 + mzT (ps ++ [q]) ∧ Ex H G' ∧ G' D = some (.dK (seenK sn')) ∧ G' Fo = some (.lst (fd'.map V.int)) ∧ G' T = some (.lst vt) ∧ DpAll K (tps G') vt (td.map pkD) ∧ sn'.Nodup ∧ Lft es S sn' fd' (td.map (·.1)) ∧ (∀ v ∈ sn0, v ∈ sn') ∧ ∀ q ∈ td, Look rows sn' q, ?_, ?_⟩
          · rintro σ' G' ⟨x6, x7, x8, vt, td, sn', fd', e', lt, r⟩
            exact ⟨_, lt, x6, x7, x8, vt, td, sn', fd', e', rfl, r⟩
          refine ⟨_, rfl, .inl ⟨rfl, _, SqL.of hT5'⟩, T, _, .ref t, rfl, rfl, hT5', by simp, ?_⟩
          rw [List.dropLast_concat]
          have e6 := e5.mut (o := .lst vp) hTH
          have hD6 : upd G5 T (.lst vp) D = some (.dK (seenK sn5)) := by rw [upd_ne TD.symm]; exact hD5
          have hF6 : upd G5 T (.lst vp) Fo = some (.lst (fd5.map V.int)) := by rw [upd_ne TF.symm]; exact hF5
          have hT6 : upd G5 T (.lst vp) T = some (.lst vp) := upd_same
          have tp6 := tps_upd (o := .lst vp) (NoTup.lst hT5')
          have ht6 := ex_t (tp6.trans tps_le) ht
          have hps6 := dpa_ex tp6 _ _ hps
          generalize upd G5 T (.lst vp) = G6 at e6 hD6 hF6 hT6 ht6 hps6 ⊢
          refine ⟨t, _, rfl, ht6, rfl, _, _, rfl, _, _, rfl, rfl, ?_⟩
          refine ⟨_, rfl, A, rfl, .inl ⟨_, .inl (e6 _ _ hA)⟩, _, rfl, Nat.zero_le _, fun p hp => ?_⟩
          have y7' := Ex.new (o := .lst []) hp
          have j7 : upd G6 p (.lst []) p = some (.lst []) := upd_same
          have pD : p ≠ D := (ne_of_none hD6 hp).symm
          have pT : p ≠ T := (ne_of_none hT6 hp).symm
          have pF : p ≠ Fo := (ne_of_none hF6 hp).symm
          generalize upd G6 p (.lst []) = G7 at y7' j7 ⊢
          have e7 := e6.trans y7'
          have hD7 := y7' _ _ hD6
          have hF7 := y7' _ _ hF6
          have hT7 := y7' _ _ hT6
          have hps7 := dpa_ex (tps_mono y7') _ _ hps6
          refine ⟨valV (rowK rows) (Sum.inl q.1), DGet.k (k := Sum.inl q.1) (e7 _ _ hA), ?_⟩
          have hlq := hlk5 q (by simp)
          obtain ⟨lb, bs, ev, hlb, lD, lT, lF, hbs, hkl, hsk, hbl, mk⟩ : ∃ (lb : Addr) (bs : List Int), (valV (rowK rows) (Sum.inl q.1)).getD (.ref p) = .ref lb ∧ G7 lb = some (.lst (bs.map V.int)) ∧ lb ≠ D ∧ lb ≠ T ∧ lb ≠ Fo ∧ (∀ b, b ∈ bs ↔ (q.1, b) ∈ es) ∧ q.2 ≤ bs.length ∧ (∀ y ∈ bs.take q.2, y ∈ sn5) ∧ bs.length ≤ 100000 ∧
              ∀ (k' : Nat) (sn' : List Int), k' ≤ bs.length → (∀ y ∈ bs.take k', y ∈ sn') → Look rows sn' (q.1, k') := by
            cases hv : valV (rowK rows) (Sum.inl q.1) with
            | none =>
              have hn := rowK_none.mp hv
              refine ⟨p, [], rfl, j7, pD, pT, pF, fun b => ⟨fun h => absurd h (by simp), fun h => ?_⟩, Nat.le_of_eq (hlq.2 hn), fun y h => absurd h (by simp), Nat.zero_le _, fun k' sn' h _ => ⟨fun r hr e => absurd e (hn r hr), fun _ => Nat.le_zero.mp h⟩⟩
              obtain ⟨r, h1, h2, _⟩ := (tl q.1 b).mp h
              exact absurd h2 (hn r h1)
            | some v =>
              obtain ⟨i, r, h1, h2, rfl⟩ := rowK_some hv
              have hm := mem_of_get h1
              have hH := hat r hm
              refine ⟨r.2.1, r.2.2, rfl, e7 _ _ hH, ne_of_none hH hD0, ne_of_none hH hTH, ne_of_none hH hFoH, fun b => ?_, (hlq.1 r hm h2).1, (hlq.1 r hm h2).2, hrl r hm, fun k' sn' h3 h4 => ⟨fun r' hr' e => ?_, fun hn => absurd h2 (hn r hm)⟩⟩
              · rw [tl.key kn h1 b, h2]
              · obtain ⟨j, hj⟩ := List.getElem?_of_mem hr'
                obtain rfl : j = i := nodup_at kn (x := q.1) (by rw [List.getElem?_map, hj, ← e]; rfl) (by rw [List.getElem?_map, h1, ← h2]; rfl)
                rw [h1] at hj
                cases hj
                exact ⟨h3, h4⟩
          rw [ev]
          have mz : mzT (ps ++ [q]) = mzT ps + (100001 - q.2) := by
            rw [mzT_app]
            rfl
          rw [mz]
          refine ⟨_, rfl, _, rfl, lb, _, rfl, .inl (SqL.of hlb), rfl, _, rfl, ?_⟩
          rw [List.length_map]
          refine dec_ite (fun hkk => ?_) (fun hkk => ?_)
          · -- left
            have hk : q.2 = bs.length := by
              have := V.int.inj hkk
              omega
            refine ⟨_, rfl, .inl ⟨rfl, _, SqL.of hF7⟩, _, rfl, Fo, _, _, rfl, rfl, hF7, by rw [List.length_map]; exact sz_m (by omega), ?_⟩
            have hE : fd5.map V.int ++ [V.int q.1] = (fd5 ++ [q.1]).map V.int := by
              rw [List.map_append]
              rfl
            rw [hE]
            rw [List.map_append] at L5
            refine ⟨_, _, _, vp, ps, sn5, fd5 ++ [q.1], rfl, by omega, e7.mut hFoH, by rw [upd_ne FD.symm]; exact hD7, upd_same, by rw [upd_ne TF]; exact hT7, dpa_ex (tps_upd (NoTup.lst hF7)) _ _ hps7, snd5, L5.leave fun y hy => ?_, hsn5, fun q' h => hlk5 q' (List.mem_append_left _ h)⟩
            refine hsk y ?_
            rw [hk, List.take_length]
            exact (hbs y).mpr hy
          · -- one further
            have hk : q.2 < bs.length := by
              rcases Nat.lt_or_ge q.2 bs.length with h | h
              · exact h
              · have : q.2 = bs.length := by omega
                exact absurd (by rw [this]) hkk
            obtain ⟨w', hw⟩ : ∃ w', bs[q.2]? = some w' := ⟨_, List.getElem?_eq_getElem hk⟩
            have hew : (q.1, w') ∈ es := (hbs w').mp (mem_of_get hw)
            have aw : atI (bs.map V.int) (q.2 : Int) = some (V.int w') := atI_nat (by rw [List.getElem?_map, hw]; rfl)
            have tkb : bs.take (q.2 + 1) = bs.take q.2 ++ [w'] := by rw [List.take_add_one, hw]; rfl
            have hzr : Rch es S q.1 := L5.r _ ((L5.mem _).mpr (.inr (by simp)))
            have rw' : Rch es S w' := .step hzr hew
            refine ⟨_, rfl, .inl ⟨rfl, _, SqL.of hT7⟩, _, rfl, _, rfl, _, _, rfl, rfl, by show 2 ≤ sizeLine; decide, fun t2 ht2 => ?_⟩
            have z1 := Ex.new (o := .tup [V.int q.1, V.int ((q.2 : Int) + 1)]) ht2
            have k1 : upd G7 t2 (.tup [V.int q.1, V.int ((q.2 : Int) + 1)]) t2 = some (.tup [V.int q.1, V.int ((q.2 : Int) + 1)]) := upd_same
            generalize upd G7 t2 (.tup [V.int q.1, V.int ((q.2 : Int) + 1)]) = G8 at z1 k1 ⊢
            have hT8 := z1 _ _ hT7
            refine ⟨T, _, _, rfl, rfl, hT8, sz_m (by omega), ?_⟩
            have e9 := (e7.trans z1).mut (o := .lst (vp ++ [.ref t2])) hTH
            have hD9 : upd G8 T (.lst (vp ++ [.ref t2])) D = some (.dK (seenK sn5)) := by rw [upd_ne TD.symm]; exact z1 _ _ hD7
            have hF9 : upd G8 T (.lst (vp ++ [.ref t2])) Fo = some (.lst (fd5.map V.int)) := by rw [upd_ne TF.symm]; exact z1 _ _ hF7
            have hl9 : upd G8 T (.lst (vp ++ [.ref t2])) lb = some (.lst (bs.map V.int)) := by rw [upd_ne lT]; exact z1 _ _ hlb
            have hT9 : upd G8 T (.lst (vp ++ [.ref t2])) T = some (.lst (vp ++ [.ref t2])) := upd_same
            have tp9 := tps_upd (o := .lst (vp ++ [.ref t2])) (NoTup.lst hT8)
            have dp9 : DpAll K (tps (upd G8 T (.lst (vp ++ [.ref t2])))) (vp ++ [.ref t2]) ((ps ++ [(q.1, q.2 + 1)]).map pkD) := by
              rw [List.map_append]
              exact dpa_app (dpa_ex ((tps_mono z1).trans tp9) _ _ hps7) (.cons (.tup (SqT.of (tp9 _ _ (tps_of k1))) (.cons (.int _) (.cons (.int _) .nil))) .nil)
            generalize upd G8 T (.lst (vp ++ [.ref t2])) = G9 at e9 hD9 hF9 hl9 hT9 dp9 ⊢
            have mz9 : mzT (ps ++ [(q.1, q.2 + 1)]) = mzT ps + (100001 - (q.2 + 1)) := by
              rw [mzT_app]
              rfl
            have mf : (ps ++ [(q.1, q.2 + 1)]).map (·.1) = (ps ++ [q]).map (·.1) := by
              rw [List.map_append, List.map_append]
              rfl
            have look9 : ∀ sn' : List Int, (∀ v ∈ sn5, v ∈ sn') → w' ∈ sn' → ∀ q' ∈ ps ++ [(q.1, q.2 + 1)], Look rows sn' q' := fun sn' h1 h2 q' h => by
              rcases List.mem_append.mp h with h | h
              · exact (hlk5 q' (List.mem_append_left _ h)).more h1
              · rw [List.mem_singleton.mp h]
                refine mk _ sn' hk fun y hy => ?_
                rw [tkb] at hy
                exact (List.mem_append.mp hy).elim (fun z => h1 y (hsk y z)) fun z => by rw [List.mem_singleton.mp z]; exact h2
            refine ⟨_, rfl, _, rfl, lb, _, (q.2 : Int), .int w', rfl, rfl, SqL.of hl9, aw, _, rfl, D, _, rfl, DGet.k (k := Sum.inl w') hD9, ?_⟩
            rw [seenK_val]
            by_cases hin : w' ∈ sn5
            · rw [if_pos hin]
              refine ⟨_, rfl, iteF ⟨_, _, _, vp ++ [.ref t2], ps ++ [(q.1, q.2 + 1)], sn5, fd5, rfl, by rw [mz9]; omega, e9, hD9, hF9, hT9, dp9, snd5, by rw [mf]; exact L5, hsn5, look9 sn5 (fun v h => h) hin⟩⟩
            · rw [if_neg hin]
              have nd2 : (sn5 ++ [w']).Nodup := List.nodup_append.mpr ⟨snd5, by simp, fun x hx y hy z => by
                rw [List.mem_singleton.mp hy] at z
                exact hin (z ▸ hx)⟩
              have L6 : Lft es S (sn5 ++ [w']) fd5 ((ps ++ [q]).map (·.1) ++ [w']) := L5.down hin rw' fun y hy => by
                rw [List.map_append] at hy
                have st := L5.st
                rw [List.map_append] at st
                rcases List.mem_append.mp hy with hy | hy
                · exact .step ((List.pairwise_append.mp st).2.2 y hy q.1 (by simp)) hew
                · have : y = q.1 := by simpa using hy
                  rw [this]
                  exact To.one hew
              have hz6 := szU L6 nd2
              rw [List.length_append, List.length_singleton] at hz6
              have kz : (seenK sn5).length < sizeLine := by
                unfold seenK
                rw [List.length_map]
                exact sz_m (by omega)
              refine ⟨_, rfl, iteT ⟨_, rfl, _, rfl, _, rfl, lb, _, (q.2 : Int), .int w', rfl, rfl, SqL.of hl9, aw, D, _, rfl, DPut.k (k := Sum.inl w') hD9 kz, ?_⟩⟩
              have h1' : putK (seenK sn5) (Sum.inl w') (V.bl true) = seenK (sn5 ++ [w']) := seenK_new hin
              rw [h1']
              have nt9 : NoTup G9 D := fun xs z => by
                rw [hD9] at z
                cases z
              have ea := e9.mut (o := .dK (seenK (sn5 ++ [w']))) hD0
              have hDa : upd G9 D (.dK (seenK (sn5 ++ [w']))) D = some (.dK (seenK (sn5 ++ [w']))) := upd_same
              have hFa : upd G9 D (.dK (seenK (sn5 ++ [w']))) Fo = some (.lst (fd5.map V.int)) := by rw [upd_ne FD]; exact hF9
              have hla : upd G9 D (.dK (seenK (sn5 ++ [w']))) lb = some (.lst (bs.map V.int)) := by rw [upd_ne lD]; exact hl9
              have hTa : upd G9 D (.dK (seenK (sn5 ++ [w']))) T = some (.lst (vp ++ [.ref t2])) := by rw [upd_ne TD]; exact hT9
              have dpa' := dpa_ex (tps_upd (o := .dK (seenK (sn5 ++ [w']))) nt9) _ _ dp9
              generalize upd G9 D (.dK (seenK (sn5 ++ [w']))) = Ga at ea hDa hFa hla hTa dpa' ⊢
              refine ⟨_, rfl, .inl ⟨rfl, _, SqL.of hTa⟩, _, rfl, _, rfl, lb, _, (q.2 : Int), .int w', rfl, rfl, SqL.of hla, aw, by show 2 ≤ sizeLine; decide, fun t3 ht3 => ?_⟩
              have zb := Ex.new (o := .tup [V.int w', V.int 0]) ht3
              have kb : upd Ga t3 (.tup [V.int w', V.int 0]) t3 = some (.tup [V.int w', V.int 0]) := upd_same
              generalize upd Ga t3 (.tup [V.int w', V.int 0]) = Gb at zb kb ⊢
              have hTb := zb _ _ hTa
              have tpb := tps_upd (o := .lst (vp ++ [.ref t2] ++ [.ref t3])) (NoTup.lst hTb)
              refine ⟨T, _, _, rfl, rfl, hTb, sz_m (by rw [List.length_append, List.length_singleton]; omega), ?_⟩
              refine ⟨_, _, _, vp ++ [.ref t2] ++ [.ref t3], ps ++ [(q.1, q.2 + 1)] ++ [(w', 0)], sn5 ++ [w'], fd5, rfl, ?_, (ea.trans zb).mut hTH, by rw [upd_ne TD.symm]; exact zb _ _ hDa, by rw [upd_ne TF.symm]; exact zb _ _ hFa, upd_same, ?_, nd2, ?_, fun v h => List.mem_append_left _ (hsn5 v h), fun q' h => ?_⟩
              · rw [mzT_app, mz9, List.length_append, List.length_singleton]
                show _ + (_ + (100001 - 0 + 0)) < _
                omega
              · rw [List.map_append]
                exact dpa_app (dpa_ex ((tps_mono zb).trans tpb) _ _ dpa') (.cons (.tup (SqT.of (tpb _ _ (tps_of kb))) (.cons (.int _) (.cons (.int _) .nil))) .nil)
              · rw [List.map_append, mf]
                exact L6
              · rcases List.mem_append.mp h with h | h
                · exact look9 _ (fun v z => List.mem_append_left _ z) (List.mem_append_right _ List.mem_cons_self) q' h
                · rw [List.mem_singleton.mp h]
                  exact ⟨fun r _ _ => ⟨Nat.zero_le _, fun y z => absurd z (by simp)⟩, fun _ => rfl⟩
      · rintro σ G ⟨x4, x5, x6, x7, x8, sn, fd, rfl, e, hD, hF, snd, L, hS⟩
        rw [List.length_map, List.take_length] at hS
        exact ⟨x4, x5, x6, x7, x8, sn, fd, rfl, e, hF, L, hS⟩
    rintro σ G6 ⟨x4, x5, x6, x7, x8, sn, fd, rfl, e6, hF6, L, hS⟩
    obtain ⟨O, hm⟩ := L.ord hS
    exact ⟨_, rfl, kQ G6 Fo fd e6 hFoH hF6 O hm⟩
end
end AA

set_option Elab.async false
set_option linter.all false
set_option maxRecDepth 100000
set_option maxHeartbeats 4000000
/-! come_back. -/
namespace AA
open PySem PySem.Spec PyProof.Rows L2 Evl
section
variable {P : Program} {w : World} {K : PySem.W.Frag} {mg : Str → Option Value} {base : Heap}
def TkD (kvs : List (Key × V)) (x : Int) : Prop := (valV kvs (Sum.inl x)).isSome = true
def spBack (K : PySem.W.Frag) : Sp := fun vs H Q _ => ∃ (A Tk : Addr) (r : Int) (kvs : List (Key × V)) (rows : List (Row Int)) (esB es : List (Int × Int)) (U : List Int), vs = [.ref A, .int r, .ref Tk] ∧ H Tk = some (.dK kvs) ∧ H A = some (.dK (rowK rows)) ∧ (rows.map (·.1)).Nodup ∧ (∀ r ∈ rows, H r.2.1 = some (.lst (r.2.2.map V.int))) ∧ Tells rows esB ∧ (∀ a b, (a, b) ∈ esB ↔ (b, a) ∈ es) ∧
  r ∈ U ∧ (∀ a b, (a, b) ∈ es → a ∈ U) ∧ U.length < 64 ∧
  ∀ (H' : Hp) (p : Addr) (l : List Int), Ex H H' → H p = none → H' p = some (.lst (l.map V.int)) → l.Nodup → (∀ v, v ∈ l ↔ Back es (TkD kvs) r v) → Q (.ref p) H'
abbrev nmBk : List Str := ["back", "start", "taken", "found", "seen", "todo", "place", "other"]
theorem scBk : FnScope nmBk ["back", "start", "taken"] (defScope sComeBack) := ⟨rfl, rfl, rfl, by decide +kernel, rfl, by decide +kernel, by decide +kernel⟩
theorem ok_back {f : Addr} {fd : FuncData} (F : L2.Fun K "come_back" "come_back" sComeBack f fd) (B : Bn mg) : FnOk P w K mg base CX0 1 f fd ["back", "start", "taken"] (spBack K) := by
  refine F.ok scBk (fun vs H Q E h => ?_) (fun cdv Ar outer s H vs Q E hr h => ?_)
  · obtain ⟨A, Tk, r, kvs, rows, esB, es, U, rfl, _⟩ := h
    rfl
  · obtain ⟨A, Tk, r, kvs, rows, esB, es, U, rfl, hTk, hA, kn, hat, tl, hBE, hrU, hEU, hU, kQ⟩ := h
    have hu := hr.un
    have hu1 : (Ar.deeper (envOfC "come_back" (defScope sComeBack) s.heap.objs.size f cdv)).units + 1 < cLine := by omega
    refine ⟨_, pss_cons (ps_set (i := 3) scBk.nd rfl (Or.inl rfl) (pe_lst (pa_cons (pv 1) pa_nil)))
      (pss_cons (ps_set (i := 4) scBk.nd rfl (Or.inl rfl) (pe_disp (pps_cons (pv 1) pe_bl pps_nil) rfl rfl (by simp) (by show 1 ≤ 15; decide)))
      (pss_cons (ps_set (i := 5) scBk.nd rfl (Or.inl rfl) (pe_lst (pa_cons (pv 1) pa_nil)))
      (Evl.pss_cut (ps_while PassesOwn.never (pt_truth (pv 5) (fun _ => rfl))
          (pss_cons (ps_set (i := 6) scBk.nd rfl (Or.inl rfl) (pe_bm0 PySem.F.plainAttrs_list PySem.F.slot_list_pop PySem.F.type_list_pop mt_pop (pv 5)))
          (pss_one (ps_for PassesOwn.never rfl (pi_list (pe_dget2 hu1 (pv 0) (pv 6) (pe_lst pa_nil) ⟨by rfl, by rfl, by rfl, by rfl⟩)) (pg_name (i := 7) scBk.nd rfl (Or.inl rfl))
            (pss_one (ps_if (PW.pt (pw_and (pt_cmp (pc_dnotin hu1 (pv 7) (pv 4))) (pw_and1 (pt_cmp (pc_dnotin hu1 (pv 7) (pv 2))))))
              (pss_cons (ps_dput hu1 (pv 4) (pv 7) pe_bl (by rfl))
              (pss_cons (ps_expr (pe_bm PySem.F.plainAttrs_list PySem.F.slot_list_append PySem.F.type_list_append mt_append (pv 3) (pa_cons (pv 7) pa_nil)))
              (pss_one (ps_expr (pe_bm PySem.F.plainAttrs_list PySem.F.slot_list_append PySem.F.type_list_append mt_append (pv 5) (pa_cons (pv 7) pa_nil)))))) pss_nil))))))
      (pss_one (ps_ret (pv 3)))))), ?_⟩
    refine ⟨_, rfl, by show 1 ≤ sizeLine; decide, fun Fo hFo => ?_⟩
    have y1 := Ex.new (o := .lst [V.int r]) hFo
    have j1 : upd H Fo (.lst [V.int r]) Fo = some (.lst [V.int r]) := upd_same
    generalize upd H Fo (.lst [V.int r]) = G1 at y1 j1 ⊢
    intro D hD0
    have y2 := Ex.new (o := .dK []) hD0
    have j2 : upd G1 D (.dK []) D = some (.dK []) := upd_same
    have FD : D ≠ Fo := (ne_of_none j1 hD0).symm
    have hDH := fresh_back y1 hD0
    generalize upd G1 D (.dK []) = G2 at y2 j2 ⊢
    refine ⟨_, rfl, j2, [(Sum.inl r, V.bl true)], rfl, by show 1 ≤ 15; decide, ?_⟩
    have hk1 : mergeK [] [((Sum.inl r : Key), V.bl true)] = seenK [r] := rfl
    rw [hk1]
    have e3 := (y1.trans y2).mut (o := .dK (seenK [r])) hDH
    have hF3 : upd G2 D (.dK (seenK [r])) Fo = some (.lst [V.int r]) := by rw [upd_ne FD.symm]; exact y2 _ _ j1
    have hD3 : upd G2 D (.dK (seenK [r])) D = some (.dK (seenK [r])) := upd_same
    generalize upd G2 D (.dK (seenK [r])) = G3 at e3 hF3 hD3 ⊢
    refine ⟨_, rfl, by show 1 ≤ sizeLine; decide, fun T hT0 => ?_⟩
    have y4 := Ex.new (o := .lst [V.int r]) hT0
    have j4 : upd G3 T (.lst [V.int r]) T = some (.lst [V.int r]) := upd_same
    have TD : T ≠ D := (ne_of_none hD3 hT0).symm
    have TF : T ≠ Fo := (ne_of_none hF3 hT0).symm
    have hTH := fresh_back e3 hT0
    generalize upd G3 T (.lst [V.int r]) = G4 at y4 j4 ⊢
    have e4 := e3.trans y4
    have bU : ∀ v, Back es (TkD kvs) r v → v ∈ U := fun v h => by
      cases h with
      | base => exact hrU
      | step _ e _ => exact hEU _ _ e
    refine ⟨fun σ G => ∃ (x6 x7 : Option V) (l : List Int), σ = [some (.ref A), some (.int r), some (.ref Tk), some (.ref Fo), some (.ref D), some (.ref T), x6, x7] ∧ Ex H G ∧ G Fo = some (.lst (l.map V.int)) ∧ l.Nodup ∧ ∀ v, v ∈ l ↔ Back es (TkD kvs) r v, ?_, ?_⟩
    · refine ⟨fun mm σ G => ∃ (x6 x7 : Option V) (l todo : List Int), σ = [some (.ref A), some (.int r), some (.ref Tk), some (.ref Fo), some (.ref D), some (.ref T), x6, x7] ∧ 2 * (U.length - l.length) + todo.length = mm ∧ mm ≤ 2 * U.length + 1 ∧ Ex H G ∧ G D = some (.dK (seenK l)) ∧ G Fo = some (.lst (l.map V.int)) ∧ G T = some (.lst (todo.map V.int)) ∧ l.Nodup ∧ r ∈ l ∧ (∀ v ∈ todo, v ∈ l) ∧ (∀ v ∈ l, Back es (TkD kvs) r v) ∧ (∀ a ∈ l, a ∉ todo → ∀ x, (x, a) ∈ es → ¬ TkD kvs x → x ∈ l),
        ⟨_, none, none, [r], [r], rfl, rfl, by show 2 * (U.length - 1) + 1 ≤ _; omega, e4, y4 _ _ hD3, y4 _ _ hF3, j4, by simp, by simp, (fun v h => h), (fun v h => by rw [List.mem_singleton.mp h]; exact .base), fun a ha hn => absurd ha hn⟩, ?_⟩
      rintro mm σ G ⟨x6, x7, l, todo, rfl, rfl, hmm, e, hD, hF, hTT, lnd, hrl, hts, hbk, hcl⟩
      refine ⟨_, rfl, _, .inl ⟨_, SqL.of hTT, rfl⟩, ?_⟩
      cases htz : todo with
      | nil =>
        refine ⟨x6, x7, l, rfl, e, hF, lnd, fun v => ⟨hbk v, fun h => ?_⟩⟩
        induction h with
        | base => exact hrl
        | step _ e nT ih => exact hcl _ ih (by rw [htz]; simp) _ e nT
      | cons t0 tr =>
        obtain ⟨ps, c, ep⟩ : ∃ ps c, todo = ps ++ [c] := ⟨todo.dropLast, todo.getLast (by rw [htz]; simp), (List.dropLast_concat_getLast _).symm⟩
        refine iteT ?_
        rw [← htz, ep]
        rw [ep] at hTT hts hcl hmm
        have hTT' : G T = some (.lst (ps.map V.int ++ [V.int c])) := by
          rw [hTT, List.map_append]
          rfl
        have hc : c ∈ l := hts c (by simp)
        have bc := hbk c hc
        refine ⟨fun σ G => ∃ (x6 x7 : Option V) (l' todo : List Int), σ = [some (.ref A), some (.int r), some (.ref Tk), some (.ref Fo), some (.ref D), some (.ref T), x6, x7] ∧ 2 * (U.length - l'.length) + todo.length < 2 * (U.length - l.length) + (ps ++ [c]).length ∧ Ex H G ∧ G D = some (.dK (seenK l')) ∧ G Fo = some (.lst (l'.map V.int)) ∧ G T = some (.lst (todo.map V.int)) ∧ l'.Nodup ∧ r ∈ l' ∧ (∀ v ∈ todo, v ∈ l') ∧ (∀ v ∈ l', Back es (TkD kvs) r v) ∧ (∀ a ∈ l', a ∉ todo → ∀ x, (x, a) ∈ es → ¬ TkD kvs x → x ∈ l'), ?_, ?_⟩
        · rintro σ' G' ⟨x6, x7, l', todo', e', lt, r⟩
          exact ⟨_, lt, x6, x7, l', todo', e', rfl, by omega, r⟩
        refine ⟨_, rfl, .inl ⟨rfl, _, SqL.of hTT'⟩, T, _, .int c, rfl, rfl, hTT', by simp, ?_⟩
        rw [List.dropLast_concat]
        have eP := e.mut (o := .lst (ps.map V.int)) hTH
        have hDP : upd G T (.lst (ps.map V.int)) D = some (.dK (seenK l)) := by rw [upd_ne TD.symm]; exact hD
        have hFP : upd G T (.lst (ps.map V.int)) Fo = some (.lst (l.map V.int)) := by rw [upd_ne TF.symm]; exact hF
        have hTP : upd G T (.lst (ps.map V.int)) T = some (.lst (ps.map V.int)) := upd_same
        generalize upd G T (.lst (ps.map V.int)) = G5 at eP hDP hFP hTP ⊢
        refine ⟨_, rfl, A, rfl, .inl ⟨_, .inl (eP _ _ hA)⟩, _, rfl, Nat.zero_le _, fun p hp => ?_⟩
        have y6 := Ex.new (o := .lst []) hp
        have j6 : upd G5 p (.lst []) p = some (.lst []) := upd_same
        have pD : p ≠ D := (ne_of_none hDP hp).symm
        have pT : p ≠ T := (ne_of_none hTP hp).symm
        have pF : p ≠ Fo := (ne_of_none hFP hp).symm
        generalize upd G5 p (.lst []) = G6 at y6 j6 ⊢
        have e6 := eP.trans y6
        refine ⟨valV (rowK rows) (Sum.inl c), DGet.k (k := Sum.inl c) (e6 _ _ hA), ?_⟩
        obtain ⟨lb, bs, ev, hlb, lD, lT, lF, hbs⟩ : ∃ (lb : Addr) (bs : List Int), (valV (rowK rows) (Sum.inl c)).getD (.ref p) = .ref lb ∧ G6 lb = some (.lst (bs.map V.int)) ∧ lb ≠ D ∧ lb ≠ T ∧ lb ≠ Fo ∧ ∀ b, b ∈ bs ↔ (b, c) ∈ es := by
          cases hv : valV (rowK rows) (Sum.inl c) with
          | none =>
            refine ⟨p, [], rfl, j6, pD, pT, pF, fun b => ⟨fun h => absurd h (by simp), fun h => ?_⟩⟩
            obtain ⟨r, h1, h2, _⟩ := (tl c b).mp ((hBE c b).mpr h)
            exact absurd h2 (rowK_none.mp hv r h1)
          | some v =>
            obtain ⟨i, r, h1, h2, rfl⟩ := rowK_some hv
            have hm := mem_of_get h1
            have hH := hat r hm
            refine ⟨r.2.1, r.2.2, rfl, e6 _ _ hH, ne_of_none hH hDH, ne_of_none hH hTH, ne_of_none hH hFo, fun b => ?_⟩
            rw [tl.key kn h1 b, h2, hBE]
        rw [ev]
        refine ⟨lb, rfl, ⟨_, SqL.of hlb⟩, ?_⟩
        refine for_list (K := K) (a := lb) (xs := bs.map V.int) (fun j σ G => ∃ (x7 : Option V) (l' todo : List Int), σ = [some (.ref A), some (.int r), some (.ref Tk), some (.ref Fo), some (.ref D), some (.ref T), some (.int c), x7] ∧ 2 * (U.length - l'.length) + todo.length ≤ 2 * (U.length - l.length) + ps.length ∧ Ex H G ∧ G lb = some (.lst (bs.map V.int)) ∧ G D = some (.dK (seenK l')) ∧ G Fo = some (.lst (l'.map V.int)) ∧ G T = some (.lst (todo.map V.int)) ∧ l'.Nodup ∧ r ∈ l' ∧ (∀ v ∈ todo, v ∈ l') ∧ (∀ v ∈ l', Back es (TkD kvs) r v) ∧
            (∀ a ∈ l', a ∉ todo → a = c ∨ ∀ x, (x, a) ∈ es → ¬ TkD kvs x → x ∈ l') ∧ ∀ b ∈ bs.take j, ¬ TkD kvs b → b ∈ l') ?_ (fun j σ G _ ⟨_, _, _, _, _, _, q, _⟩ => SqL.of q) ?_ ?_
        · refine ⟨_, l, ps, rfl, Nat.le_refl _, e6, hlb, y6 _ _ hDP, y6 _ _ hFP, y6 _ _ hTP, lnd, hrl, (fun v h => hts v (List.mem_append_left _ h)), hbk, (fun a ha hn => ?_), fun b h => absurd h (by simp)⟩
          by_cases q : a = c
          · exact .inl q
          · exact .inr (hcl a ha fun z => (List.mem_append.mp z).elim hn fun z => q (List.mem_singleton.mp z))
        · rintro j x σ G' hx ⟨y7', l', todo', rfl, hm', e', hlb', hD', hF', hT', lnd', hrl', hts', hbk', hcl', htk⟩
          obtain ⟨b, hb, rfl⟩ := get_ints hx
          have tk : bs.take (j + 1) = bs.take j ++ [b] := by rw [List.take_add_one, hb]; rfl
          have heb : (b, c) ∈ es := (hbs b).mp (mem_of_get hb)
          have skip : (¬ TkD kvs b → b ∈ l') → ∀ z ∈ bs.take (j + 1), ¬ TkD kvs z → z ∈ l' := fun h z hz nT => by
            rw [tk] at hz
            rcases List.mem_append.mp hz with q | q
            · exact htk z q nT
            · rw [List.mem_singleton.mp q] at nT ⊢
              exact h nT
          refine ⟨_, rfl, _, rfl, D, _, rfl, DGet.k (k := Sum.inl b) hD', ?_⟩
          rw [seenK_val]
          by_cases hin : b ∈ l'
          · rw [if_pos hin]
            exact ⟨_, rfl, iteF ⟨_, l', todo', rfl, hm', e', hlb', hD', hF', hT', lnd', hrl', hts', hbk', hcl', skip fun _ => hin⟩⟩
          · rw [if_neg hin]
            refine ⟨_, rfl, iteT ⟨_, rfl, _, rfl, Tk, _, rfl, DGet.k (k := Sum.inl b) (e' _ _ hTk), ?_⟩⟩
            cases hv : valV kvs (Sum.inl b) with
            | some v => exact ⟨_, rfl, iteF ⟨_, l', todo', rfl, hm', e', hlb', hD', hF', hT', lnd', hrl', hts', hbk', hcl', skip fun nT => absurd (by show (valV kvs (Sum.inl b)).isSome = true; rw [hv]; rfl) nT⟩⟩
            | none =>
              have nT : ¬ TkD kvs b := fun z => by
                have z' : (valV kvs (Sum.inl b)).isSome = true := z
                rw [hv] at z'
                cases z'
              refine ⟨_, rfl, iteT ?_⟩
              have bb : Back es (TkD kvs) r b := .step bc heb nT
              have nd2 : (l' ++ [b]).Nodup := List.nodup_append.mpr ⟨lnd', by simp, fun x hx y hy q => by
                rw [List.mem_singleton.mp hy] at q
                exact hin (q ▸ hx)⟩
              have hz := nd_len (l' ++ [b]) U nd2 fun v hv => (List.mem_append.mp hv).elim (fun q => bU v (hbk' v q)) fun q => by rw [List.mem_singleton.mp q]; exact bU b bb
              rw [List.length_append, List.length_singleton] at hz
              have kz : (seenK l').length < sizeLine := by
                unfold seenK
                rw [List.length_map]
                exact sz_m (by omega)
              refine ⟨_, rfl, _, rfl, D, _, rfl, DPut.k (k := Sum.inl b) hD' kz, ?_⟩
              have hk : putK (seenK l') (Sum.inl b) (V.bl true) = seenK (l' ++ [b]) := seenK_new hin
              rw [hk]
              have e7 := e'.mut (o := .dK (seenK (l' ++ [b]))) hDH
              have hD7 : upd G' D (.dK (seenK (l' ++ [b]))) D = some (.dK (seenK (l' ++ [b]))) := upd_same
              have hF7 : upd G' D (.dK (seenK (l' ++ [b]))) Fo = some (.lst (l'.map V.int)) := by rw [upd_ne FD.symm]; exact hF'
              have hT7 : upd G' D (.dK (seenK (l' ++ [b]))) T = some (.lst (todo'.map V.int)) := by rw [upd_ne TD]; exact hT'
              have hl7 : upd G' D (.dK (seenK (l' ++ [b]))) lb = some (.lst (bs.map V.int)) := by rw [upd_ne lD]; exact hlb'
              generalize upd G' D (.dK (seenK (l' ++ [b]))) = G7 at e7 hD7 hF7 hT7 hl7 ⊢
              refine ⟨_, rfl, .inl ⟨rfl, _, SqL.of hF7⟩, _, rfl, Fo, _, _, rfl, rfl, hF7, by rw [List.length_map]; exact sz_m (by omega), ?_⟩
              have hE : l'.map V.int ++ [V.int b] = (l' ++ [b]).map V.int := by
                rw [List.map_append]
                rfl
              rw [hE]
              have e8 := e7.mut (o := .lst ((l' ++ [b]).map V.int)) hFo
              have hD8 : upd G7 Fo (.lst ((l' ++ [b]).map V.int)) D = some (.dK (seenK (l' ++ [b]))) := by rw [upd_ne FD]; exact hD7
              have hF8 : upd G7 Fo (.lst ((l' ++ [b]).map V.int)) Fo = some (.lst ((l' ++ [b]).map V.int)) := upd_same
              have hT8 : upd G7 Fo (.lst ((l' ++ [b]).map V.int)) T = some (.lst (todo'.map V.int)) := by rw [upd_ne TF]; exact hT7
              have hl8 : upd G7 Fo (.lst ((l' ++ [b]).map V.int)) lb = some (.lst (bs.map V.int)) := by rw [upd_ne lF]; exact hl7
              generalize upd G7 Fo (.lst ((l' ++ [b]).map V.int)) = G8 at e8 hD8 hF8 hT8 hl8 ⊢
              rw [List.length_append, List.length_singleton] at hmm
              refine ⟨_, rfl, .inl ⟨rfl, _, SqL.of hT8⟩, _, rfl, T, _, _, rfl, rfl, hT8, by rw [List.length_map]; exact sz_m (by omega), ?_⟩
              have hE2 : todo'.map V.int ++ [V.int b] = (todo' ++ [b]).map V.int := by
                rw [List.map_append]
                rfl
              rw [hE2]
              refine ⟨_, l' ++ [b], todo' ++ [b], rfl, by rw [List.length_append, List.length_append, List.length_singleton]; omega, e8.mut hTH, by rw [upd_ne lT]; exact hl8, by rw [upd_ne TD.symm]; exact hD8, by rw [upd_ne TF.symm]; exact hF8, upd_same, nd2, List.mem_append_left _ hrl', fun v h => ?_, fun v h => ?_, fun a ha hn => ?_, fun z hz nT => ?_⟩
              · exact (List.mem_append.mp h).elim (fun q => List.mem_append_left _ (hts' v q)) fun q => List.mem_append_right _ q
              · exact (List.mem_append.mp h).elim (hbk' v) fun q => by rw [List.mem_singleton.mp q]; exact bb
              · rcases List.mem_append.mp ha with ha | ha
                · exact (hcl' a ha fun z => hn (List.mem_append_left _ z)).imp id fun q x hx nx => List.mem_append_left _ (q x hx nx)
                · exact absurd (List.mem_append_right _ ha) hn
              · rw [tk] at hz
                exact (List.mem_append.mp hz).elim (fun q => List.mem_append_left _ (htk z q nT)) fun q => List.mem_append_right _ q
        · rintro σ G' ⟨y7', l', todo', rfl, hm', e', hlb', hD', hF', hT', lnd', hrl', hts', hbk', hcl', htk⟩
          rw [List.length_map, List.take_length] at htk
          refine ⟨_, _, l', todo', rfl, by rw [List.length_append, List.length_singleton]; omega, e', hD', hF', hT', lnd', hrl', hts', hbk', fun a ha hn x hx nT => ?_⟩
          rcases hcl' a ha hn with q | q
          · rw [q] at hx
            exact htk x ((hbs x).mpr hx) nT
          · exact q x hx nT
    rintro σ G7 ⟨x6, x7, l, rfl, e7, hF7, lnd, hm⟩
    exact ⟨_, rfl, kQ G7 Fo l e7 hFo hF7 lnd hm⟩
end
end AA

set_option Elab.async false
set_option linter.all false
set_option maxRecDepth 100000
set_option maxHeartbeats 4000000
/-! Lots, one by one; a loop over reversed(xs). -/
namespace AA
open PySem PySem.Spec PyProof.Rows L2 Evl
/-- they come to one another -/
def Sm2 (es : List (Int × Int)) (a b : Int) : Prop := To es a b ∧ To es b a
theorem Sm2.refl {es : List (Int × Int)} (a : Int) : Sm2 es a a := ⟨To.refl a, To.refl a⟩
theorem Sm2.symm {es : List (Int × Int)} {a b : Int} (h : Sm2 es a b) : Sm2 es b a := ⟨h.2, h.1⟩
theorem Sm2.trans {es : List (Int × Int)} {a b c : Int} (h : Sm2 es a b) (k : Sm2 es b c) : Sm2 es a c := ⟨h.1.trans k.1, k.2.trans h.2⟩
/-- places with the least of their lot, as a dict -/
def leK (l : List (Int × Int)) : List (Key × V) := l.map fun q => (Sum.inl q.1, V.int q.2)
theorem leK_none {v : Int} : ∀ {l : List (Int × Int)}, valV (leK l) (Sum.inl v) = none ↔ v ∉ l.map (·.1)
  | [] => ⟨fun _ h => absurd h (by simp), fun _ => rfl⟩
  | q :: l => by
    by_cases e : q.1 = v
    · have h1 : valV (leK (q :: l)) (Sum.inl v) = some (V.int q.2) := valV_pos (p := (Sum.inl q.1, V.int q.2)) (by rw [e])
      rw [h1]
      refine ⟨fun h => (nomatch h), fun h => absurd ?_ h⟩
      rw [List.map_cons, e]
      exact List.mem_cons_self
    · have h1 : valV (leK (q :: l)) (Sum.inl v) = valV (leK l) (Sum.inl v) := valV_neg (p := (Sum.inl q.1, V.int q.2)) fun z => e (Sum.inl.inj z)
      rw [h1, leK_none (l := l), List.map_cons, List.mem_cons]
      exact ⟨fun h z => z.elim (fun y => e y.symm) h, fun h z => h (.inr z)⟩
theorem leK_some {v : Int} {u : V} : ∀ {l : List (Int × Int)}, valV (leK l) (Sum.inl v) = some u → ∃ m, (v, m) ∈ l ∧ u = .int m
  | [], h => by cases h
  | q :: l, h => by
    by_cases e : q.1 = v
    · have h1 : valV (leK (q :: l)) (Sum.inl v) = some (V.int q.2) := valV_pos (p := (Sum.inl q.1, V.int q.2)) (by rw [e])
      rw [h1] at h
      cases h
      exact ⟨q.2, by rw [← e]; exact List.mem_cons_self, rfl⟩
    · have h1 : valV (leK (q :: l)) (Sum.inl v) = valV (leK l) (Sum.inl v) := valV_neg (p := (Sum.inl q.1, V.int q.2)) fun z => e (Sum.inl.inj z)
      rw [h1] at h
      obtain ⟨m, h2, h3⟩ := leK_some h
      exact ⟨m, List.mem_cons_of_mem _ h2, h3⟩
theorem leK_new {v m : Int} {l : List (Int × Int)} (h : v ∉ l.map (·.1)) : putK (leK l) (Sum.inl v) (V.int m) = leK (l ++ [(v, m)]) := by
  rw [putK_new _ (leK_none.mpr h)]
  unfold leK
  rw [List.map_append]
  rfl
theorem leK_tk {v : Int} {l : List (Int × Int)} : TkD (leK l) v ↔ v ∈ l.map (·.1) := by
  unfold TkD
  cases h : valV (leK l) (Sum.inl v) with
  | none => exact ⟨fun z => (nomatch z), fun z => absurd z (leK_none.mp h)⟩
  | some u =>
    refine ⟨fun _ => ?_, fun _ => rfl⟩
    obtain ⟨m, h1, _⟩ := leK_some h
    exact List.mem_map.mpr ⟨_, h1, rfl⟩
/-- what is known while the places are taken lot by lot, from the last one that is left -/
structure Lots (es : List (Int × Int)) (fd : List Int) (j : Nat) (l : List (Int × Int)) : Prop where
  nd : (l.map (·.1)).Nodup
  inF : ∀ v ∈ l.map (·.1), v ∈ fd
  cl : ∀ v ∈ l.map (·.1), ∀ u, Sm2 es v u → u ∈ l.map (·.1)
  past : ∀ (i : Nat) (x : Int), fd.length - j ≤ i → fd[i]? = some x → x ∈ l.map (·.1)
  least : ∀ q ∈ l, Sm2 es q.1 q.2 ∧ ∀ u, Sm2 es q.1 u → q.2 ≤ u
theorem Lots.nil {es : List (Int × Int)} {fd : List Int} : Lots es fd 0 [] := ⟨List.nodup_nil, fun v h => absurd h (by simp), fun v h => absurd h (by simp), fun i x h1 h2 => by
  have := get_lt h2
  omega, fun q h => absurd h (by simp)⟩
theorem Lots.skip {es : List (Int × Int)} {fd : List Int} {j : Nat} {l : List (Int × Int)} {r : Int} (L : Lots es fd j l) (hj : j < fd.length) (hr : fd[fd.length - 1 - j]? = some r) (h : r ∈ l.map (·.1)) : Lots es fd (j + 1) l := ⟨L.nd, L.inF, L.cl, fun i x h1 h2 => by
  by_cases e : i = fd.length - 1 - j
  · rw [e, hr] at h2
    rw [← Option.some.inj h2]
    exact h
  · exact L.past i x (by omega) h2, L.least⟩
/-- who comes back to r is its lot -/
theorem Lots.group {es : List (Int × Int)} {fd : List Int} {j : Nat} {l : List (Int × Int)} {r : Int} (L : Lots es fd j l) (O : Ord es fd) (all : ∀ a b, (a, b) ∈ es → a ∈ fd) (hj : j < fd.length) (hr : fd[fd.length - 1 - j]? = some r) (h : r ∉ l.map (·.1)) (v : Int) : Back es (TkD (leK l)) r v ↔ Sm2 es r v := by
  constructor
  · intro hb
    have := ord_back O hr (fun i x hx nT => ?_) all hb
    · exact ⟨this.2, this.1⟩
    · rcases Nat.lt_or_ge (fd.length - 1 - j) i with c | c
      · exact absurd (leK_tk.mpr (L.past i x (by omega) hx)) nT
      · exact c
  · intro hs
    exact back_of (fun u h1 h2 hT => h (L.cl u (leK_tk.mp hT) r ⟨h1, h2⟩)) hs.2 hs.1
theorem Lots.take {es : List (Int × Int)} {fd : List Int} {j : Nat} {l : List (Int × Int)} {r m : Int} {g : List Int} (L : Lots es fd j l) (hj : j < fd.length) (hr : fd[fd.length - 1 - j]? = some r) (h : r ∉ l.map (·.1)) (gn : g.Nodup) (hg : ∀ v, v ∈ g ↔ Sm2 es r v) (gF : ∀ v ∈ g, v ∈ fd) (hm : m ∈ g) (hl : ∀ y ∈ g, m ≤ y) :
    Lots es fd (j + 1) (l ++ g.map fun v => (v, m)) := by
  have mf : (l ++ g.map fun v => (v, m)).map (·.1) = l.map (·.1) ++ g := by
    rw [List.map_append, List.map_map]
    congr 1
    exact List.map_id g
  have off : ∀ v ∈ g, v ∉ l.map (·.1) := fun v hv z => h (L.cl v z r ((hg v).mp hv).symm)
  refine ⟨?_, fun v hv => ?_, fun v hv u hu => ?_, fun i x h1 h2 => ?_, fun q hq => ?_⟩
  · rw [mf]
    exact List.nodup_append.mpr ⟨L.nd, gn, fun x hx y hy e => off y hy (e ▸ hx)⟩
  · rw [mf] at hv
    exact (List.mem_append.mp hv).elim (L.inF v) (gF v)
  · rw [mf] at hv ⊢
    rcases List.mem_append.mp hv with hv | hv
    · exact List.mem_append_left _ (L.cl v hv u hu)
    · exact List.mem_append_right _ ((hg u).mpr (((hg v).mp hv).trans hu))
  · rw [mf]
    by_cases e : i = fd.length - 1 - j
    · rw [e, hr] at h2
      rw [← Option.some.inj h2]
      exact List.mem_append_right _ ((hg r).mpr (Sm2.refl r))
    · exact List.mem_append_left _ (L.past i x (by omega) h2)
  · rcases List.mem_append.mp hq with hq | hq
    · exact L.least q hq
    · obtain ⟨v, hv, rfl⟩ := List.mem_map.mp hq
      have rv := (hg v).mp hv
      exact ⟨rv.symm.trans ((hg m).mp hm), fun u hu => hl u ((hg u).mpr (rv.trans hu))⟩
/-- at the end each place has the least of its lot -/
theorem Lots.done {es : List (Int × Int)} {fd : List Int} {l : List (Int × Int)} (L : Lots es fd fd.length l) (v : Int) : v ∈ l.map (·.1) ↔ v ∈ fd := by
  refine ⟨L.inF v, fun h => ?_⟩
  obtain ⟨i, hi⟩ := List.getElem?_of_mem h
  exact L.past i v (by omega) hi
/-- a loop over reversed(xs) -/
theorem for_revL {K : PySem.W.Frag} {a : Addr} {xs : List V} {g : TG} {tb : TS} {D : Ends} {σ : L2.St} {H : Hp} (Pv : Nat → L2.St → Hp → Prop) (h0 : Pv 0 σ H) (hq : ∀ i σ H, i ≤ xs.length → Pv i σ H → SqL K H a xs)
    (hs : ∀ i x σ H, i < xs.length → xs[xs.length - 1 - i]? = some x → Pv i σ H → g x σ H fun σ2 H2 => tb { D with nx := Pv (i + 1), ct := Pv (i + 1), bk := D.nx } σ2 H2) (hd : ∀ σ H, Pv xs.length σ H → D.nx σ H) :
    ∃ W : Nat → Nat → L2.St → Hp → Prop, (∃ m, W 0 m σ H) ∧ ∀ i m σ H, W i m σ H →
      ((Itv K a xs.length).stop i H ∧ D.nx σ H) ∨ ((Itv K a xs.length).go i H ∧ ∃ N : L2.St → Hp → Prop, (∀ σ' H', N σ' H' → ∃ m', m' < m ∧ W (i + 1) m' σ' H') ∧ ∀ x H', (Itv K a xs.length).yld i H x H' → g x σ H' fun σ2 H2 => tb { D with nx := N, ct := N, bk := D.nx } σ2 H2) := by
  refine ⟨fun i m σ H => m = xs.length - i ∧ i ≤ xs.length ∧ Pv i σ H, ⟨xs.length, by simp, Nat.zero_le _, h0⟩, ?_⟩
  rintro i m σ H ⟨rfl, hi, p⟩
  have q := hq i σ H hi p
  by_cases lt : i < xs.length
  · have hx : xs[xs.length - 1 - i]? = some (xs[xs.length - 1 - i]'(by omega)) := List.getElem?_eq_getElem (by omega)
    refine .inr ⟨⟨lt, xs, _, q, hx⟩, Pv (i + 1), fun σ' H' p' => ⟨xs.length - (i + 1), by omega, rfl, lt, p'⟩, fun x H' y => ?_⟩
    obtain ⟨rfl, y⟩ := y
    exact hs i x σ _ lt (y xs q) p
  · obtain rfl : i = xs.length := by omega
    exact .inl ⟨Nat.le_refl _, hd σ H p⟩
end AA

set_option Elab.async false
set_option linter.all false
set_option maxRecDepth 100000
set_option maxHeartbeats 4000000
/-! together_of. -/
namespace AA
open PySem PySem.Spec PyProof.Rows L2 Evl
theorem Adj.keep {α : Type} {f : α → V} {H G G' : Hp} {A B : Addr} {rows : List (Row α)} {rowsB : List (Row α)} (h : Adj f H G B rowsB) (k : ∀ z o, G z = some o → z ≠ A → (∀ r ∈ rows, z ≠ r.2.1) → G' z = some o) (BA : B ≠ A) (Br : ∀ r ∈ rows, B ≠ r.2.1) (d1 : ∀ q ∈ rowsB, q.2.1 ≠ A) (d2 : ∀ q ∈ rowsB, ∀ r ∈ rows, q.2.1 ≠ r.2.1) : Adj f H G' B rowsB :=
  ⟨k _ _ h.dk BA Br, h.kn, h.an, h.fr, fun q hq => k _ _ (h.at' q hq) (d1 q hq) (d2 q hq)⟩
/-- a list of the dict has one more -/
def PutOk (H G G' : Hp) (A : Addr) (rows : List (Row Int)) (es' : List (Int × Int)) (i : Nat) : Prop := ∃ rows' : List (Row Int), Ex H G' ∧ Adj V.int H G' A rows' ∧ Tells rows' es' ∧ rows'.length ≤ i ∧ (∀ r ∈ rows', r.2.2.length ≤ i ∧ r.2.2 ≠ []) ∧
  (∀ z o, G z = some o → z ≠ A → (∀ r ∈ rows, z ≠ r.2.1) → G' z = some o) ∧ ∀ r' ∈ rows', (∃ r ∈ rows, r.2.1 = r'.2.1) ∨ G r'.2.1 = none
theorem put_old {H G G1 : Hp} {A : Addr} {rows : List (Row Int)} {es : List (Int × Int)} {i j : Nat} {r : Row Int} (e : Ex H G1) (y : Ex G G1) (ad : Adj V.int H G1 A rows) (tl : Tells rows es) (rl : rows.length ≤ i) (bl : ∀ r ∈ rows, r.2.2.length ≤ i ∧ r.2.2 ≠ []) (hr : rows[j]? = some r) (b : Int) : PutOk H G (L2.upd G1 r.2.1 (.lst ((r.2.2 ++ [b]).map V.int))) A rows (es ++ [(r.1, b)]) (i + 1) := by
  have hm := mem_of_get hr
  refine ⟨rows.set j (r.1, r.2.1, r.2.2 ++ [b]), e.mut (ad.fr r hm).1, ad.more hr b, tl.more hr b, by rw [List.length_set]; omega, fun s hs => ?_, fun z o hz zA zr => ?_, fun s hs => ?_⟩
  · rcases (mem_set hr).mp hs with rfl | ⟨j', _, hj⟩
    · refine ⟨?_, by simp⟩
      show (r.2.2 ++ [b]).length ≤ i + 1
      rw [List.length_append]
      exact Nat.succ_le_succ (bl r hm).1
    · have := bl s (mem_of_get hj)
      exact ⟨by omega, this.2⟩
  · rw [upd_ne (zr r hm)]
    exact y _ _ hz
  · rcases (mem_set hr).mp hs with rfl | ⟨j', _, hj⟩
    · exact .inl ⟨r, hm, rfl⟩
    · exact .inl ⟨s, mem_of_get hj, rfl⟩
theorem put_new {H G G1 : Hp} {A p : Addr} {rows : List (Row Int)} {es : List (Int × Int)} {i : Nat} {a : Int} (e : Ex H G1) (y : Ex G G1) (hA : H A = none) (hp : G p = none) (eG : Ex H G) (ad : Adj V.int H G1 A rows) (ad0 : Adj V.int H G A rows) (tl : Tells rows es) (rl : rows.length ≤ i) (bl : ∀ r ∈ rows, r.2.2.length ≤ i ∧ r.2.2 ≠ []) (hn : ∀ r ∈ rows, r.1 ≠ a) (b : Int) : PutOk H G (L2.upd (L2.upd G1 A (.dK (putK (rowK rows) (Sum.inl a) (V.ref p)))) p (.lst [V.int b])) A rows (es ++ [(a, b)]) (i + 1) := by
  have pA : p ≠ A := (ne_of_none ad0.dk hp).symm
  have pr : ∀ r ∈ rows, p ≠ r.2.1 := fun r hr => (ne_of_none (ad0.at' r hr) hp).symm
  have p0 := fresh_back eG hp
  refine ⟨rows ++ [(a, p, [b])], (e.mut hA).mut p0, ad.new hn p0 pA pr ad.dk, tl.new a p b, by rw [List.length_append]; exact Nat.succ_le_succ rl, fun s hs => ?_, fun z o hz zA zr => ?_, fun s hs => ?_⟩
  · rcases List.mem_append.mp hs with hs | hs
    · have := bl s hs
      exact ⟨by omega, this.2⟩
    · rw [List.mem_singleton.mp hs]
      exact ⟨by show 1 ≤ i + 1; omega, by simp⟩
  · have zp : z ≠ p := ne_of_none hz hp
    rw [upd_ne zp, upd_ne zA]
    exact y _ _ hz
  · rcases List.mem_append.mp hs with hs | hs
    · exact .inl ⟨s, hs, rfl⟩
    · rw [List.mem_singleton.mp hs]
      exact .inr hp
/-- two such dicts beside one another -/
def TwoOk (H G : Hp) (A B : Addr) (rA rB : List (Row Int)) : Prop := Adj V.int H G A rA ∧ Adj V.int H G B rB ∧ (∀ r ∈ rA, ∀ q ∈ rB, r.2.1 ≠ q.2.1) ∧ (∀ q ∈ rB, A ≠ q.2.1) ∧ ∀ r ∈ rA, B ≠ r.2.1
theorem TwoOk.symm {H G : Hp} {A B : Addr} {rA rB : List (Row Int)} (h : TwoOk H G A B rA rB) : TwoOk H G B A rB rA := ⟨h.2.1, h.1, fun r hr q hq e => h.2.2.1 q hq r hr e.symm, h.2.2.2.2, h.2.2.2.1⟩
theorem TwoOk.put {H G G' : Hp} {A B : Addr} {rA rB : List (Row Int)} {es' : List (Int × Int)} {i : Nat} (h : TwoOk H G A B rA rB) (BA : B ≠ A) (p : PutOk H G G' A rA es' i) : ∃ rA', Ex H G' ∧ TwoOk H G' A B rA' rB ∧ Tells rA' es' ∧ rA'.length ≤ i ∧ ∀ r ∈ rA', r.2.2.length ≤ i ∧ r.2.2 ≠ [] := by
  obtain ⟨rA', e, ad, tl, rl, bl, k, ds⟩ := p
  obtain ⟨hA, hB, d1, d2, d3⟩ := h
  refine ⟨rA', e, ⟨ad, hB.keep k BA d3 (fun q hq => (d2 q hq).symm) fun q hq r hr z => d1 r hr q hq z.symm, fun r hr q hq => ?_, d2, fun r hr => ?_⟩, tl, rl, bl⟩
  · rcases ds r hr with ⟨r0, h1, h2⟩ | h1
    · rw [← h2]
      exact d1 r0 h1 q hq
    · exact (ne_of_none (hB.at' q hq) h1).symm
  · rcases ds r hr with ⟨r0, h1, h2⟩ | h1
    · rw [← h2]
      exact d3 r0 h1
    · exact ne_of_none hB.dk h1
def bdg (ss : List St5) : List (Int × Int) := ss.map fun s => (s.other, s.one)
theorem bdg_edg {ss : List St5} {a b : Int} : (a, b) ∈ bdg ss ↔ (b, a) ∈ edg ss := by
  unfold bdg
  rw [List.mem_map, edg_mem]
  exact ⟨fun ⟨s, h1, h2⟩ => ⟨s, h1, (Prod.mk.inj h2).2, (Prod.mk.inj h2).1⟩, fun ⟨s, h1, h2, h3⟩ => ⟨s, h1, by rw [h2, h3]⟩⟩
section
variable {P : Program} {w : World} {K : PySem.W.Frag} {mg : Str → Option Value} {base : Heap}
/-- a place that a step names -/
def Nmd (ss : List St5) (v : Int) : Prop := ∃ s ∈ ss, s.one = v ∨ s.other = v
def spTog (K : PySem.W.Frag) : Sp := fun vs H Q _ => ∃ (l : Addr) (us : List V) (ss : List St5) (U : List Int), vs = [.ref l] ∧ SqL K H l us ∧ DpAll K H us (ss.map stD) ∧ ss.length ≤ 1000 ∧ (∀ s ∈ ss, s.one ∈ U ∧ s.other ∈ U) ∧ U.length < 64 ∧
  ∀ (H' : Hp) (p : Addr) (q : List (Int × Int)), Ex H H' → H p = none → H' p = some (.dK (leK q)) → (q.map (·.1)).Nodup → (∀ v, v ∈ q.map (·.1) ↔ Nmd ss v) → (∀ x ∈ q, Sm2 (edg ss) x.1 x.2 ∧ ∀ u, Sm2 (edg ss) x.1 u → x.2 ≤ u) → Q (.ref p) H'
abbrev nmTg : List Str := ["steps", "ahead", "back", "step", "least", "start", "group", "first", "place"]
theorem scTg : FnScope nmTg ["steps"] (defScope sTogether) := ⟨rfl, rfl, rfl, by decide +kernel, rfl, by decide +kernel, by decide +kernel⟩
theorem ok_tog {f : Addr} {fd : FuncData} (F : L2.Fun K "together_of" "together_of" sTogether f fd) (B : Bn mg) (hmin : mg "min" = none) (hrev : mg "reversed" = none) (cL : C8.Cal P w K mg base 1 "left_last" (spLeft K) []) (cB : C8.Cal P w K mg base 1 "come_back" (spBack K) []) : FnOk P w K mg base CX0 2 f fd ["steps"] (spTog K) := by
  refine F.ok scTg (fun vs H Q E h => ?_) (fun cdv Ar outer s H vs Q E hr h => ?_)
  · obtain ⟨l, us, ss, U, rfl, _⟩ := h
    rfl
  · obtain ⟨l, us, ss, U, rfl, hl, hD, hsz, hSU, hU, kQ⟩ := h
    have hu := hr.un
    have hu1 : (Ar.deeper (envOfC "together_of" (defScope sTogether) s.heap.objs.size f cdv)).units + 1 < cLine := by omega
    refine ⟨_, pss_cons (ps_set (i := 1) scTg.nd rfl (Or.inl rfl) pe_dnewK)
      (pss_cons (ps_set (i := 2) scTg.nd rfl (Or.inl rfl) pe_dnewK)
      (Evl.pss_cut (ps_for PassesOwn.never rfl (pi_list (pv 0)) (pg_name (i := 3) scTg.nd rfl (Or.inl rfl))
          (Evl.pss_cut (ps_expr (pe_bm PySem.F.plainAttrs_list PySem.F.slot_list_append PySem.F.type_list_append mt_append (pe_dsetd (pv 1) (pe_ix (r := rIxT K) ix_tup (pv 3) pe_int (fun _ _ => rfl)) (pe_lst pa_nil) ⟨by rfl, by rfl, by rfl, by rfl⟩) (pa_cons (pe_ix (r := rIxT K) ix_tup (pv 3) pe_int (fun _ _ => rfl)) pa_nil)))
          (pss_one (ps_expr (pe_bm PySem.F.plainAttrs_list PySem.F.slot_list_append PySem.F.type_list_append mt_append (pe_dsetd (pv 2) (pe_ix (r := rIxT K) ix_tup (pv 3) pe_int (fun _ _ => rfl)) (pe_lst pa_nil) ⟨by rfl, by rfl, by rfl, by rfl⟩) (pa_cons (pe_ix (r := rIxT K) ix_tup (pv 3) pe_int (fun _ _ => rfl)) pa_nil))))))
      (pss_cons (ps_set (i := 4) scTg.nd rfl (Or.inl rfl) pe_dnewK)
      (Evl.pss_cut (ps_for PassesOwn.never rfl (pi_reversed (by rfl) hrev (pa_cons (C8.pe_c cL hr (by decide) (by rfl) (pa_cons (pv 1) (pa_cons (pe_callTy (r := rListD) (call_list_dK (by rfl)) (by rfl) B.list boot_list (pa_cons (pv 1) pa_nil)) pa_nil))) pa_nil)) (pg_name (i := 5) scTg.nd rfl (Or.inl rfl))
          (pss_one (ps_if (pt_cmp (pc_dnotin hu1 (pv 5) (pv 4)))
            (pss_cons (ps_set (i := 6) scTg.nd rfl (Or.inl rfl) (C8.pe_c cB hr (by decide) (by rfl) (pa_cons (pv 2) (pa_cons (pv 5) (pa_cons (pv 4) pa_nil)))))
            (pss_cons (ps_set (i := 7) scTg.nd rfl (Or.inl rfl) (pe_callB (r := rMin K) (cr_min (by rfl)) (by rfl) hmin boot_min (pa_cons (pv 6) pa_nil)))
            (pss_one (ps_for PassesOwn.never rfl (pi_list (pv 6)) (pg_name (i := 8) scTg.nd rfl (Or.inl rfl)) (pss_one (ps_dput hu1 (pv 4) (pv 8) (pv 7) (by rfl))))))) pss_nil)))
      (pss_one (ps_ret (pv 4))))))), ?_⟩
    intro A hA
    have y1 := Ex.new (o := .dK []) hA
    have j1 : upd H A (.dK []) A = some (.dK []) := upd_same
    generalize upd H A (.dK []) = G1 at y1 j1 ⊢
    intro Bk hB1
    have y2 := Ex.new (o := .dK []) hB1
    have j2 : upd G1 Bk (.dK []) Bk = some (.dK []) := upd_same
    have BA : Bk ≠ A := (ne_of_none j1 hB1).symm
    have hB := fresh_back y1 hB1
    generalize upd G1 Bk (.dK []) = G2 at y2 j2 ⊢
    have e2 := y1.trans y2
    have hul := sts_len hD
    -- ahead, back
    refine ⟨fun σ G => ∃ (x3 : Option V) (rA rB : List (Row Int)), σ = [some (.ref l), some (.ref A), some (.ref Bk), x3, none, none, none, none, none] ∧ Ex H G ∧ TwoOk H G A Bk rA rB ∧ Tells rA (edg ss) ∧ Tells rB (bdg ss) ∧ (∀ r ∈ rA, r.2.2.length ≤ 1000 ∧ r.2.2 ≠ []), ?_, ?_⟩
    · refine ⟨_, rfl, l, rfl, ⟨_, ex_l e2 hl⟩, ?_⟩
      have adn : ∀ {Z : Addr}, G2 Z = some (.dK []) → Adj V.int H G2 Z [] := fun h => ⟨h, by simp, by simp, (fun r h => absurd h (by simp)), fun r h => absurd h (by simp)⟩
      refine for_list (K := K) (a := l) (xs := us) (fun i σ G => ∃ (x3 : Option V) (rA rB : List (Row Int)), σ = [some (.ref l), some (.ref A), some (.ref Bk), x3, none, none, none, none, none] ∧ Ex H G ∧ TwoOk H G A Bk rA rB ∧ Tells rA (edg (ss.take i)) ∧ Tells rB (bdg (ss.take i)) ∧ rA.length ≤ i ∧ rB.length ≤ i ∧ (∀ r ∈ rA, r.2.2.length ≤ i ∧ r.2.2 ≠ []) ∧ (∀ r ∈ rB, r.2.2.length ≤ i ∧ r.2.2 ≠ [])) ?_ (fun i σ G _ ⟨_, _, _, _, e, _⟩ => ex_l e hl) ?_ ?_
      · exact ⟨none, [], [], rfl, e2, ⟨adn (y2 _ _ j1), adn j2, (fun r h => absurd h (by simp)), (fun r h => absurd h (by simp)), fun r h => absurd h (by simp)⟩, Tells.nil, Tells.nil, Nat.le_refl _, Nat.le_refl _, (fun r h => absurd h (by simp)), fun r h => absurd h (by simp)⟩
      · rintro i v σ G hv ⟨x3, rA, rB, rfl, e, tw, tA, tB, lA, lB, bA, bB⟩
        have il := (List.getElem?_eq_some_iff.mp hv).1
        obtain ⟨s, t, hs, rfl, ht⟩ := sts_get hD hv
        obtain ⟨_, u, ez, p1, _⟩ := stD_inv ht
        cases ez
        have tkA : edg (ss.take (i + 1)) = edg (ss.take i) ++ [(s.one, s.other)] := by
          unfold edg
          rw [List.take_add_one, hs, List.map_append]
          rfl
        have tkB : bdg (ss.take (i + 1)) = bdg (ss.take i) ++ [(s.other, s.one)] := by
          unfold bdg
          rw [List.take_add_one, hs, List.map_append]
          rfl
        refine ⟨fun σ G' => ∃ rA', σ = [some (.ref l), some (.ref A), some (.ref Bk), some (.ref t), none, none, none, none, none] ∧ Ex H G' ∧ TwoOk H G' A Bk rA' rB ∧ Tells rA' (edg (ss.take (i + 1))) ∧ rA'.length ≤ i + 1 ∧ ∀ r ∈ rA', r.2.2.length ≤ i + 1 ∧ r.2.2 ≠ [], ?_, ?_⟩
        · refine ⟨_, rfl, A, rfl, .inl ⟨_, .inl tw.1.dk⟩, _, rfl, t, _, 0, .int s.one, rfl, rfl, ex_t e p1, rfl, Nat.zero_le _, fun p hp => ?_⟩
          have y3 := Ex.new (o := .lst []) hp
          have j3 : upd G p (.lst []) p = some (.lst []) := upd_same
          generalize upd G p (.lst []) = G3 at y3 j3 ⊢
          have ad3 := tw.1.go y3
          have e3 := e.trans y3
          have kl : (rowK rA).length < sizeLine := by
            unfold rowK
            rw [List.length_map]
            exact sz_m (by omega)
          rw [tkA]
          refine ⟨rowK rA, Sum.inl s.one, ad3.dk, rfl, kl, fun v hv => ?_, fun hn => ?_⟩
          · obtain ⟨j, r, h1, h2, rfl⟩ := rowK_some hv
            have hat := ad3.at' r (mem_of_get h1)
            have hb := bA r (mem_of_get h1)
            refine ⟨.inl ⟨rfl, _, SqL.of hat⟩, _, rfl, t, _, 1, .int s.other, rfl, rfl, ex_t e3 p1, rfl, r.2.1, _, _, rfl, rfl, hat, by rw [List.length_map]; exact sz_m (by omega), ?_⟩
            have hE : r.2.2.map V.int ++ [V.int s.other] = (r.2.2 ++ [s.other]).map V.int := by
              rw [List.map_append]
              rfl
            rw [hE]
            have po := put_old e3 y3 ad3 tA lA bA h1 s.other
            rw [h2] at po
            obtain ⟨rA', q⟩ := tw.put BA po
            exact ⟨rA', rfl, q⟩
          · have hd : upd G3 A (.dK (putK (rowK rA) (Sum.inl s.one) (V.ref p))) p = some (.lst []) := by
              rw [upd_ne (ne_of_none tw.1.dk hp).symm]
              exact j3
            refine ⟨.inl ⟨rfl, _, SqL.of hd⟩, _, rfl, t, _, 1, .int s.other, rfl, rfl, ex_t (e3.mut hA) p1, rfl, p, _, _, rfl, rfl, hd, by show 0 < sizeLine; decide, ?_⟩
            obtain ⟨rA', q⟩ := tw.put BA (put_new e3 y3 hA hp e ad3 tw.1 tA lA bA (rowK_none.mp hn) s.other)
            exact ⟨rA', rfl, q⟩
        rintro σ G4 ⟨rA', rfl, e4, tw4, tA4, lA4, bA4⟩
        refine ⟨_, rfl, Bk, rfl, .inl ⟨_, .inl tw4.2.1.dk⟩, _, rfl, t, _, 1, .int s.other, rfl, rfl, ex_t e4 p1, rfl, Nat.zero_le _, fun p hp => ?_⟩
        have y3 := Ex.new (o := .lst []) hp
        have j3 : upd G4 p (.lst []) p = some (.lst []) := upd_same
        generalize upd G4 p (.lst []) = G3 at y3 j3 ⊢
        have ad3 := tw4.2.1.go y3
        have e3 := e4.trans y3
        have kl : (rowK rB).length < sizeLine := by
          unfold rowK
          rw [List.length_map]
          exact sz_m (by omega)
        have fin : ∀ {G' : Hp}, PutOk H G4 G' Bk rB (bdg (ss.take i) ++ [(s.other, s.one)]) (i + 1) → ∃ (x3 : Option V) (rA rB : List (Row Int)), [some (V.ref l), some (.ref A), some (.ref Bk), some (.ref t), none, none, none, none, none] = [some (.ref l), some (.ref A), some (.ref Bk), x3, none, none, none, none, none] ∧ Ex H G' ∧ TwoOk H G' A Bk rA rB ∧ Tells rA (edg (ss.take (i + 1))) ∧ Tells rB (bdg (ss.take (i + 1))) ∧ rA.length ≤ i + 1 ∧ rB.length ≤ i + 1 ∧ (∀ r ∈ rA, r.2.2.length ≤ i + 1 ∧ r.2.2 ≠ []) ∧ (∀ r ∈ rB, r.2.2.length ≤ i + 1 ∧ r.2.2 ≠ []) := fun po => by
          obtain ⟨rB', q1, q2, q3, q4, q5⟩ := tw4.symm.put BA.symm po
          exact ⟨_, rA', rB', rfl, q1, q2.symm, tA4, by rw [tkB]; exact q3, lA4, q4, bA4, q5⟩
        refine ⟨rowK rB, Sum.inl s.other, ad3.dk, rfl, kl, fun v hv => ?_, fun hn => ?_⟩
        · obtain ⟨j, r, h1, h2, rfl⟩ := rowK_some hv
          have hat := ad3.at' r (mem_of_get h1)
          have hb := bB r (mem_of_get h1)
          refine ⟨.inl ⟨rfl, _, SqL.of hat⟩, _, rfl, t, _, 0, .int s.one, rfl, rfl, ex_t e3 p1, rfl, r.2.1, _, _, rfl, rfl, hat, by rw [List.length_map]; exact sz_m (by omega), ?_⟩
          have hE : r.2.2.map V.int ++ [V.int s.one] = (r.2.2 ++ [s.one]).map V.int := by
            rw [List.map_append]
            rfl
          rw [hE]
          have po := put_old e3 y3 ad3 tB lB bB h1 s.one
          rw [h2] at po
          exact fin po
        · have hd : upd G3 Bk (.dK (putK (rowK rB) (Sum.inl s.other) (V.ref p))) p = some (.lst []) := by
            rw [upd_ne (ne_of_none tw4.2.1.dk hp).symm]
            exact j3
          refine ⟨.inl ⟨rfl, _, SqL.of hd⟩, _, rfl, t, _, 0, .int s.one, rfl, rfl, ex_t (e3.mut hB) p1, rfl, p, _, _, rfl, rfl, hd, by show 0 < sizeLine; decide, ?_⟩
          exact fin (put_new e3 y3 hB hp e4 ad3 tw4.2.1 tB lB bB (rowK_none.mp hn) s.one)
      · rintro σ G ⟨x3, rA, rB, rfl, e, tw, tA, tB, lA, lB, bA, bB⟩
        rw [hul, List.take_length] at tA tB
        exact ⟨x3, rA, rB, rfl, e, tw, tA, tB, fun r hr => ⟨by have := (bA r hr).1; omega, (bA r hr).2⟩⟩
    rintro σ G5 ⟨x3, rA, rB, rfl, e5, tw, tA, tB, bA⟩
    -- the order of leaving
    intro Le hLe5
    have y6 := Ex.new (o := .dK []) hLe5
    have j6 : upd G5 Le (.dK []) Le = some (.dK []) := upd_same
    generalize upd G5 Le (.dK []) = G6 at y6 j6 ⊢
    have hLeH := fresh_back e5 hLe5
    obtain ⟨adA, adB, _, _, _⟩ := id tw
    have keyS : ∀ v, v ∈ rA.map (·.1) ↔ ∃ b, (v, b) ∈ edg ss := fun v => by
      rw [List.mem_map]
      constructor
      · rintro ⟨r, h1, h2⟩
        obtain ⟨b, hb⟩ := List.exists_mem_of_ne_nil _ (bA r h1).2
        exact ⟨b, (tA v b).mpr ⟨r, h1, h2, hb⟩⟩
      · rintro ⟨b, hb⟩
        obtain ⟨r, h1, h2, _⟩ := (tA v b).mp hb
        exact ⟨r, h1, h2⟩
    have oneU : ∀ a b, (a, b) ∈ edg ss → a ∈ U ∧ b ∈ U := fun a b h => by
      obtain ⟨s, h1, h2, h3⟩ := edg_mem.mp h
      rw [← h2, ← h3]
      exact hSU s h1
    have nmd : ∀ v, Rch (edg ss) (rA.map (·.1)) v ↔ Nmd ss v := fun v => by
      constructor
      · intro h
        cases h with
        | base h =>
          obtain ⟨b, hb⟩ := (keyS v).mp h
          obtain ⟨s, h1, h2, _⟩ := edg_mem.mp hb
          exact ⟨s, h1, .inl h2⟩
        | step _ e =>
          obtain ⟨s, h1, _, h3⟩ := edg_mem.mp e
          exact ⟨s, h1, .inr h3⟩
      · rintro ⟨s, h1, h2 | h2⟩
        · exact .base ((keyS v).mpr ⟨s.other, edg_mem.mpr ⟨s, h1, h2, rfl⟩⟩)
        · exact .step (.base ((keyS s.one).mpr ⟨v, edg_mem.mpr ⟨s, h1, rfl, h2⟩⟩)) (edg_mem.mpr ⟨s, h1, rfl, h2⟩)
    refine ⟨fun σ G => ∃ (x5 x6 x7 x8 : Option V) (q : List (Int × Int)), σ = [some (.ref l), some (.ref A), some (.ref Bk), x3, some (.ref Le), x5, x6, x7, x8] ∧ Ex G5 G ∧ G Le = some (.dK (leK q)) ∧ (q.map (·.1)).Nodup ∧ (∀ v, v ∈ q.map (·.1) ↔ Nmd ss v) ∧ ∀ x ∈ q, Sm2 (edg ss) x.1 x.2 ∧ ∀ u, Sm2 (edg ss) x.1 u → x.2 ≤ u, ?_, ?_⟩
    · refine ⟨_, rfl, _, rfl, A, rowK rA, rfl, y6 _ _ adA.dk, fun q0 hq0 => ?_⟩
      have y7 := Ex.new (o := .lst ((rowK rA).map fun kv => kV kv.1)) hq0
      have j7 : upd G6 q0 (.lst ((rowK rA).map fun kv => kV kv.1)) q0 = some (.lst ((rowK rA).map fun kv => kV kv.1)) := upd_same
      generalize upd G6 q0 (.lst ((rowK rA).map fun kv => kV kv.1)) = G7 at y7 j7 ⊢
      have hk : ((rowK rA).map fun kv => kV kv.1) = (rA.map (·.1)).map V.int := by
        unfold rowK
        rw [List.map_map, List.map_map]
        rfl
      rw [hk] at j7
      have e57 := y6.trans y7
      refine ⟨A, q0, rA, edg ss, rA.map (·.1), U, rfl, e57 _ _ adA.dk, adA.kn, (fun r hr => e57 _ _ (adA.at' r hr)), (fun r hr => by have := (bA r hr).1; omega), tA, SqL.of j7, (fun v hv => ?_), (fun a b h => (oneU a b h).2), hU, fun G8 pf fd e8 pf0 hpf O hfd => ?_⟩
      · obtain ⟨b, hb⟩ := (keyS v).mp hv
        exact (oneU v b hb).1
      have e58 := e57.trans e8
      have hLe8 := (y7.trans e8) _ _ j6
      have nLf : pf ≠ Le := (ne_of_none (y7 _ _ j6) pf0).symm
      have allF : ∀ a b, (a, b) ∈ edg ss → a ∈ fd := fun a b h => (hfd a).mpr (.base ((keyS a).mpr ⟨b, h⟩))
      refine ⟨pf, _, rfl, SqL.of hpf, ?_⟩
      have fl : (fd.map V.int).length = fd.length := List.length_map ..
      refine for_revL (K := K) (a := pf) (xs := fd.map V.int) (fun j σ G => ∃ (x5 x6 x7 x8 : Option V) (q : List (Int × Int)), σ = [some (.ref l), some (.ref A), some (.ref Bk), x3, some (.ref Le), x5, x6, x7, x8] ∧ Ex G5 G ∧ G pf = some (.lst (fd.map V.int)) ∧ G Le = some (.dK (leK q)) ∧ Lots (edg ss) fd j q) ?_ (fun j σ G _ ⟨_, _, _, _, _, _, _, e, _⟩ => SqL.of e) ?_ ?_
      · exact ⟨none, none, none, none, [], rfl, e58, hpf, hLe8, Lots.nil⟩
      · rintro j x σ G hj hx ⟨x5, x6, x7, x8, q, rfl, e, hF, hL, L⟩
        rw [fl] at hj hx
        obtain ⟨r, hr, rfl⟩ := get_ints hx
        have hrU : r ∈ U := by
          have := (hfd r).mp (mem_of_get hr)
          exact this.in (fun v hv => by obtain ⟨b, hb⟩ := (keyS v).mp hv; exact (oneU v b hb).1) fun a b h => (oneU a b h).2
        refine ⟨_, rfl, _, rfl, Le, _, rfl, DGet.k (k := Sum.inl r) hL, ?_⟩
        cases hv : valV (leK q) (Sum.inl r) with
        | some v =>
          obtain ⟨m, h1, _⟩ := leK_some hv
          exact ⟨_, rfl, iteF ⟨_, x6, x7, x8, q, rfl, e, hF, hL, L.skip hj hr (List.mem_map.mpr ⟨_, h1, rfl⟩)⟩⟩
        | none =>
          have hn := leK_none.mp hv
          refine ⟨_, rfl, iteT ?_⟩
          refine ⟨_, rfl, _, rfl, _, rfl, Bk, Le, r, leK q, rB, bdg ss, edg ss, U, rfl, hL, e _ _ adB.dk, adB.kn, (fun r hr => e _ _ (adB.at' r hr)), tB, (fun a b => bdg_edg), hrU, (fun a b h => (oneU a b h).1), hU, fun G9 pg g e9 pg0 hpg gnd hgm => ?_⟩
          have hg : ∀ v, v ∈ g ↔ Sm2 (edg ss) r v := fun v => (hgm v).trans (L.group O allF hj hr hn v)
          have gr : r ∈ g := (hg r).mpr (Sm2.refl r)
          refine ⟨_, rfl, pg, g, rfl, SqL.of hpg, List.length_pos_of_mem gr, fun m hm hl => ?_⟩
          have gF : ∀ v ∈ g, v ∈ fd := fun v hv => by
            have rf := (hfd r).mp (mem_of_get hr)
            have : ∀ u, To (edg ss) r u → Rch (edg ss) (rA.map (·.1)) u := fun u hu => by
              induction hu with
              | base h =>
                rw [List.mem_singleton.mp h]
                exact rf
              | step _ e ih => exact .step ih e
            exact (hfd v).mpr (this v ((hg v).mp hv).1)
          have gL : g.length ≤ 1000 := by
            have := nd_len g U gnd fun v hv => ((hfd v).mp (gF v hv)).in (fun v hv => by obtain ⟨b, hb⟩ := (keyS v).mp hv; exact (oneU v b hb).1) fun a b h => (oneU a b h).2
            omega
          have off : ∀ v ∈ g, v ∉ q.map (·.1) := fun v hv z => hn (L.cl v z r ((hg v).mp hv).symm)
          have qL : q.length ≤ 1000 := by
            have := nd_len (q.map (·.1)) U L.nd fun v hv => ((hfd v).mp (L.inF v hv)).in (fun v hv => by obtain ⟨b, hb⟩ := (keyS v).mp hv; exact (oneU v b hb).1) fun a b h => (oneU a b h).2
            rw [List.length_map] at this
            omega
          have nLg : pg ≠ Le := (ne_of_none hL pg0).symm
          refine ⟨_, rfl, pg, rfl, ⟨_, SqL.of hpg⟩, ?_⟩
          refine for_list (K := K) (a := pg) (xs := g.map V.int) (fun jj σ G => ∃ (x8 : Option V), σ = [some (.ref l), some (.ref A), some (.ref Bk), x3, some (.ref Le), some (.int r), some (.ref pg), some (.int m), x8] ∧ Ex G5 G ∧ G pf = some (.lst (fd.map V.int)) ∧ G pg = some (.lst (g.map V.int)) ∧ G Le = some (.dK (leK (q ++ (g.take jj).map fun v => (v, m))))) ?_ (fun jj σ G _ ⟨_, _, _, _, h, _⟩ => SqL.of h) ?_ ?_
          · exact ⟨_, rfl, e.trans e9, e9 _ _ hF, hpg, by rw [List.take_zero, List.map_nil, List.append_nil]; exact e9 _ _ hL⟩
          · rintro jj v σ G' hv ⟨y8, rfl, e', hF', hg', hL'⟩
            obtain ⟨c, hc, rfl⟩ := get_ints hv
            have jl := (List.getElem?_eq_some_iff.mp hc).1
            have tk : g.take (jj + 1) = g.take jj ++ [c] := by rw [List.take_add_one, hc]; rfl
            have hnew : c ∉ (q ++ (g.take jj).map fun v => (v, m)).map (·.1) := fun z => by
              rw [List.map_append, List.map_map] at z
              rcases List.mem_append.mp z with z | z
              · exact off c (mem_of_get hc) z
              · have z' : c ∈ g.take jj := by
                  obtain ⟨w0, h1, h2⟩ := List.mem_map.mp z
                  have : w0 = c := h2
                  rw [← this]
                  exact h1
                obtain ⟨k2, hk2⟩ := List.getElem?_of_mem z'
                have k2l := (List.getElem?_eq_some_iff.mp hk2).1
                rw [List.length_take] at k2l
                rw [List.getElem?_take_of_lt (by omega)] at hk2
                have := get_uniq gnd hk2 hc
                omega
            have kz : (leK (q ++ (g.take jj).map fun v => (v, m))).length < sizeLine := by
              unfold leK
              rw [List.length_map, List.length_append, List.length_map, List.length_take]
              exact sz_m (by omega)
            refine ⟨_, rfl, _, rfl, _, rfl, Le, _, rfl, DPut.k (k := Sum.inl c) hL' kz, ?_⟩
            have hk : putK (leK (q ++ (g.take jj).map fun v => (v, m))) (Sum.inl c) (V.int m) = leK (q ++ (g.take (jj + 1)).map fun v => (v, m)) := by
              rw [tk, List.map_append, ← List.append_assoc]
              exact leK_new hnew
            rw [hk]
            exact ⟨_, rfl, e'.mut hLe5, by rw [upd_ne nLf]; exact hF', by rw [upd_ne nLg]; exact hg', upd_same⟩
          · rintro σ G' ⟨y8, rfl, e', hF', hg', hL'⟩
            rw [List.length_map, List.take_length] at hL'
            exact ⟨_, _, _, y8, _, rfl, e', hF', hL', L.take hj hr hn gnd hg gF hm hl⟩
      · rintro σ G ⟨x5, x6, x7, x8, q, rfl, e, hF, hL, L⟩
        rw [fl] at L
        exact ⟨x5, x6, x7, x8, q, rfl, e, hL, L.nd, fun v => (L.done v).trans ((hfd v).trans (nmd v)), L.least⟩
    rintro σ G10 ⟨x5, x6, x7, x8, q, rfl, e10, hL, qnd, hq, hle⟩
    exact ⟨_, rfl, kQ G10 Le q (e5.trans e10) hLeH hL qnd hq hle⟩
end
end AA

set_option Elab.async false
set_option linter.all false
set_option maxRecDepth 100000
set_option maxHeartbeats 4000000
/-! The lots, told once and for all. -/
namespace AA
open PySem PySem.Spec PyProof.Rows L2 Evl
theorem To.head {es : List (Int × Int)} {a b : Int} (h : To es a b) : a ≠ b → ∃ u, (a, u) ∈ es ∧ To es u b := by
  induction h with
  | base hb =>
    intro n
    exact absurd (List.mem_singleton.mp hb).symm n
  | @step c d hac e ih =>
    intro _
    by_cases q : a = c
    · rw [q]
      exact ⟨d, e, To.refl d⟩
    · obtain ⟨u, h1, h2⟩ := ih q
      exact ⟨u, h1, .step h2 e⟩
theorem To.nmd {ss : List St5} {a b : Int} (h : To (edg ss) a b) (n : a ≠ b) : Nmd ss a := by
  obtain ⟨u, h1, _⟩ := h.head n
  obtain ⟨s, h2, h3, _⟩ := edg_mem.mp h1
  exact ⟨s, h2, .inl h3⟩
theorem asc_uniq : ∀ {l r : List Int}, l.Pairwise (· < ·) → r.Pairwise (· < ·) → (∀ x, x ∈ l ↔ x ∈ r) → l = r
  | [], [], _, _, _ => rfl
  | [], y :: r, _, _, h => absurd ((h y).mpr List.mem_cons_self) (by simp)
  | x :: l, [], _, _, h => absurd ((h x).mp List.mem_cons_self) (by simp)
  | x :: l, y :: r, hl, hr, h => by
    have hl' := List.pairwise_cons.mp hl
    have hr' := List.pairwise_cons.mp hr
    have e : x = y := by
      rcases List.mem_cons.mp ((h x).mp List.mem_cons_self) with e | e
      · exact e
      · rcases List.mem_cons.mp ((h y).mpr List.mem_cons_self) with e2 | e2
        · exact e2.symm
        · have := hr'.1 x e
          have := hl'.1 y e2
          omega
    subst e
    rw [asc_uniq hl'.2 hr'.2 fun z => ?_]
    constructor
    · intro hz
      rcases List.mem_cons.mp ((h z).mp (List.mem_cons_of_mem _ hz)) with e | e
      · have := hl'.1 z hz
        omega
      · exact e
    · intro hz
      rcases List.mem_cons.mp ((h z).mpr (List.mem_cons_of_mem _ hz)) with e | e
      · have := hr'.1 z hz
        omega
      · exact e
theorem asc_of {l : List Int} (n : l.Nodup) (p : l.Pairwise (· ≤ ·)) : l.Pairwise (· < ·) := by
  have := List.pairwise_and_iff.mpr ⟨List.nodup_iff_pairwise_ne.mp n, p⟩
  exact this.imp fun {a b} h => by
    have := h.1
    have := h.2
    omega
theorem ord_uniq {l r : List Int} (n : l.Nodup) (p : l.Pairwise (· ≤ ·)) (n2 : r.Nodup) (p2 : r.Pairwise (· ≤ ·)) (h : ∀ x, x ∈ l ↔ x ∈ r) : l = r := asc_uniq (asc_of n p) (asc_of n2 p2) h
/-- a lot of p, ascending -/
structure LotL (es : List (Int × Int)) (p : Int) (zs : List Int) : Prop where
  nd : zs.Nodup
  so : zs.Pairwise (· ≤ ·)
  m : ∀ q, q ∈ zs ↔ Sm2 es p q
/-- the least place of a lot with a step in it -/
def Fst (ss : List St5) (p : Int) : Prop := (∀ q, Sm2 (edg ss) p q → p ≤ q) ∧ ∃ s ∈ ss, Sm2 (edg ss) p s.one ∧ Sm2 (edg ss) p s.other
structure LotsR (ss : List St5) (ps : List Int) (L : List (List Int)) : Prop where
  asc : ps.Pairwise (· < ·)
  m : ∀ p, p ∈ ps ↔ Fst ss p
  len : L.length = ps.length
  at' : ∀ (i : Nat) (p : Int) (zs : List Int), ps[i]? = some p → L[i]? = some zs → LotL (edg ss) p zs
theorem LotsR.uniq {ss : List St5} {ps ps' : List Int} {L L' : List (List Int)} (h : LotsR ss ps L) (k : LotsR ss ps' L') : L = L' := by
  obtain rfl : ps = ps' := asc_uniq h.asc k.asc fun x => (h.m x).trans (k.m x).symm
  refine List.ext_getElem? fun i => ?_
  by_cases lt : i < ps.length
  · have h1 : L[i]? = some (L[i]'(by rw [h.len]; exact lt)) := List.getElem?_eq_getElem _
    have h2 : L'[i]? = some (L'[i]'(by rw [k.len]; exact lt)) := List.getElem?_eq_getElem _
    have h3 : ps[i]? = some ps[i] := List.getElem?_eq_getElem lt
    have a := h.at' i _ _ h3 h1
    have b := k.at' i _ _ h3 h2
    rw [h1, h2, ord_uniq a.nd a.so b.nd b.so fun x => (a.m x).trans (b.m x).symm]
  · rw [List.getElem?_eq_none (by rw [h.len]; omega), List.getElem?_eq_none (by rw [k.len]; omega)]
/-- the lots do not mind the order of the steps -/
theorem rch_sub {es es' : List (Int × Int)} {S : List Int} {v : Int} (h : ∀ e ∈ es, e ∈ es') (r : Rch es S v) : Rch es' S v := by
  induction r with
  | base h => exact .base h
  | step _ e ih => exact .step ih (h _ e)
theorem edg_sub {ss ss' : List St5} (h : ∀ s ∈ ss, s ∈ ss') : ∀ e ∈ edg ss, e ∈ edg ss' := fun e he => by
  obtain ⟨s, h1, h2⟩ := List.mem_map.mp he
  exact List.mem_map.mpr ⟨s, h s h1, h2⟩
theorem rch_same {ss ss' : List St5} {S : List Int} {v : Int} (h : ∀ s, s ∈ ss ↔ s ∈ ss') : Rch (edg ss) S v ↔ Rch (edg ss') S v := ⟨rch_sub (edg_sub fun s => (h s).mp), rch_sub (edg_sub fun s => (h s).mpr)⟩
theorem sm2_same {ss ss' : List St5} {a b : Int} (h : ∀ s, s ∈ ss ↔ s ∈ ss') : Sm2 (edg ss) a b ↔ Sm2 (edg ss') a b := and_congr (rch_same h) (rch_same h)
theorem LotsR.same {ss ss' : List St5} {ps : List Int} {L : List (List Int)} (h : ∀ s, s ∈ ss ↔ s ∈ ss') (k : LotsR ss ps L) : LotsR ss' ps L :=
  ⟨k.asc, fun p => (k.m p).trans (and_congr ⟨fun z q hq => z q ((sm2_same h).mpr hq), fun z q hq => z q ((sm2_same h).mp hq)⟩ ⟨fun ⟨s, h1, h2, h3⟩ => ⟨s, (h s).mp h1, (sm2_same h).mp h2, (sm2_same h).mp h3⟩, fun ⟨s, h1, h2, h3⟩ => ⟨s, (h s).mpr h1, (sm2_same h).mpr h2, (sm2_same h).mpr h3⟩⟩),
    k.len, fun i p zs h1 h2 => ⟨(k.at' i p zs h1 h2).nd, (k.at' i p zs h1 h2).so, fun q => ((k.at' i p zs h1 h2).m q).trans (sm2_same h)⟩⟩
/-! ### from the dict of the least places -/
/-- the least one of v's lot, by the list -/
def lo (q : List (Int × Int)) (v : Int) : Int := match q.find? (fun x => x.1 == v) with
  | some x => x.2
  | none => v
theorem lo_mem {q : List (Int × Int)} {v : Int} (h : v ∈ q.map (·.1)) : (v, lo q v) ∈ q := by
  unfold lo
  cases e : q.find? (fun x => x.1 == v) with
  | none =>
    obtain ⟨x, h1, h2⟩ := List.mem_map.mp h
    have := List.find?_eq_none.mp e x h1
    simp [h2] at this
  | some x =>
    have h1 := List.mem_of_find?_eq_some e
    have h2 : x.1 = v := by simpa using List.find?_some e
    show (v, x.2) ∈ q
    rw [← h2]
    exact h1
theorem lo_val {q : List (Int × Int)} {v : Int} (h : v ∈ q.map (·.1)) : valV (leK q) (Sum.inl v) = some (V.int (lo q v)) := by
  induction q with
  | nil => exact absurd h (by simp)
  | cons x r ih =>
    by_cases e : x.1 = v
    · have h1 : valV (leK (x :: r)) (Sum.inl v) = some (V.int x.2) := valV_pos (p := (Sum.inl x.1, V.int x.2)) (by rw [e])
      rw [h1]
      unfold lo
      rw [List.find?_cons_of_pos (by simp [e])]
    · have h1 : valV (leK (x :: r)) (Sum.inl v) = valV (leK r) (Sum.inl v) := valV_neg (p := (Sum.inl x.1, V.int x.2)) fun z => e (Sum.inl.inj z)
      have h2 : lo (x :: r) v = lo r v := by
        unfold lo
        rw [List.find?_cons_of_neg (by simp [e])]
      rw [h1, h2]
      refine ih ?_
      rw [List.map_cons, List.mem_cons] at h
      exact h.resolve_left fun z => e z.symm
/-- what together_of's dict tells -/
structure LeOk (ss : List St5) (q : List (Int × Int)) : Prop where
  nm : ∀ v, v ∈ q.map (·.1) ↔ Nmd ss v
  le : ∀ x ∈ q, Sm2 (edg ss) x.1 x.2 ∧ ∀ u, Sm2 (edg ss) x.1 u → x.2 ≤ u
theorem LeOk.one {ss : List St5} {q : List (Int × Int)} (L : LeOk ss q) {s : St5} (h : s ∈ ss) : s.one ∈ q.map (·.1) := (L.nm _).mpr ⟨s, h, .inl rfl⟩
theorem LeOk.other {ss : List St5} {q : List (Int × Int)} (L : LeOk ss q) {s : St5} (h : s ∈ ss) : s.other ∈ q.map (·.1) := (L.nm _).mpr ⟨s, h, .inr rfl⟩
theorem LeOk.sm {ss : List St5} {q : List (Int × Int)} (L : LeOk ss q) {v : Int} (h : v ∈ q.map (·.1)) : Sm2 (edg ss) v (lo q v) := (L.le _ (lo_mem h)).1
theorem LeOk.lst {ss : List St5} {q : List (Int × Int)} (L : LeOk ss q) {v u : Int} (h : v ∈ q.map (·.1)) (k : Sm2 (edg ss) v u) : lo q v ≤ u := (L.le _ (lo_mem h)).2 u k
theorem LeOk.eq {ss : List St5} {q : List (Int × Int)} (L : LeOk ss q) {v u : Int} (h : v ∈ q.map (·.1)) (k : u ∈ q.map (·.1)) : lo q v = lo q u ↔ Sm2 (edg ss) v u := by
  constructor
  · intro e
    have h1 := L.sm h
    have h2 := L.sm k
    rw [← e] at h2
    exact h1.trans h2.symm
  · intro e
    have h1 := L.lst h (e.trans (L.sm k))
    have h2 := L.lst k (e.symm.trans (L.sm h))
    omega
/-- the steps within lots, with the least place of theirs -/
def inn (q : List (Int × Int)) (ss : List St5) : List (Int × St5) := (ss.filter fun s => decide (lo q s.one = lo q s.other)).map fun s => (lo q s.one, s)
theorem inn_mem {q : List (Int × Int)} {ss : List St5} {a : Int} {s : St5} : (a, s) ∈ inn q ss ↔ s ∈ ss ∧ lo q s.one = lo q s.other ∧ lo q s.one = a := by
  unfold inn
  rw [List.mem_map]
  constructor
  · rintro ⟨t, h1, h2⟩
    cases h2
    rw [List.mem_filter, decide_eq_true_eq] at h1
    exact ⟨h1.1, h1.2, rfl⟩
  · rintro ⟨h1, h2, h3⟩
    exact ⟨s, List.mem_filter.mpr ⟨h1, decide_eq_true h2⟩, by rw [h3]⟩
theorem LeOk.fst {ss : List St5} {q : List (Int × Int)} (L : LeOk ss q) {p : Int} : (∃ s, (p, s) ∈ inn q ss) ↔ Fst ss p := by
  constructor
  · rintro ⟨s, h⟩
    obtain ⟨h1, h2, h3⟩ := inn_mem.mp h
    have a1 := L.sm (L.one h1)
    have a2 := L.sm (L.other h1)
    rw [h3] at a1
    rw [← h2, h3] at a2
    refine ⟨fun u hu => ?_, s, h1, a1.symm, a2.symm⟩
    rw [← h3]
    exact L.lst (L.one h1) (a1.trans hu)
  · rintro ⟨h1, s, h2, h3, h4⟩
    refine ⟨s, inn_mem.mpr ⟨h2, (L.eq (L.one h2) (L.other h2)).mpr (h3.symm.trans h4), ?_⟩⟩
    have b1 := L.lst (L.one h2) h3.symm
    have b2 := h1 _ (h3.trans (L.sm (L.one h2)))
    omega
theorem LeOk.lot {ss : List St5} {q : List (Int × Int)} (L : LeOk ss q) {p v : Int} (hp : Fst ss p) : (∃ s, (p, s) ∈ inn q ss ∧ s.one = v) ↔ Sm2 (edg ss) p v := by
  constructor
  · rintro ⟨s, h, rfl⟩
    obtain ⟨h1, h2, h3⟩ := inn_mem.mp h
    have a1 := L.sm (L.one h1)
    rw [h3] at a1
    exact a1.symm
  · intro hv
    have mk : ∀ s ∈ ss, Sm2 (edg ss) p s.one → Sm2 (edg ss) p s.other → (p, s) ∈ inn q ss := fun s h2 h3 h4 => by
      refine inn_mem.mpr ⟨h2, (L.eq (L.one h2) (L.other h2)).mpr (h3.symm.trans h4), ?_⟩
      have b1 := L.lst (L.one h2) h3.symm
      have b2 := hp.1 _ (h3.trans (L.sm (L.one h2)))
      omega
    obtain ⟨_, s0, h0, h3, h4⟩ := id hp
    by_cases e : v = s0.one
    · exact ⟨s0, mk s0 h0 h3 h4, e.symm⟩
    · have w := hv.symm.trans h3
      obtain ⟨u, g1, g2⟩ := w.1.head e
      obtain ⟨s, t1, t2, t3⟩ := edg_mem.mp g1
      have vu : Sm2 (edg ss) v u := ⟨To.one g1, g2.trans w.2⟩
      exact ⟨s, mk s t1 (by rw [t2]; exact hv) (by rw [t3]; exact hv.trans vu), t2⟩
end AA

set_option Elab.async false
set_option linter.all false
set_option maxRecDepth 100000
set_option maxHeartbeats 4000000
/-! name = {step: True for ..}. -/
namespace AA
open PySem PySem.Spec PyProof.Rows L2 Evl
theorem ps_setSc {X : Cx} {i : Nat} {y : Str} {py : Pos} {kx tg iter : Expr} {scope : Scope} {own : List (Str × Nat)} {j : Nat} {p0 p2 spos : Pos} {wi : TI} {g : TG} {tk : TE} (hu : X.A.units + 8 < cLine) (hc : X.calm = true) (hN : X.N.Nodup) (hy : X.N[i]? = some y) (hyl : X.env.scope.names.lookup y = some .local)
    (hsw : swapsWith (.DictComp kx (.Constant (.bool true) j p2) [⟨tg, iter, [], 0⟩] scope p0) (some (.Name y py)) spos.line X.env = pure true) (hi : PI X tg iter wi) (ok : BlkOk X.N X.env.scope scope own)
    (hg : ∀ (t : Shared) (G : Hp) (C : Addr) (cl : List (Str × Addr)) (fp : List Addr), PG (X.blk t G scope (compEnvC scope cl C X.env) fp) tg g)
    (hk : ∀ (t : Shared) (G : Hp) (C : Addr) (cl : List (Str × Addr)) (fp : List Addr), PE (X.blk t G scope (compEnvC scope cl C X.env) fp) kx tk) (hs : ∀ x, foldedSetIterable iter X.env x = pure x := by intro _; rfl) :
    PS X (.Assign [.Name y py] (.DictComp kx (.Constant (.bool true) j p2) [⟨tg, iter, [], 0⟩] scope p0) spos) (tAsg (tSc X wi g tk (own.map (·.2))) (gName i)) := ⟨fun pins t σ G D I h => by
  rw [exec_Assign_Name_used _ _ _ _ hsw]
  refine wpAny_bind (wpAny_standAt (wpAny_bind ?_))
  show wpAny _ X.A (do let _ ← comprehension (.DictComp kx (.Constant (.bool true) j p2) [⟨tg, iter, [], 0⟩] scope p0) scope X.env (firstIterPos [⟨tg, iter, [], 0⟩] p0) newDict false (eval iter X.env) (some (assign (.Name y py) X.env))) _ _ t
  have h : tSc X wi g tk (own.map (·.2)) σ G (fun x G1 => gName i x σ G1 D.nx) := h
  refine wpAny_bind (thn (sc_core (Qf := fun _ s' => SP X pins D .next s') hu hc hN I hi ok hg hk hs h fun L C s' m G' I' q hn f => ?_) fun _ s' hq => wpAny_pure (wpAny_pure hq))
  show wpAny _ _ (assign (.Name y py) X.env (.ref L)) _ _ _
  refine wpAny_assign_Name (store_ok2 (v := V.ref L) I' hN hy (.inl hyl) rfl (fun s2 I2 ⟨a, sb, ha⟩ => ?_) (.inr hyl))
  obtain ⟨f0, f1, f2, f3, f4, f5⟩ := f
  have haC : C ≠ a := ha.elim (fun z => by rw [z]; exact f1) (fun z e => f4 y a z e.symm)
  exact ⟨m, hn.sameBut sb haC, fun h3 sb3 => ⟨_, G', I2.turned (t' := s2.toks) (fun b o hb e => (sb3.2 b hb).trans e) f0 f1 f3 f4 f5, q⟩⟩⟩
end AA

set_option Elab.async false
set_option linter.all false
set_option maxRecDepth 100000
set_option maxHeartbeats 4000000
/-! lots_of, lots. -/
namespace AA
open PySem PySem.Spec PyProof.Rows L2 Evl
abbrev rSrtD : List V → Hp → VK → Prop := fun xs H Q => ∃ (a : Addr) (kvs : List (Key × V)) (ks : List Int), xs = [.ref a] ∧ Rd H a (.dK kvs) ∧ kvs.map (·.1) = ks.map Sum.inl ∧ ks.length < 64 ∧
    ∀ (ys : List Int) (p : Addr), ys.Perm ks → ys.Pairwise (· ≤ ·) → H p = none → Q (.ref p) (upd H p (.lst (ys.map V.int)))
section
variable {α : Type}
def PutA (f : α → V) (H G G' : Hp) (A : Addr) (rows : List (Row α)) (es' : List (Int × α)) (i : Nat) : Prop := ∃ rows' : List (Row α), Ex H G' ∧ Adj f H G' A rows' ∧ Tells rows' es' ∧ rows'.length ≤ i ∧ (∀ r ∈ rows', r.2.2.length ≤ i ∧ r.2.2 ≠ []) 
theorem putA_old {f : α → V} {H G G1 : Hp} {A : Addr} {rows : List (Row α)} {es : List (Int × α)} {i j : Nat} {r : Row α} (e : Ex H G1) (y : Ex G G1) (ad : Adj f H G1 A rows) (tl : Tells rows es) (rl : rows.length ≤ i) (bl : ∀ r ∈ rows, r.2.2.length ≤ i ∧ r.2.2 ≠ []) (hr : rows[j]? = some r) (b : α) : PutA f H G (L2.upd G1 r.2.1 (.lst ((r.2.2 ++ [b]).map f))) A rows (es ++ [(r.1, b)]) (i + 1) := by
  have hm := mem_of_get hr
  refine ⟨rows.set j (r.1, r.2.1, r.2.2 ++ [b]), e.mut (ad.fr r hm).1, ad.more hr b, tl.more hr b, by rw [List.length_set]; omega, fun s hs => ?_⟩
  rcases (mem_set hr).mp hs with rfl | ⟨j', _, hj⟩
  · refine ⟨?_, by simp⟩
    show (r.2.2 ++ [b]).length ≤ i + 1
    rw [List.length_append]
    exact Nat.succ_le_succ (bl r hm).1
  · have := bl s (mem_of_get hj)
    exact ⟨by omega, this.2⟩
theorem putA_new {f : α → V} {H G G1 : Hp} {A p : Addr} {rows : List (Row α)} {es : List (Int × α)} {i : Nat} {a : Int} (e : Ex H G1) (y : Ex G G1) (hA : H A = none) (hp : G p = none) (eG : Ex H G) (ad : Adj f H G1 A rows) (ad0 : Adj f H G A rows) (tl : Tells rows es) (rl : rows.length ≤ i) (bl : ∀ r ∈ rows, r.2.2.length ≤ i ∧ r.2.2 ≠ []) (hn : ∀ r ∈ rows, r.1 ≠ a) (b : α) : PutA f H G (L2.upd (L2.upd G1 A (.dK (putK (rowK rows) (Sum.inl a) (V.ref p)))) p (.lst [f b])) A rows (es ++ [(a, b)]) (i + 1) := by
  have pA : p ≠ A := (ne_of_none ad0.dk hp).symm
  have pr : ∀ r ∈ rows, p ≠ r.2.1 := fun r hr => (ne_of_none (ad0.at' r hr) hp).symm
  have p0 := fresh_back eG hp
  refine ⟨rows ++ [(a, p, [b])], (e.mut hA).mut p0, ad.new hn p0 pA pr ad.dk, tl.new a p b, by rw [List.length_append]; exact Nat.succ_le_succ rl, fun s hs => ?_⟩
  rcases List.mem_append.mp hs with hs | hs
  · have := bl s hs
    exact ⟨by omega, this.2⟩
  · rw [List.mem_singleton.mp hs]
    exact ⟨by show 1 ≤ i + 1; omega, by simp⟩
end
/-! ### steps with where they stand -/
abbrev It := Addr × St5
theorem its_of {K : PySem.W.Frag} {H : Hp} : ∀ {us : List V} {ss : List St5}, DpAll K H us (ss.map stD) → ∃ its : List It, us = its.map (fun t => V.ref t.1) ∧ ss = its.map (·.2) ∧ ∀ t ∈ its, Dp K H (.ref t.1) (stD t.2)
  | us, [], h => by
    cases h
    exact ⟨[], rfl, rfl, fun t ht => absurd ht (by simp)⟩
  | us, s :: ss, h => by
    cases h with
    | cons h1 h2 =>
      obtain ⟨its, e1, e2, h3⟩ := its_of h2
      obtain ⟨b, _, rfl, _⟩ := stD_inv h1
      exact ⟨(b, s) :: its, by rw [e1]; rfl, by rw [e2]; rfl, fun t ht => (List.mem_cons.mp ht).elim (fun z => by rw [z]; exact h1) (h3 t)⟩
theorem its_dpa {K : PySem.W.Frag} {H : Hp} : ∀ {its : List It}, (∀ t ∈ its, Dp K H (.ref t.1) (stD t.2)) → DpAll K H (its.map fun t => V.ref t.1) ((its.map (·.2)).map stD)
  | [], _ => .nil
  | t :: r, h => .cons (h t List.mem_cons_self) (its_dpa fun x hx => h x (List.mem_cons_of_mem _ hx))
def innA (q : List (Int × Int)) (its : List It) : List (Int × It) := (its.filter fun t => decide (lo q t.2.one = lo q t.2.other)).map fun t => (lo q t.2.one, t)
theorem innA_mem {q : List (Int × Int)} {its : List It} {a : Int} {t : It} : (a, t) ∈ innA q its ↔ t ∈ its ∧ lo q t.2.one = lo q t.2.other ∧ lo q t.2.one = a := by
  unfold innA
  rw [List.mem_map]
  constructor
  · rintro ⟨u, h1, h2⟩
    cases h2
    rw [List.mem_filter, decide_eq_true_eq] at h1
    exact ⟨h1.1, h1.2, rfl⟩
  · rintro ⟨h1, h2, h3⟩
    exact ⟨t, List.mem_filter.mpr ⟨h1, decide_eq_true h2⟩, by rw [h3]⟩
theorem innA_inn {q : List (Int × Int)} {its : List It} {a : Int} {s : St5} : (a, s) ∈ inn q (its.map (·.2)) ↔ ∃ b, (a, (b, s)) ∈ innA q its := by
  rw [inn_mem]
  constructor
  · rintro ⟨h1, h2, h3⟩
    obtain ⟨t, h4, rfl⟩ := List.mem_map.mp h1
    exact ⟨t.1, innA_mem.mpr ⟨h4, h2, h3⟩⟩
  · rintro ⟨b, h⟩
    obtain ⟨h1, h2, h3⟩ := innA_mem.mp h
    exact ⟨List.mem_map.mpr ⟨_, h1, rfl⟩, h2, h3⟩
theorem innA_yes {q : List (Int × Int)} {its : List It} {i : Nat} {t : It} (h : its[i]? = some t) (k : lo q t.2.one = lo q t.2.other) : innA q (its.take (i + 1)) = innA q (its.take i) ++ [(lo q t.2.one, t)] := by
  unfold innA
  rw [List.take_add_one, h, List.filter_append, List.map_append]
  congr 1
  show (List.filter _ [t]).map _ = _
  rw [List.filter_cons_of_pos (by simpa using k)]
  rfl
theorem innA_no {q : List (Int × Int)} {its : List It} {i : Nat} {t : It} (h : its[i]? = some t) (k : lo q t.2.one ≠ lo q t.2.other) : innA q (its.take (i + 1)) = innA q (its.take i) := by
  unfold innA
  rw [List.take_add_one, h, List.filter_append, List.map_append]
  show _ ++ (List.filter _ [t]).map _ = _
  rw [List.filter_cons_of_neg (by simpa using k)]
  simp
/-- a lot as lots_of tells it: the pair, the list of places, the list of steps -/
structure LtRow where
  t : Addr
  a : Addr
  b : Addr
  zs : List Int
  ys : List V
  ws : List St5
structure LtOk (K : PySem.W.Frag) (ss : List St5) (H G : Hp) (r : LtRow) : Prop where
  ht : G r.t = some (.tup [.ref r.a, .ref r.b])
  a0 : H r.a = none
  ha : G r.a = some (.lst (r.zs.map V.int))
  hb : G r.b = some (.lst r.ys)
  hd : DpAll K G r.ys (r.ws.map stD)
  hw : ∀ s, s ∈ r.ws ↔ s ∈ ss ∧ s.one ∈ r.zs ∧ s.other ∈ r.zs
  hl : r.ws.length ≤ 1000
theorem LtOk.ex {K : PySem.W.Frag} {ss : List St5} {H G G' : Hp} {r : LtRow} (h : LtOk K ss H G r) (e : Ex G G') : LtOk K ss H G' r := ⟨e _ _ h.ht, h.a0, e _ _ h.ha, e _ _ h.hb, dpa_ex e _ _ h.hd, h.hw, h.hl⟩
section
variable {P : Program} {w : World} {K : PySem.W.Frag} {mg : Str → Option Value} {base : Heap}
def spLotsOf (K : PySem.W.Frag) : Sp := fun vs H Q _ => ∃ (l : Addr) (us : List V) (ss : List St5) (U : List Int), vs = [.ref l] ∧ SqL K H l us ∧ DpAll K H us (ss.map stD) ∧ ss.length ≤ 1000 ∧ (∀ s ∈ ss, s.one ∈ U ∧ s.other ∈ U) ∧ U.length < 64 ∧
  ∀ (H' : Hp) (F : Addr) (rows : List LtRow) (ps : List Int), Ex H H' → H F = none → H' F = some (.lst (rows.map fun r => V.ref r.t)) → LotsR ss ps (rows.map (·.zs)) → (∀ r ∈ rows, LtOk K ss H H' r) → rows.length < 64 → Q (.ref F) H'
abbrev nmLo : List Str := ["steps", "least", "within", "step", "first"]
abbrev scLoI : Scope := { kind := ScopeKind.function, names := [(".0", NameKind.local), ("first", NameKind.local), ("sorted", NameKind.globalImplicit), ("within", NameKind.cell)], isGenerator := false, isCoroutine := false }
theorem scLo : FnScope nmLo ["steps"] (defScope sLotsOf) := ⟨rfl, rfl, rfl, by decide +kernel, rfl, by decide +kernel, by decide +kernel⟩
theorem ok_lotsOf {f : Addr} {fd : FuncData} (F : L2.Fun K "lots_of" "lots_of" sLotsOf f fd) (B : Bn mg) (cT : C8.Cal P w K mg base 2 "together_of" (spTog K) []) : FnOk P w K mg base CX0 3 f fd ["steps"] (spLotsOf K) := by
  refine F.ok scLo (fun vs H Q E h => ?_) (fun cdv Ar outer s H vs Q E hr h => ?_)
  · obtain ⟨l, us, ss, U, rfl, _⟩ := h
    rfl
  · obtain ⟨l, us, ss, U, rfl, hl, hD, hsz, hSU, hU, kQ⟩ := h
    have hu := hr.un
    have hu1 : (Ar.deeper (envOfC "lots_of" (defScope sLotsOf) s.heap.objs.size f cdv)).units + 1 < cLine := by omega
    refine ⟨_, pss_cons (ps_set (i := 1) scLo.nd rfl (Or.inl rfl) (C8.pe_c cT hr (by decide) (by rfl) (pa_cons (pv 0) pa_nil)))
      (pss_cons (ps_set (i := 2) scLo.nd rfl (Or.inr rfl) pe_dnewK)
      (Evl.pss_cut (ps_for PassesOwn.never rfl (pi_list (pv 0)) (pg_name (i := 3) scLo.nd rfl (Or.inl rfl))
          (pss_one (ps_if (PW.pt (pw_and (pt_cmp (pc_din hu1 (pe_ix (r := rIxT K) ix_tup (pv 3) pe_int (fun _ _ => rfl)) (pv 1))) (pw_and1 (pt_cmpR op_eq (pe_dget hu1 (pv 1) (pe_ix (r := rIxT K) ix_tup (pv 3) pe_int (fun _ _ => rfl)) (fun _ _ => rfl)) (pe_dget hu1 (pv 1) (pe_ix (r := rIxT K) ix_tup (pv 3) pe_int (fun _ _ => rfl)) (fun _ _ => rfl)) (nomark _)))))
            (pss_one (ps_expr (pe_bm PySem.F.plainAttrs_list PySem.F.slot_list_append PySem.F.type_list_append mt_append (pe_dsetd (pv 2) (pe_dget hu1 (pv 1) (pe_ix (r := rIxT K) ix_tup (pv 3) pe_int (fun _ _ => rfl)) (fun _ _ => rfl)) (pe_lst pa_nil) ⟨by rfl, by rfl, by rfl, by rfl⟩) (pa_cons (pv 3) pa_nil)))) pss_nil)))
      (pss_one (ps_ret (pe_lc (own := [("first", 4)]) (g := gName 4) (tt := tYes) (by rfl) scLo.nd (pi_list (pe_callB (r := rSrtD) (call_sortedDI (by rfl)) (by rfl) B.sorted boot_sorted (pa_cons (pv 2) pa_nil))) (blkOk_by (N := nmLo) (sc := defScope sLotsOf) (by decide +kernel)) (fun _ _ _ _ _ => pg_name (i := 4) scLo.nd rfl (Or.inl rfl)) (fun _ _ _ _ _ => pts_nil)
        (fun _ _ _ _ _ => pe_tup (pa_cons (pe_callB (r := rSrtD) (call_sortedDI (by rfl)) (by rfl) B.sorted boot_sorted (pa_cons (pe_dc (wi := iList K (tDGet (tVar 2) (tVar 4))) (own := [("step", 3)]) (g := gName 3) (tt := tYes) (by rfl) scLo.nd (by exact pi_list (pe_dget hu1 (pv 2) (pv 4) (fun _ _ => rfl))) (blkOk_by (N := nmLo) (sc := scLoI) (by decide +kernel)) (fun _ _ _ _ _ => pg_name (i := 3) scLo.nd rfl (Or.inl rfl)) (fun _ _ _ _ _ => pts_nil) (fun _ _ _ _ _ => pe_ix (r := rIxT K) ix_tup (pv 3) pe_int (fun _ _ => rfl)) (fun _ _ _ _ _ => pe_bl)) pa_nil)) (pa_cons (pe_dget (td := tVar 2) (ty := tVar 4) hu1 (pv 2) (pv 4) (fun _ _ => rfl)) pa_nil)))))))), ?_⟩
    refine ⟨_, rfl, l, us, ss, U, rfl, hl, hD, hsz, hSU, hU, fun G1 Le q e1 hLeH hLe qnd hq hqle => ?_⟩
    have LO : LeOk ss q := ⟨hq, hqle⟩
    intro A hA1
    have y1 := Ex.new (o := .dK []) hA1
    have j1 : upd G1 A (.dK []) A = some (.dK []) := upd_same
    have LA : Le ≠ A := ne_of_none hLe hA1
    have hA := fresh_back e1 hA1
    have hLe1 := y1 _ _ hLe
    generalize upd G1 A (.dK []) = G2 at y1 j1 hLe1 ⊢
    have e2 := e1.trans y1
    obtain ⟨its, eus, ess, hit⟩ := its_of hD
    have hitl : its.length = us.length := by rw [eus, List.length_map]
    have hsl : ss.length = its.length := by rw [ess, List.length_map]
    refine ⟨fun σ G => ∃ (x3 : Option V) (rows : List (Row It)), σ = [some (.ref l), some (.ref Le), some (.ref A), x3, none] ∧ Ex G1 G ∧ Adj (fun t => V.ref t.1) G1 G A rows ∧ Tells rows (innA q its) ∧ ∀ r ∈ rows, r.2.2.length ≤ 1000 ∧ r.2.2 ≠ [], ?_, ?_⟩
    · refine ⟨_, rfl, l, rfl, ⟨_, ex_l e2 hl⟩, ?_⟩
      refine for_list (K := K) (a := l) (xs := us) (fun i σ G => ∃ (x3 : Option V) (rows : List (Row It)), σ = [some (.ref l), some (.ref Le), some (.ref A), x3, none] ∧ Ex G1 G ∧ Adj (fun t => V.ref t.1) G1 G A rows ∧ Tells rows (innA q (its.take i)) ∧ rows.length ≤ i ∧ ∀ r ∈ rows, r.2.2.length ≤ i ∧ r.2.2 ≠ []) ?_ (fun i σ G _ ⟨_, _, _, e, _⟩ => ex_l (e1.trans e) hl) ?_ ?_
      · exact ⟨none, [], rfl, y1, ⟨j1, by simp, by simp, (fun r h => absurd h (by simp)), fun r h => absurd h (by simp)⟩, Tells.nil, Nat.le_refl _, fun r h => absurd h (by simp)⟩
      · rintro i v σ G hv ⟨x3, rows, rfl, e, ad, tl, rl, bl⟩
        have il := (List.getElem?_eq_some_iff.mp hv).1
        obtain ⟨t, ht⟩ : ∃ t, its[i]? = some t := ⟨_, List.getElem?_eq_getElem (by omega)⟩
        have hvt : v = .ref t.1 := by
          rw [eus, List.getElem?_map, ht] at hv
          exact (Option.some.inj hv).symm
        subst hvt
        have hti := mem_of_get ht
        have hts : t.2 ∈ ss := by rw [ess]; exact List.mem_map.mpr ⟨t, hti, rfl⟩
        obtain ⟨_, u, ez, p1, _⟩ := stD_inv (hit t hti)
        cases ez
        have vo := lo_val (LO.one hts)
        have vt := lo_val (LO.other hts)
        have gL : ∀ {G' : Hp} {v : Int}, G' Le = some (.dK (leK q)) → v ∈ q.map (·.1) → DGet G' Le (.int v) (some (.int (lo q v))) := fun {G' v} h k => by
          have z := DGet.k (k := Sum.inl v) h
          rw [lo_val k] at z
          exact z
        have mo := LO.one hts
        have mt := LO.other hts
        have pe := ex_t (e1.trans e) p1
        have hL := e _ _ hLe
        refine ⟨_, rfl, t.1, _, 1, .int t.2.other, rfl, rfl, pe, rfl, _, rfl, Le, _, rfl, gL hL mt, true, rfl, iteT ?_⟩
        refine ⟨_, rfl, _, rfl, t.1, _, 0, .int t.2.one, rfl, rfl, pe, rfl, Le, _, rfl, gL hL mo, _, rfl, _, rfl, t.1, _, 1, .int t.2.other, rfl, rfl, pe, rfl, Le, _, rfl, gL hL mt, rfl, _, rfl, ?_⟩
        rw [dec_int]
        by_cases hh : lo q t.2.one = lo q t.2.other
        case neg =>
          rw [decide_eq_false hh]
          refine iteF ?_
          exact ⟨_, rows, rfl, e, ad, by rw [innA_no ht hh]; exact tl, by omega, fun r hr => ⟨by have := (bl r hr).1; omega, (bl r hr).2⟩⟩
        rw [decide_eq_true hh]
        refine iteT ?_
        refine ⟨_, rfl, A, rfl, .inl ⟨_, .inl ad.dk⟩, _, rfl, _, rfl, t.1, _, 0, .int t.2.one, rfl, rfl, pe, rfl, Le, _, rfl, gL hL mo, Nat.zero_le _, fun p hp => ?_⟩
        have y3 := Ex.new (o := .lst []) hp
        have j3 : upd G p (.lst []) p = some (.lst []) := upd_same
        have hL3 := y3 _ _ hL
        generalize upd G p (.lst []) = G4 at y3 j3 hL3 ⊢
        have ad3 := ad.go y3
        have e3 := e.trans y3
        have kl : (rowK rows).length < sizeLine := by
          unfold rowK
          rw [List.length_map]
          exact sz_m (by omega)
        have fin : ∀ {G' : Hp}, PutA (fun t : It => V.ref t.1) G1 G G' A rows (innA q (its.take i) ++ [(lo q t.2.one, t)]) (i + 1) → ∃ (x3 : Option V) (rows : List (Row It)), [some (V.ref l), some (.ref Le), some (.ref A), some (.ref t.1), none] = [some (.ref l), some (.ref Le), some (.ref A), x3, none] ∧ Ex G1 G' ∧ Adj (fun t => V.ref t.1) G1 G' A rows ∧ Tells rows (innA q (its.take (i + 1))) ∧ rows.length ≤ i + 1 ∧ ∀ r ∈ rows, r.2.2.length ≤ i + 1 ∧ r.2.2 ≠ [] := fun po => by
          obtain ⟨rows', q1, q2, q3, q4, q5⟩ := po
          exact ⟨_, rows', rfl, q1, q2, by rw [innA_yes ht hh]; exact q3, q4, q5⟩
        refine ⟨rowK rows, Sum.inl (lo q t.2.one), ad3.dk, rfl, kl, fun v hv => ?_, fun hn => ?_⟩
        · obtain ⟨j, r, h1, h2, rfl⟩ := rowK_some hv
          have hat := ad3.at' r (mem_of_get h1)
          have hb := bl r (mem_of_get h1)
          refine ⟨.inl ⟨rfl, _, SqL.of hat⟩, _, rfl, r.2.1, _, _, rfl, rfl, hat, by rw [List.length_map]; exact sz_m (by omega), ?_⟩
          have hE : r.2.2.map (fun t : It => V.ref t.1) ++ [V.ref t.1] = (r.2.2 ++ [t]).map fun t => V.ref t.1 := by
            rw [List.map_append]
            rfl
          rw [hE]
          have po := putA_old e3 y3 ad3 tl rl bl h1 t
          rw [h2] at po
          exact fin po
        · have hd : upd G4 A (.dK (putK (rowK rows) (Sum.inl (lo q t.2.one)) (V.ref p))) p = some (.lst []) := by
            rw [upd_ne (ne_of_none ad.dk hp).symm]
            exact j3
          refine ⟨.inl ⟨rfl, _, SqL.of hd⟩, _, rfl, p, _, _, rfl, rfl, hd, by show 0 < sizeLine; decide, ?_⟩
          exact fin (putA_new e3 y3 hA1 hp e ad3 ad tl rl bl (rowK_none.mp hn) t)
      · rintro σ G ⟨x3, rows, rfl, e, ad, tl, rl, bl⟩
        rw [← hitl, List.take_length] at tl
        exact ⟨x3, rows, rfl, e, ad, tl, fun r hr => ⟨by have := (bl r hr).1; omega, (bl r hr).2⟩⟩
    rintro σ G3 ⟨x3, rows, rfl, e3, ad, tl, bl⟩
    have eH3 := e1.trans e3
    have hrow : ∀ {r : Row It}, r ∈ rows → ∀ t, t ∈ r.2.2 ↔ t ∈ its ∧ lo q t.2.one = lo q t.2.other ∧ lo q t.2.one = r.1 := fun {r} hr t => by
      obtain ⟨i, hi⟩ := List.getElem?_of_mem hr
      exact (tl.key ad.kn hi t).trans innA_mem
    have hfst : ∀ v, v ∈ rows.map (·.1) ↔ Fst ss v := fun v => by
      rw [← LO.fst, ess]
      constructor
      · intro hv
        obtain ⟨r, hr, rfl⟩ := List.mem_map.mp hv
        obtain ⟨t, ht⟩ := List.exists_mem_of_ne_nil _ (bl r hr).2
        have h1 := (hrow hr t).mp ht
        exact ⟨t.2, innA_inn.mpr ⟨t.1, innA_mem.mpr h1⟩⟩
      · rintro ⟨s, hs⟩
        obtain ⟨b, hb⟩ := innA_inn.mp hs
        obtain ⟨r, hr, h1, _⟩ := (tl _ _).mp hb
        exact List.mem_map.mpr ⟨r, hr, h1⟩
    have fU : ∀ v, Fst ss v → v ∈ U := fun v hv => by
      obtain ⟨s, h1, h2, h3⟩ := hv.2
      by_cases e : v = s.one
      · rw [e]
        exact (hSU s h1).1
      · obtain ⟨s2, g1, g2⟩ := h2.1.nmd e
        exact g2.elim (fun z => z ▸ (hSU s2 g1).1) (fun z => z ▸ (hSU s2 g1).2)
    have rU : rows.length < 64 := by
      have := nd_len (rows.map (·.1)) U ad.kn fun v hv => fU v ((hfst v).mp hv)
      rw [List.length_map] at this
      omega
    refine ⟨_, rfl, A, rowK rows, rows.map (·.1), rfl, .inl ad.dk, ?_, by rw [List.length_map]; exact rU, fun ps Pq hperm hasc hPq => ?_⟩
    · unfold rowK
      rw [List.map_map, List.map_map]
      rfl
    have y4 := Ex.new (o := .lst (ps.map V.int)) hPq
    have j4 : upd G3 Pq (.lst (ps.map V.int)) Pq = some (.lst (ps.map V.int)) := upd_same
    generalize upd G3 Pq (.lst (ps.map V.int)) = G4 at y4 j4 ⊢
    refine ⟨Pq, rfl, ⟨_, SqL.of j4⟩, fun D hD0 => ?_⟩
    have eH4 := eH3.trans y4
    have hHD := fresh_back eH4 hD0
    have eHid : ∀ {G : Hp}, Ex G4 G → Ex H (hid D D G) := fun {G} e x o h => by
      have n := ne_of_none h hHD
      rw [hid_ne n n]
      exact e _ _ (eH4 _ _ h)
    have ad4 := ad.go y4
    refine lc_list (xs := ps.map V.int) (fun i G => Ex G4 G ∧ ∃ lr : List LtRow, G D = some (.lst (lr.map fun r => V.ref r.t)) ∧ lr.length = i ∧ (∀ (j : Nat) (p : Int) (r : LtRow), ps[j]? = some p → lr[j]? = some r → LotL (edg ss) p r.zs) ∧ ∀ r ∈ lr, LtOk K ss H (hid D D G) r) ⟨Ex.new hD0, [], upd_same, rfl, (fun j p r _ h => by simp at h), fun r h => absurd h (by simp)⟩ (fun i G _ z => SqL.of (z.1 _ _ j4)) ?_ ?_
    · rintro i x G hx ⟨q1, lr, q2, q3, q4, q5⟩
      obtain ⟨p, hp, rfl⟩ := get_ints hx
      have il := (List.getElem?_eq_some_iff.mp hp).1
      have plen : ps.length < 64 := by rw [hperm.length_eq, List.length_map]; exact rU
      have hpr : p ∈ rows.map (·.1) := hperm.mem_iff.mp (mem_of_get hp)
      have hF := (hfst p).mp hpr
      obtain ⟨r, hr, er, hval⟩ : ∃ r ∈ rows, r.1 = p ∧ valV (rowK rows) (Sum.inl p) = some (.ref r.2.1) := by
        cases hv : valV (rowK rows) (Sum.inl p) with
        | none =>
          obtain ⟨r, h1, h2⟩ := List.mem_map.mp hpr
          exact absurd h2 (rowK_none.mp hv r h1)
        | some v =>
          obtain ⟨j, r, h1, h2, rfl⟩ := rowK_some hv
          exact ⟨r, mem_of_get h1, h2, rfl⟩
      have gA : ∀ {G' : Hp}, Ex G4 G' → DGet G' A (.int p) (some (.ref r.2.1)) := fun {G'} e => by
        have z := DGet.k (k := Sum.inl p) (e _ _ ad4.dk)
        rw [hval] at z
        exact z
      have lat := ad4.at' r hr
      refine ⟨rfl, _, rfl, _, rfl, A, _, rfl, gA q1, r.2.1, rfl, ⟨_, SqL.of (q1 _ _ lat)⟩, fun D2 hD2 => ?_⟩
      have eHG := eH4.trans q1
      refine dc_list (xs := r.2.2.map fun t : It => V.ref t.1) (fun i G' => Ex G G' ∧ ∃ z, G' D2 = some (.dK (seenK z)) ∧ z.Nodup ∧ (∀ v, v ∈ z ↔ v ∈ (r.2.2.take i).map (·.2.one))) ⟨Ex.new hD2, [], upd_same, List.nodup_nil, fun v => by simp⟩ (fun i G' _ z => SqL.of ((q1.trans z.1) _ _ lat)) ?_ ?_
      · rintro k x' G' hx' ⟨z1, z, z2, z3, z4⟩
        obtain ⟨t, ht, rfl⟩ : ∃ t, r.2.2[k]? = some t ∧ x' = V.ref t.1 := by
          rw [List.getElem?_map] at hx'
          cases e : r.2.2[k]? with
          | none => rw [e] at hx'; cases hx'
          | some t => rw [e] at hx'; exact ⟨t, rfl, (Option.some.inj hx').symm⟩
        have hti := ((hrow hr t).mp (mem_of_get ht)).1
        obtain ⟨_, u, ez, p1, _⟩ := stD_inv (hit t hti)
        cases ez
        have tk : (r.2.2.take (k + 1)).map (·.2.one) = (r.2.2.take k).map (·.2.one) ++ [t.2.one] := by
          rw [List.take_add_one, ht, List.map_append]
          rfl
        have zl : z.length < sizeLine := by
          have := nd_len z U z3 fun v hv => by
            obtain ⟨t', h1, h2⟩ := List.mem_map.mp ((z4 v).mp hv)
            have h3 := ((hrow hr t').mp (List.mem_of_mem_take h1)).1
            rw [← h2]
            exact (hSU t'.2 (by rw [ess]; exact List.mem_map.mpr ⟨_, h3, rfl⟩)).1
          exact sz_m (by omega)
        refine ⟨rfl, _, rfl, t.1, _, 0, .int t.2.one, rfl, rfl, ex_t (eHG.trans z1) p1, rfl, seenK z, Sum.inl t.2.one, rfl, z2, by unfold seenK; rw [List.length_map]; exact zl, z1.mut hD2, ?_⟩
        rw [tk]
        by_cases hin : t.2.one ∈ z
        · rw [seenK_old hin]
          refine ⟨z, upd_same, z3, fun v => ?_⟩
          rw [List.mem_append, z4 v, List.mem_singleton]
          exact ⟨.inl, fun y => y.elim id fun e => by rw [e]; exact (z4 _).mp hin⟩
        · rw [seenK_new hin]
          refine ⟨z ++ [t.2.one], upd_same, List.nodup_append.mpr ⟨z3, by simp, fun x hx y hy e => ?_⟩, fun v => by rw [List.mem_append, List.mem_append, z4 v]⟩
          rw [List.mem_singleton.mp hy] at e
          exact hin (e ▸ hx)
      · rintro G5 ⟨z1, z, z2, z3, z4⟩
        rw [List.length_map, List.take_length] at z4
        have zU : z.length < 64 := by
          have := nd_len z U z3 fun v hv => by
            obtain ⟨t', h1, h2⟩ := List.mem_map.mp ((z4 v).mp hv)
            have h3 := ((hrow hr t').mp h1).1
            rw [← h2]
            exact (hSU t'.2 (by rw [ess]; exact List.mem_map.mpr ⟨_, h3, rfl⟩)).1
          omega
        have zm : ∀ v, v ∈ z ↔ Sm2 (edg ss) p v := fun v => by
          rw [z4 v, ← LO.lot hF, List.mem_map, ess]
          constructor
          · rintro ⟨t, h1, h2⟩
            exact ⟨t.2, innA_inn.mpr ⟨t.1, innA_mem.mpr (by rw [← er]; exact (hrow hr t).mp h1)⟩, h2⟩
          · rintro ⟨s, h1, h2⟩
            obtain ⟨b, hb⟩ := innA_inn.mp h1
            exact ⟨(b, s), (hrow hr _).mpr (by rw [er]; exact innA_mem.mp hb), h2⟩
        refine ⟨D2, seenK z, z, rfl, .inl z2, ?_, zU, fun zs a hzp hzs ha => ?_⟩
        · unfold seenK
          rw [List.map_map]
          rfl
        have y5 := Ex.new (o := .lst (zs.map V.int)) ha
        have j5 : upd G5 a (.lst (zs.map V.int)) a = some (.lst (zs.map V.int)) := upd_same
        generalize upd G5 a (.lst (zs.map V.int)) = G6 at y5 j5 ⊢
        have e46 := (q1.trans z1).trans y5
        refine ⟨_, rfl, _, rfl, A, _, rfl, gA e46, by show 2 ≤ sizeLine; decide, fun T hT => ?_⟩
        have y6 := Ex.new (o := .tup [V.ref a, V.ref r.2.1]) hT
        have j6 : upd G6 T (.tup [V.ref a, V.ref r.2.1]) T = some (.tup [V.ref a, V.ref r.2.1]) := upd_same
        have TD : T ≠ D := (ne_of_none ((z1.trans y5) _ _ q2) hT).symm
        have aD : a ≠ D := (ne_of_none (z1 _ _ q2) ha).symm
        have rD : r.2.1 ≠ D := ne_of_none lat hD0
        generalize upd G6 T (.tup [V.ref a, V.ref r.2.1]) = G7 at y6 j6 ⊢
        have e7 : Ex G G7 := (z1.trans y5).trans y6
        have e47 := q1.trans e7
        refine ⟨_, e7 _ _ q2, by rw [List.length_map, q3]; exact sz_m (by omega), e47.mut hD0, lr ++ [⟨T, a, r.2.1, zs, r.2.2.map (fun t => V.ref t.1), r.2.2.map (·.2)⟩], by rw [upd_same, List.map_append]; rfl, by rw [List.length_append, q3]; rfl, fun j p' r' hj hr' => ?_, fun r' hr' => ?_⟩
        · by_cases jl : j < lr.length
          · rw [List.getElem?_append_left jl] at hr'
            exact q4 j p' r' hj hr'
          · have jl2 : j = i := by
              have := (List.getElem?_eq_some_iff.mp hr').1
              rw [List.length_append, List.length_singleton] at this
              omega
            subst jl2
            rw [List.getElem?_append_right (by omega), q3, Nat.sub_self] at hr'
            rw [hp] at hj
            cases hj
            cases hr'
            exact ⟨hzp.nodup_iff.mpr z3, hzs, fun v => hzp.mem_iff.trans (zm v)⟩
        · rw [hid_upda]
          rcases List.mem_append.mp hr' with hr' | hr'
          · exact (q5 r' hr').ex (hid_mono e7)
          · rw [List.mem_singleton.mp hr']
            refine ⟨by rw [hid_ne TD TD]; exact j6, fresh_back ((eH4.trans q1).trans z1) ha, by rw [hid_ne aD aD]; exact y6 _ _ j5, by rw [hid_ne rD rD]; exact e47 _ _ lat, dpa_ex (eHid e47) _ _ (its_dpa fun t ht => hit t ((hrow hr t).mp ht).1), fun s => ?_, by show (r.2.2.map (·.2)).length ≤ 1000; rw [List.length_map]; exact (bl r hr).1⟩
            show s ∈ r.2.2.map (·.2) ↔ s ∈ ss ∧ s.one ∈ zs ∧ s.other ∈ zs
            rw [hzp.mem_iff, hzp.mem_iff, zm, zm, List.mem_map]
            constructor
            · rintro ⟨t, h1, rfl⟩
              obtain ⟨g1, g2, g3⟩ := (hrow hr t).mp h1
              have hs : t.2 ∈ ss := by rw [ess]; exact List.mem_map.mpr ⟨_, g1, rfl⟩
              have s1 := LO.sm (LO.one hs)
              have s2 := LO.sm (LO.other hs)
              rw [g3, er] at s1
              rw [← g2, g3, er] at s2
              exact ⟨hs, s1.symm, s2.symm⟩
            · rintro ⟨hs, s1, s2⟩
              have hs' := hs
              rw [ess] at hs'
              obtain ⟨t, g1, rfl⟩ := List.mem_map.mp hs'
              refine ⟨t, (hrow hr t).mpr ⟨g1, (LO.eq (LO.one hs) (LO.other hs)).mpr (s1.symm.trans s2), ?_⟩, rfl⟩
              have b1 := LO.lst (LO.one hs) s1.symm
              have b2 := hF.1 _ (s1.trans (LO.sm (LO.one hs)))
              omega
    · rintro G ⟨q1, lr, q2, q3, q4, q5⟩
      rw [List.length_map] at q3
      refine kQ G D lr ps (eH4.trans q1) hHD q2 ⟨asc_of (hperm.nodup_iff.mpr ad.kn) hasc, fun v => hperm.mem_iff.trans (hfst v), by rw [List.length_map, q3], fun i p zs h1 h2 => ?_⟩ (fun r hr => (q5 r hr).ex hid_ex) (by rw [q3, hperm.length_eq, List.length_map]; exact rU)
      rw [List.getElem?_map] at h2
      cases e : lr[i]? with
      | none => rw [e] at h2; cases h2
      | some r =>
        rw [e] at h2
        cases h2
        exact q4 i p r h1 e
end
end AA

set_option Elab.async false
set_option linter.all false
set_option maxRecDepth 100000
set_option maxHeartbeats 4000000
/-! leaving. -/
namespace AA
open PySem PySem.Spec PyProof.Rows L2 Evl
def outs {α : Type} (es : List (Int × α)) (a : Int) : List α := (es.filter fun e => decide (e.1 = a)).map (·.2)
theorem outs_yes {α : Type} {es : List (Int × α)} {a : Int} {b : α} : outs (es ++ [(a, b)]) a = outs es a ++ [b] := by
  unfold outs
  rw [List.filter_append, List.map_append]
  congr 1
  show (List.filter _ [(a, b)]).map _ = _
  rw [List.filter_cons_of_pos (by simp)]
  rfl
theorem outs_no {α : Type} {es : List (Int × α)} {a c : Int} {b : α} (h : a ≠ c) : outs (es ++ [(a, b)]) c = outs es c := by
  unfold outs
  rw [List.filter_append, List.map_append]
  show _ ++ (List.filter _ [(a, b)]).map _ = _
  rw [List.filter_cons_of_neg (by simpa using h)]
  simp
theorem outs_len {α : Type} {es : List (Int × α)} {a : Int} : (outs es a).length ≤ es.length := by
  unfold outs
  rw [List.length_map]
  exact List.length_filter_le _ _
/-- what the rows tell, in its order -/
structure TelO {α : Type} (rows : List (Row α)) (es : List (Int × α)) : Prop where
  all : ∀ e ∈ es, ∃ r ∈ rows, r.1 = e.1
  row : ∀ r ∈ rows, r.2.2 = outs es r.1
  ne : ∀ r ∈ rows, r.2.2 ≠ []
theorem TelO.nil {α : Type} : TelO ([] : List (Row α)) [] := ⟨fun e h => absurd h (by simp), fun r h => absurd h (by simp), fun r h => absurd h (by simp)⟩
theorem TelO.more {α : Type} {rows : List (Row α)} {es : List (Int × α)} {i : Nat} {r : Row α} (h : TelO rows es) (kn : (rows.map (·.1)).Nodup) (hr : rows[i]? = some r) (b : α) : TelO (rows.set i (r.1, r.2.1, r.2.2 ++ [b])) (es ++ [(r.1, b)]) := by
  have hm := mem_of_get hr
  refine ⟨fun e he => ?_, fun s hs => ?_, fun s hs => ?_⟩
  · rcases List.mem_append.mp he with he | he
    · obtain ⟨s, h1, h2⟩ := h.all e he
      obtain ⟨j, hj⟩ := List.getElem?_of_mem h1
      by_cases q : j = i
      · subst q
        rw [hr] at hj
        cases hj
        exact ⟨_, (mem_set hr).mpr (.inl rfl), h2⟩
      · exact ⟨s, (mem_set hr).mpr (.inr ⟨j, q, hj⟩), h2⟩
    · rw [List.mem_singleton.mp he]
      exact ⟨_, (mem_set hr).mpr (.inl rfl), rfl⟩
  · rcases (mem_set hr).mp hs with rfl | ⟨j, hji, hj⟩
    · show r.2.2 ++ [b] = outs (es ++ [(r.1, b)]) r.1
      rw [outs_yes, h.row r hm]
    · have ne : r.1 ≠ s.1 := fun e => hji (nodup_at kn (x := s.1) (by rw [List.getElem?_map, hj]; rfl) (by rw [List.getElem?_map, hr, ← e]; rfl))
      rw [outs_no ne]
      exact h.row s (mem_of_get hj)
  · rcases (mem_set hr).mp hs with rfl | ⟨j, _, hj⟩
    · show r.2.2 ++ [b] ≠ []
      simp
    · exact h.ne s (mem_of_get hj)
theorem TelO.new {α : Type} {rows : List (Row α)} {es : List (Int × α)} (h : TelO rows es) {a : Int} (hn : ∀ r ∈ rows, r.1 ≠ a) (p : Addr) (b : α) : TelO (rows ++ [(a, p, [b])]) (es ++ [(a, b)]) := by
  have h0 : outs es a = [] := by
    unfold outs
    rw [List.map_eq_nil_iff, List.filter_eq_nil_iff]
    intro e he
    obtain ⟨r, h1, h2⟩ := h.all e he
    rw [decide_eq_true_eq, ← h2]
    exact hn r h1
  refine ⟨fun e he => ?_, fun s hs => ?_, fun s hs => ?_⟩
  · rcases List.mem_append.mp he with he | he
    · obtain ⟨s, h1, h2⟩ := h.all e he
      exact ⟨s, List.mem_append_left _ h1, h2⟩
    · rw [List.mem_singleton.mp he]
      exact ⟨_, List.mem_append_right _ List.mem_cons_self, rfl⟩
  · rcases List.mem_append.mp hs with hs | hs
    · rw [outs_no (hn s hs).symm]
      exact h.row s hs
    · rw [List.mem_singleton.mp hs]
      show [b] = outs (es ++ [(a, b)]) a
      rw [outs_yes, h0]
      rfl
  · rcases List.mem_append.mp hs with hs | hs
    · exact h.ne s hs
    · rw [List.mem_singleton.mp hs]
      show [b] ≠ []
      simp
/-- a dict from places to the steps that leave them -/
def LeaD (K : PySem.W.Frag) (G : Hp) (A : Addr) (ss : List St5) : Prop := ∃ kvs : List (Key × V), G A = some (.dK kvs) ∧ kvs.length ≤ 1000 ∧ ∀ i : Int, (valV kvs (Sum.inl i) = none ∧ outS ss i = []) ∨ ∃ (p : Addr) (ys : List V), valV kvs (Sum.inl i) = some (.ref p) ∧ G p = some (.lst ys) ∧ DpAll K G ys ((outS ss i).map stD) ∧ outS ss i ≠ []
theorem LeaD.ex {K : PySem.W.Frag} {G G' : Hp} {A : Addr} {ss : List St5} (h : LeaD K G A ss) (e : Ex G G') : LeaD K G' A ss := by
  obtain ⟨kvs, h1, h2, h3⟩ := h
  exact ⟨kvs, e _ _ h1, h2, fun i => (h3 i).imp id fun ⟨p, ys, g1, g2, g3, g4⟩ => ⟨p, ys, g1, e _ _ g2, dpa_ex e _ _ g3, g4⟩⟩
section
variable {P : Program} {w : World} {K : PySem.W.Frag} {mg : Str → Option Value} {base : Heap}
def spLea (K : PySem.W.Frag) : Sp := fun vs H Q _ => ∃ (l : Addr) (us : List V) (ss : List St5), vs = [.ref l] ∧ SqL K H l us ∧ DpAll K H us (ss.map stD) ∧ ss.length ≤ 1000 ∧
  ∀ (H' : Hp) (A : Addr), Ex H H' → H A = none → LeaD K H' A ss → Q (.ref A) H'
abbrev nmLv : List Str := ["steps", "found", "step"]
theorem scLv : FnScope nmLv ["steps"] (defScope sLeaving) := ⟨rfl, rfl, rfl, by decide +kernel, rfl, by decide +kernel, by decide +kernel⟩
theorem ok_lea {f : Addr} {fd : FuncData} (F : L2.Fun K "leaving" "leaving" sLeaving f fd) : FnOk P w K mg base CX0 1 f fd ["steps"] (spLea K) := by
  refine F.ok scLv (fun vs H Q E h => ?_) (fun cdv Ar outer s H vs Q E hr h => ?_)
  · obtain ⟨l, us, ss, rfl, _⟩ := h
    rfl
  · obtain ⟨l, us, ss, rfl, hl, hD, hsz, kQ⟩ := h
    refine ⟨_, pss_cons (ps_set (i := 1) scLv.nd rfl (Or.inl rfl) pe_dnewK)
      (pss_cons (ps_for PassesOwn.never rfl (pi_list (pv 0)) (pg_name (i := 2) scLv.nd rfl (Or.inl rfl))
          (pss_one (ps_expr (pe_bm PySem.F.plainAttrs_list PySem.F.slot_list_append PySem.F.type_list_append mt_append (pe_dsetd (pv 1) (pe_ix (r := rIxT K) ix_tup (pv 2) pe_int (fun _ _ => rfl)) (pe_lst pa_nil) ⟨by rfl, by rfl, by rfl, by rfl⟩) (pa_cons (pv 2) pa_nil)))))
      (pss_one (ps_ret (pv 1)))), ?_⟩
    intro A hA
    have y1 := Ex.new (o := .dK []) hA
    have j1 : upd H A (.dK []) A = some (.dK []) := upd_same
    generalize upd H A (.dK []) = G1 at y1 j1 ⊢
    obtain ⟨its, eus, ess, hit⟩ := its_of hD
    have hitl : its.length = us.length := by rw [eus, List.length_map]
    have hsl : ss.length = its.length := by rw [ess, List.length_map]
    refine ⟨_, rfl, l, rfl, ⟨_, ex_l y1 hl⟩, ?_⟩
    refine for_list (K := K) (a := l) (xs := us) (fun i σ G => ∃ (x2 : Option V) (rows : List (Row It)), σ = [some (.ref l), some (.ref A), x2] ∧ Ex H G ∧ Adj (fun t => V.ref t.1) H G A rows ∧ TelO rows ((its.take i).map fun t => (t.2.one, t)) ∧ rows.length ≤ i) ?_ (fun i σ G _ ⟨_, _, _, e, _⟩ => ex_l e hl) ?_ ?_
    · exact ⟨none, [], rfl, y1, ⟨j1, by simp, by simp, (fun r h => absurd h (by simp)), fun r h => absurd h (by simp)⟩, TelO.nil, Nat.le_refl _⟩
    · rintro i v σ G hv ⟨x2, rows, rfl, e, ad, tl, rl⟩
      have il := (List.getElem?_eq_some_iff.mp hv).1
      obtain ⟨t, ht⟩ : ∃ t, its[i]? = some t := ⟨_, List.getElem?_eq_getElem (by omega)⟩
      have hvt : v = .ref t.1 := by
        rw [eus, List.getElem?_map, ht] at hv
        exact (Option.some.inj hv).symm
      subst hvt
      have hti := mem_of_get ht
      obtain ⟨_, u, ez, p1, _⟩ := stD_inv (hit t hti)
      cases ez
      have pe := ex_t e p1
      have tk : (its.take (i + 1)).map (fun t => (t.2.one, t)) = (its.take i).map (fun t => (t.2.one, t)) ++ [(t.2.one, t)] := by
        rw [List.take_add_one, ht, List.map_append]
        rfl
      have bl : ∀ r ∈ rows, r.2.2.length ≤ i := fun r hr => by
        rw [tl.row r hr]
        refine Nat.le_trans outs_len ?_
        rw [List.length_map, List.length_take]
        exact Nat.min_le_left _ _
      refine ⟨_, rfl, A, rfl, .inl ⟨_, .inl ad.dk⟩, _, rfl, t.1, _, 0, .int t.2.one, rfl, rfl, pe, rfl, Nat.zero_le _, fun p hp => ?_⟩
      have y3 := Ex.new (o := .lst []) hp
      have j3 : upd G p (.lst []) p = some (.lst []) := upd_same
      generalize upd G p (.lst []) = G4 at y3 j3 ⊢
      have ad3 := ad.go y3
      have e3 := e.trans y3
      have kl : (rowK rows).length < sizeLine := by
        unfold rowK
        rw [List.length_map]
        exact sz_m (by omega)
      refine ⟨rowK rows, Sum.inl t.2.one, ad3.dk, rfl, kl, fun v hv => ?_, fun hn => ?_⟩
      · obtain ⟨j, r, h1, h2, rfl⟩ := rowK_some hv
        have hm := mem_of_get h1
        have hat := ad3.at' r hm
        have hb := bl r hm
        refine ⟨.inl ⟨rfl, _, SqL.of hat⟩, _, rfl, r.2.1, _, _, rfl, rfl, hat, by rw [List.length_map]; exact sz_m (by omega), ?_⟩
        have hE : r.2.2.map (fun t : It => V.ref t.1) ++ [V.ref t.1] = (r.2.2 ++ [t]).map fun t => V.ref t.1 := by
          rw [List.map_append]
          rfl
        rw [hE]
        have tm := tl.more ad3.kn h1 t
        rw [h2] at tm
        exact ⟨_, _, rfl, e3.mut (ad3.fr r hm).1, ad3.more h1 t, by rw [tk, h2]; exact tm, by rw [List.length_set]; omega⟩
      · have hd : upd G4 A (.dK (putK (rowK rows) (Sum.inl t.2.one) (V.ref p))) p = some (.lst []) := by
          rw [upd_ne (ne_of_none ad.dk hp).symm]
          exact j3
        have pA : p ≠ A := (ne_of_none ad.dk hp).symm
        have pr : ∀ r ∈ rows, p ≠ r.2.1 := fun r hr => (ne_of_none (ad.at' r hr) hp).symm
        have p0 := fresh_back e hp
        have hn' := rowK_none.mp hn
        refine ⟨.inl ⟨rfl, _, SqL.of hd⟩, _, rfl, p, _, _, rfl, rfl, hd, by show 0 < sizeLine; decide, ?_⟩
        exact ⟨_, rows ++ [(t.2.one, p, [t])], rfl, (e3.mut hA).mut p0, ad3.new hn' p0 pA pr ad3.dk, by rw [tk]; exact tl.new hn' p t, by rw [List.length_append]; exact Nat.succ_le_succ rl⟩
    · rintro σ G ⟨x2, rows, rfl, e, ad, tl, rl⟩
      rw [← hitl, List.take_length] at tl
      refine ⟨_, rfl, kQ G A e hA ⟨rowK rows, ad.dk, by unfold rowK; rw [List.length_map]; omega, fun i => ?_⟩⟩
      have eo : ∀ a : Int, (outs (its.map fun t => (t.2.one, t)) a) = its.filter fun t => decide (t.2.one = a) := fun a => by
        unfold outs
        rw [List.filter_map, List.map_map]
        show List.map id _ = _
        rw [List.map_id]
        rfl
      have es : ∀ a : Int, outS ss a = (its.filter fun t => decide (t.2.one = a)).map (·.2) := fun a => by
        unfold outS
        rw [ess, List.filter_map]
        rfl
      cases hv : valV (rowK rows) (Sum.inl i) with
      | none =>
        refine .inl ⟨rfl, ?_⟩
        rw [es, List.map_eq_nil_iff, List.filter_eq_nil_iff]
        intro t ht
        rw [decide_eq_true_eq]
        intro q
        obtain ⟨r, h1, h2⟩ := tl.all (t.2.one, t) (List.mem_map.mpr ⟨t, ht, rfl⟩)
        exact rowK_none.mp hv r h1 (h2.trans q)
      | some v =>
        obtain ⟨j, r, h1, h2, rfl⟩ := rowK_some hv
        have hm := mem_of_get h1
        have er := tl.row r hm
        rw [eo, h2] at er
        refine .inr ⟨r.2.1, _, rfl, ad.at' r hm, ?_, ?_⟩
        · rw [es, ← er]
          refine its_dpa fun t ht => ?_
          rw [er] at ht
          exact dp_ex e _ _ (hit t (List.mem_filter.mp ht).1)
        · rw [es, ← er]
          intro z
          exact tl.ne r hm (List.map_eq_nil_iff.mp z)
end
end AA

set_option Elab.async false
set_option linter.all false
set_option maxRecDepth 100000
set_option maxHeartbeats 4000000
/-! ring_back. -/
namespace AA
open PySem PySem.Spec PyProof.Rows L2 Evl
theorem back_at {cm : List (Int × St5)} {p : Int} : ∀ (L : List St5) (q : Int), BackCh cm q L p → ∀ (i : Nat) (s : St5), L[i]? = some s → (L[i + 1]? = none ∧ s.one = p) ∨ ∃ t, L[i + 1]? = some t ∧ gt cm s.one = some t
  | [], _, _, i, s, h => by simp at h
  | u :: L, q, hb, 0, s, h => by
    obtain rfl : u = s := by simpa using h
    cases L with
    | nil => exact .inl ⟨rfl, hb.2⟩
    | cons t L => exact .inr ⟨t, rfl, hb.2.1⟩
  | u :: L, q, hb, i + 1, s, h => by
    have h' : L[i]? = some s := by simpa using h
    have := back_at L u.one hb.2 i s h'
    rw [List.getElem?_cons_succ]
    exact this
theorem trl_step {cm : List (Int × St5)} {f : Nat} {seen : List Int} {p : Int} {s : St5} (h : gt cm p = some s) (hn : p ∉ seen) : trl cm (f + 1) seen p = trl cm f (seen ++ [p]) s.one := by
  show (match gt cm p with | none => (seen, p) | some s => if p ∈ seen then (seen, p) else trl cm f (seen ++ [p]) s.one) = _
  rw [h]
  show (if p ∈ seen then (seen, p) else trl cm f (seen ++ [p]) s.one) = _
  rw [if_neg hn]
theorem trl_stop {cm : List (Int × St5)} {seen : List Int} {p : Int} (h : gt cm p = none ∨ p ∈ seen) : ∀ f : Nat, trl cm f seen p = (seen, p)
  | 0 => rfl
  | f + 1 => by
    show (match gt cm p with | none => (seen, p) | some s => if p ∈ seen then (seen, p) else trl cm f (seen ++ [p]) s.one) = _
    cases hg : gt cm p with
    | none => rfl
    | some s =>
      show (if p ∈ seen then (seen, p) else trl cm f (seen ++ [p]) s.one) = _
      rw [if_pos (h.resolve_left (by rw [hg]; exact Option.some_ne_none s))]
theorem dpa_rev {K : PySem.W.Frag} {H : Hp} : ∀ {ys : List V} {ss : List St5}, DpAll K H ys (ss.map stD) → DpAll K H ys.reverse (ss.reverse.map stD)
  | ys, [], h => by
    cases h
    exact .nil
  | ys, s :: ss, h => by
    cases h with
    | cons h1 h2 =>
      rw [List.reverse_cons, List.reverse_cons, List.map_append]
      exact dpa_app (dpa_rev h2) (.cons h1 .nil)
section
variable {P : Program} {w : World} {K : PySem.W.Frag} {mg : Str → Option Value} {base : Heap}
def spRbk (K : PySem.W.Frag) : Sp := fun vs H Q _ => ∃ (C : Addr) (ov : Option Int) (kvs : List (Key × V)) (cm : List (Int × St5)), vs = [.ref C, oI ov] ∧ H C = some (.dK kvs) ∧ CmD K H kvs cm ∧ (∀ v s, gt cm v = some s → s.other = v) ∧ cm.length ≤ 63 ∧
  (ov = none → ∀ H', Ex H H' → Q .non H') ∧ ∀ v, ov = some v → (rbk cm v = none → ∀ H', Ex H H' → Q .non H') ∧ ∀ ws, rbk cm v = some ws → ∀ (H' : Hp) (p : Addr) (ys : List V), Ex H H' → H p = none → H' p = some (.lst ys) → DpAll K H ys (ws.map stD) → Q (.ref p) H'
abbrev nmRb : List Str := ["came", "place", "seen", "ring"]
theorem scRb : FnScope nmRb ["came", "place"] (defScope sRingBack) := ⟨rfl, rfl, rfl, by decide +kernel, rfl, by decide +kernel, by decide +kernel⟩
theorem ok_rbk {f : Addr} {fd : FuncData} (F : L2.Fun K "ring_back" "ring_back" sRingBack f fd) (B : Bn mg) (hrev : mg "reversed" = none) : FnOk P w K mg base CX0 1 f fd ["came", "place"] (spRbk K) := by
  refine F.ok scRb (fun vs H Q E h => ?_) (fun cdv Ar outer s H vs Q E hr h => ?_)
  · obtain ⟨C, ov, kvs, cm, rfl, _⟩ := h
    rfl
  · obtain ⟨C, ov, kvs, cm, rfl, hC, hcm, ho, hz, k0, kk⟩ := h
    have hu := hr.un
    have hu1 : (Ar.deeper (envOfC "ring_back" (defScope sRingBack) s.heap.objs.size f cdv)).units + 1 < cLine := by omega
    refine ⟨_, pss_cons (ps_set (i := 2) scRb.nd rfl (Or.inl rfl) pe_dnewK)
      (Evl.pss_cut (ps_while PassesOwn.never (PW.pt (pw_and (pt_cmp (pc_dinN hu1 (pv 1) (pv 0))) (pw_and1 (pt_cmp (pc_dnotin hu1 (pv 1) (pv 2))))))
          (pss_cons (ps_dput hu1 (pv 2) (pv 1) pe_bl (by rfl))
          (pss_one (ps_set (i := 1) scRb.nd rfl (Or.inl rfl) (pe_ix (r := rIxT K) ix_tup (pe_dget hu1 (pv 0) (pv 1) (fun _ _ => rfl)) pe_int (fun _ _ => rfl))))))
      (pss_cons (ps_if (pt_cmp (pc_dnotinN hu1 (pv 1) (pv 0))) (pss_one (ps_ret pe_non)) pss_nil)
      (pss_cons (ps_set (i := 3) scRb.nd rfl (Or.inl rfl) (pe_lst (pa_cons (pe_dget hu1 (pv 0) (pv 1) (fun _ _ => rfl)) pa_nil)))
      (Evl.pss_cut (ps_while PassesOwn.never (pt_cmpR op_ne (pe_ix (r := rIxT K) ix_tup (pe_ix (r := rIxL K) ix_list (pv 3) (pe_un un_neg pe_int) (fun _ _ => rfl)) pe_int (fun _ _ => rfl)) (pv 1) (nomark _))
          (pss_one (ps_expr (pe_bm PySem.F.plainAttrs_list PySem.F.slot_list_append PySem.F.type_list_append mt_append (pv 3) (pa_cons (pe_dget hu1 (pv 0) (pe_ix (r := rIxT K) ix_tup (pe_ix (r := rIxL K) ix_list (pv 3) (pe_un un_neg pe_int) (fun _ _ => rfl)) pe_int (fun _ _ => rfl)) (fun _ _ => rfl)) pa_nil)))))
      (pss_one (ps_ret (pe_listRev rfl (by rfl) B.list (by rfl) hrev (pv 3)))))))), ?_⟩
    intro D hD0
    have y1 := Ex.new (o := .dK []) hD0
    have j1 : upd H D (.dK []) D = some (.dK []) := upd_same
    have CD : C ≠ D := ne_of_none hC hD0
    generalize upd H D (.dK []) = G1 at y1 j1 ⊢
    have dC : ∀ {G : Hp} (q : Int), Ex H G → DGet G C (.int q) (valV kvs (Sum.inl q)) := fun q e => DGet.k (k := Sum.inl q) (e _ _ hC)
    cases ov with
    | none =>
      refine ⟨fun σ G => σ = [some (.ref C), some .non, some (.ref D), none] ∧ Ex H G, ?_, ?_⟩
      · refine ⟨fun mm σ G => σ = [some (.ref C), some .non, some (.ref D), none] ∧ Ex H G, ⟨0, rfl, y1⟩, ?_⟩
        rintro mm σ G ⟨rfl, e⟩
        exact ⟨_, rfl, _, rfl, .inr ⟨C, _, rfl, rfl, .inl (e _ _ hC), _, rfl, iteF ⟨rfl, e⟩⟩⟩
      rintro σ G ⟨rfl, e⟩
      exact ⟨_, rfl, _, rfl, .inr ⟨C, _, rfl, rfl, .inl (e _ _ hC), _, rfl, iteT (k0 rfl G e)⟩⟩
    | some v =>
    obtain ⟨kN, kS⟩ := kk v rfl
    refine ⟨fun σ G => ∃ (p : Int) (seen : List Int), σ = [some (.ref C), some (.int p), some (.ref D), none] ∧ Ex H G ∧ trl cm 64 [] v = (seen, p) ∧ Trl cm v seen p ∧ (gt cm p = none ∨ p ∈ seen), ?_, ?_⟩
    · refine ⟨fun mm σ G => ∃ (p : Int) (seen : List Int), σ = [some (.ref C), some (.int p), some (.ref D), none] ∧ mm = 64 - seen.length ∧ Ex H G ∧ G D = some (.dK (seenK seen)) ∧ trl cm 64 [] v = trl cm (64 - seen.length) seen p ∧ Trl cm v seen p, ⟨_, v, [], rfl, rfl, y1, j1, rfl, .nil⟩, ?_⟩
      rintro mm σ G ⟨p, seen, rfl, rfl, e, hD, et, tr⟩
      have hsl := tr.len
      refine ⟨_, rfl, _, rfl, .inl ⟨C, _, rfl, dC p e, ?_⟩⟩
      rcases hcm.val (p := p) with ⟨g1, g2⟩ | ⟨s, t, g1, g2, g3⟩
      · rw [g2]
        refine ⟨_, rfl, iteF ?_⟩
        exact ⟨p, seen, rfl, e, by rw [et, trl_stop (.inl g1)], tr, .inl g1⟩
      · rw [g2]
        refine ⟨_, rfl, iteT ⟨_, rfl, _, rfl, D, _, rfl, DGet.k (k := Sum.inl p) hD, ?_⟩⟩
        rw [seenK_val]
        by_cases hin : p ∈ seen
        · rw [if_pos hin]
          exact ⟨_, rfl, iteF ⟨p, seen, rfl, e, by rw [et, trl_stop (.inr hin)], tr, .inr hin⟩⟩
        · rw [if_neg hin]
          refine ⟨_, rfl, iteT ?_⟩
          have tr2 := tr.more ho g1 hin
          have hl2 := tr2.len
          rw [List.length_append, List.length_singleton] at hl2
          refine ⟨_, fun _ _ h => h, ?_⟩
          refine ⟨_, rfl, _, rfl, D, _, rfl, DPut.k (k := Sum.inl p) hD (by unfold seenK; rw [List.length_map]; exact sz_m (by omega)), ?_⟩
          have hk : putK (seenK seen) (Sum.inl p) (V.bl true) = seenK (seen ++ [p]) := seenK_new hin
          rw [hk]
          have e2 := e.mut (o := .dK (seenK (seen ++ [p]))) hD0
          obtain ⟨_, u, ez, p1, _⟩ := stD_inv g3
          cases ez
          refine ⟨_, rfl, _, rfl, C, _, rfl, by have := dC p e2; rw [g2] at this; exact this, t, _, 0, .int s.one, rfl, rfl, ex_t e2 p1, rfl, ?_⟩
          refine ⟨_, by rw [List.length_append, List.length_singleton]; omega, s.one, seen ++ [p], rfl, rfl, e2, upd_same, ?_, tr2⟩
          rw [et, List.length_append, List.length_singleton]
          have : 64 - seen.length = (64 - (seen.length + 1)) + 1 := by omega
          rw [this, trl_step g1 hin]
    rintro σ G ⟨p, seen, rfl, e, et, tr, hstop⟩
    have hsl := tr.len
    have er : rbk cm v = match gt cm p with | none => none | some s => some (rg cm p 64 s).reverse := by
      unfold rbk
      rw [et]
      try rfl
    refine ⟨_, rfl, _, rfl, .inl ⟨C, _, rfl, dC p e, ?_⟩⟩
    rcases hcm.val (p := p) with ⟨g1, g2⟩ | ⟨s, t, g1, g2, g3⟩
    · rw [g2]
      rw [g1] at er
      exact ⟨_, rfl, iteT (kN er G e)⟩
    rw [g2]
    refine ⟨_, rfl, iteF ?_⟩
    obtain ⟨s', L, h1, h2, h3, h4, h5⟩ := tr.ring ho (hstop.resolve_left (by rw [g1]; exact Option.some_ne_none s))
    rw [g1] at h1
    cases h1
    rw [g1] at er
    have er' : rbk cm v = some (s :: L).reverse := by
      rw [er]
      show some (rg cm p 64 s).reverse = _
      rw [rg_of ho 64 p s L h2 h3 (by rw [List.length_cons] at h5; omega)]
    have hMl : (s :: L).length ≤ 64 := by omega
    have hM0 : (s :: L)[0]? = some s := rfl
    have hal := back_at (s :: L) p h2
    generalize s :: L = M at h2 h4 h5 er' hMl hM0 hal
    refine ⟨_, rfl, _, rfl, C, _, rfl, by have := dC p e; rw [g2] at this; exact this, by show 1 ≤ sizeLine; decide, fun Rg hRg => ?_⟩
    have y2 := Ex.new (o := .lst [V.ref t]) hRg
    have j2 : upd G Rg (.lst [V.ref t]) Rg = some (.lst [V.ref t]) := upd_same
    have hRH := fresh_back e hRg
    generalize upd G Rg (.lst [V.ref t]) = G2 at y2 j2 ⊢
    refine ⟨fun σ G => ∃ (ys : List V), σ = [some (.ref C), some (.int p), some (.ref D), some (.ref Rg)] ∧ Ex H G ∧ G Rg = some (.lst ys) ∧ DpAll K H ys (M.map stD), ?_, ?_⟩
    · have hM1 : M.take 1 = [s] := by
        cases M with
        | nil => cases hM0
        | cons m M =>
          obtain rfl : m = s := by simpa using hM0
          rfl
      refine ⟨fun mm σ G => ∃ (i : Nat) (ys : List V), σ = [some (.ref C), some (.int p), some (.ref D), some (.ref Rg)] ∧ mm = M.length - i ∧ 1 ≤ i ∧ i ≤ M.length ∧ Ex H G ∧ G Rg = some (.lst ys) ∧ DpAll K H ys ((M.take i).map stD), ⟨_, 1, [.ref t], rfl, rfl, Nat.le_refl 1, get_len hM0, e.trans y2, j2, by rw [hM1]; exact .cons g3 .nil⟩, ?_⟩
      rintro mm σ G ⟨i, ys, rfl, rfl, i1, i2, e3, hR, hD⟩
      obtain ⟨x, hx⟩ : ∃ x, M[i - 1]? = some x := ⟨_, List.getElem?_eq_getElem (by omega)⟩
      have hl : (M.take i).getLast? = some x := by
        rw [List.getLast?_eq_getElem?, List.length_take, Nat.min_eq_left i2, List.getElem?_take, if_pos (by omega)]
        exact hx
      obtain ⟨b, hb1, hb2⟩ := last_at hD hl
      obtain ⟨_, u, ez, p1, _⟩ := stD_inv hb2
      cases ez
      have pe := ex_t e3 p1
      have hyl := sts_len hD
      rw [List.length_take, Nat.min_eq_left i2] at hyl
      refine ⟨_, rfl, _, rfl, Rg, ys, (-1 : Int), _, rfl, rfl, SqL.of hR, hb1, b, _, 0, .int x.one, rfl, rfl, pe, rfl, ?_⟩
      refine ⟨_, rfl, rfl, _, rfl, ?_⟩
      have hdec : decide (V.int x.one = V.int p) = decide (x.one = p) := decide_eq_decide.mpr ⟨fun z => by cases z; rfl, fun z => by rw [z]⟩
      rw [hdec]
      rcases hal (i - 1) x hx with ⟨q1, q2⟩ | ⟨y, q1, q2⟩
      · have hi : i = M.length := by
          have := List.getElem?_eq_none_iff.mp q1
          omega
        rw [q2, decide_eq_true rfl]
        refine iteF ?_
        subst hi
        rw [List.take_length] at hD
        exact ⟨ys, rfl, e3, hR, hD⟩
      · have hy : M[i]? = some y := by
          have : i - 1 + 1 = i := by omega
          rw [this] at q1
          exact q1
        have il := get_len hy
        have hne : x.one ≠ p := by
          have ho2 := ho _ _ q2
          intro z
          -- no later step of the ring begins where it began
          have h0 : s.other = p := ho p s g1
          have hnd := h4
          have e1 : (M.map (·.other))[0]? = some p := by rw [List.getElem?_map, hM0, ← h0]; rfl
          have e2 : (M.map (·.other))[i]? = some p := by rw [List.getElem?_map, hy, ← z, ← ho2]; rfl
          have := nodup_at hnd e1 e2
          omega
        rw [decide_eq_false hne]
        refine iteT ?_
        refine ⟨_, fun _ _ h => h, ?_⟩
        rcases hcm.val (p := x.one) with ⟨w1, _⟩ | ⟨y', t', w1, w2, w3⟩
        · rw [q2] at w1
          cases w1
        rw [q2] at w1
        cases w1
        refine ⟨_, rfl, .inl ⟨rfl, _, SqL.of hR⟩, ?_⟩
        refine ⟨_, rfl, _, rfl, _, rfl, Rg, ys, (-1 : Int), _, rfl, rfl, SqL.of hR, hb1, b, _, 0, .int x.one, rfl, rfl, pe, rfl, C, _, rfl, by have := dC x.one e3; rw [w2] at this; exact this, ?_⟩
        refine ⟨Rg, ys, _, rfl, rfl, hR, sz_m (by omega), ?_⟩
        refine ⟨_, by omega, i + 1, ys ++ [.ref t'], rfl, rfl, Nat.le_succ_of_le i1, il, e3.mut hRH, upd_same, ?_⟩
        have tk : (M.take (i + 1)).map stD = (M.take i).map stD ++ [stD y] := by
          rw [List.take_add_one, hy, List.map_append]
          rfl
        rw [tk]
        exact dpa_app hD (.cons w3 .nil)
    rintro σ G3 ⟨ys, rfl, e3, hR, hD⟩
    refine ⟨_, rfl, Rg, ys, rfl, SqL.of hR, fun q hq => ?_⟩
    refine kS _ er' _ q ys.reverse (e3.trans (Ex.new hq)) (fresh_back e3 hq) upd_same ?_
    exact dpa_rev hD
end
end AA

set_option Elab.async false
set_option linter.all false
set_option maxRecDepth 100000
set_option maxHeartbeats 4000000
/-! raised. -/
namespace AA
open PySem PySem.Spec PyProof.Rows L2 Evl
theorem omK_len (l : List (Int × Option Int)) : (omK l).length = l.length := by
  unfold omK
  rw [List.length_map]
theorem omK_val (p : Int) : ∀ l : List (Int × Option Int), valV (omK l) (Sum.inl p) = (gt l p).map oI
  | [] => rfl
  | e :: l => by
    by_cases h : e.1 = p
    · have h1 : valV (omK (e :: l)) (Sum.inl p) = some (oI e.2) := valV_pos (p := (Sum.inl e.1, oI e.2)) (by rw [h])
      have h2 : gt (e :: l) p = some e.2 := if_pos h
      rw [h1, h2]
      rfl
    · have h1 : valV (omK (e :: l)) (Sum.inl p) = valV (omK l) (Sum.inl p) := valV_neg (p := (Sum.inl e.1, oI e.2)) fun z => h (Sum.inl.inj z)
      have h2 : gt (e :: l) p = gt l p := if_neg h
      rw [h1, h2, omK_val p l]
theorem omK_put {p : Int} {x : Option Int} {l : List (Int × Option Int)} (hn : (l.map (·.1)).Nodup) : putK (omK l) (Sum.inl p) (oI x) = omK (put l p x) := by
  cases hg : gt l p with
  | none =>
    have hv : valV (omK l) (Sum.inl p) = none := by rw [omK_val, hg]; rfl
    rw [putK_new _ hv, put_new' hg]
    unfold omK
    rw [List.map_append]
    rfl
  | some o =>
    rw [put_map hn (by rw [hg]; rfl)]
    unfold putK
    rw [if_pos (by rw [valV_any, omK_val, hg]; rfl)]
    unfold omK
    rw [List.map_map, List.map_map]
    refine List.map_congr_left fun e _ => ?_
    show (if (Sum.inl e.1 : Key) = Sum.inl p then ((Sum.inl e.1 : Key), oI x) else (Sum.inl e.1, oI e.2)) = (Sum.inl (if e.1 = p then (p, x) else e).1, oI (if e.1 = p then (p, x) else e).2)
    by_cases q : e.1 = p
    · rw [if_pos (by rw [q]), if_pos q, q]
    · rw [if_neg (fun z => q (Sum.inl.inj z)), if_neg q]
theorem rai1_no {b : MS} {s : St5} (h : rai b.sm s = none) : rai1 b s = b := by
  unfold rai1
  rw [h]
theorem rai1_yes {b : MS} {s : St5} {x : Int} (h : rai b.sm s = some x) : rai1 b s = ⟨put b.sm s.other (some x), put b.cm s.other s, some s.other⟩ := by
  unfold rai1
  rw [h]
theorem rai1_len {b : MS} {s : St5} : (rai1 b s).sm.length ≤ b.sm.length + 1 ∧ (rai1 b s).cm.length ≤ b.cm.length + 1 := by
  unfold rai1
  split
  · exact ⟨Nat.le_succ _, Nat.le_succ _⟩
  · exact ⟨put_len _, put_len _⟩
section
variable {P : Program} {w : World} {K : PySem.W.Frag} {mg : Str → Option Value} {base : Heap}
def spRsd (K : PySem.W.Frag) : Sp := fun vs H Q _ => ∃ (p S C : Addr) (xs : List V) (ss : List St5) (b : MS) (kvs : List (Key × V)) (Z : Hp), vs = [.ref p, .ref S, .ref C] ∧ Ex Z H ∧ Z S = none ∧ Z C = none ∧ S ≠ C ∧ SqL K Z p xs ∧ DpAll K Z xs (ss.map stD) ∧ ss.length ≤ 1000000 ∧
  H S = some (.dK (omK b.sm)) ∧ H C = some (.dK kvs) ∧ CmD K Z kvs b.cm ∧ KOkM b ∧ b.sm.length ≤ 1000000 ∧ b.cm.length ≤ 1000000 ∧
  ∀ (H' : Hp) (kvs' : List (Key × V)), Ex Z H' → Ex2 S C H H' → H' S = some (.dK (omK (raiR ss b).sm)) → H' C = some (.dK kvs') → CmD K Z kvs' (raiR ss b).cm → Q (oI (raiR ss b).lt) H'
abbrev nmRs : List Str := ["steps", "most", "came", "late", "step", "stock", "behind"]
theorem scRs : FnScope nmRs ["steps", "most", "came"] (defScope sRaised) := ⟨rfl, rfl, rfl, by decide +kernel, rfl, by decide +kernel, by decide +kernel⟩
theorem ok_rsd {f : Addr} {fd : FuncData} (F : L2.Fun K "raised" "raised" sRaised f fd) : FnOk P w K mg base CX0 1 f fd ["steps", "most", "came"] (spRsd K) := by
  refine F.ok scRs (fun vs H Q E h => ?_) (fun cdv Ar outer s H vs Q E hr h => ?_)
  · obtain ⟨p, S, C, xs, ss, b, kvs, Z, rfl, _⟩ := h
    rfl
  · obtain ⟨p, S, C, xs, ss, b, kvs, Z, rfl, eZ, hSZ, hCZ, SC, hp, hD, hz, hS, hC, hcm, ko, hsz, hcz, kQ⟩ := h
    have hu := hr.un
    have hu1 : (Ar.deeper (envOfC "raised" (defScope sRaised) s.heap.objs.size f cdv)).units + 1 < cLine := by omega
    refine ⟨_, pss_cons (ps_set (i := 3) scRs.nd rfl (Or.inl rfl) pe_non)
      (Evl.pss_cut (ps_for PassesOwn.never rfl (pi_list (pv 0)) (pg_name (i := 4) scRs.nd rfl (.inl rfl))
          (pss_cons (ps_set (i := 5) scRs.nd rfl (Or.inl rfl) (pe_dget1 hu1 (pv 1) (pe_ix (r := rIxT K) ix_tup (pv 4) pe_int (fun _ _ => rfl)) ⟨by rfl, by rfl, by rfl, by rfl⟩))
          (pss_cons (ps_if (pt_cmp (pc_isN (pv 5))) (pss_one ps_continue) pss_nil)
          (pss_cons (ps_set (i := 6) scRs.nd rfl (Or.inl rfl) (pe_op op_add (pv 5) (pe_ix (r := rIxT K) ix_tup (pv 4) pe_int (fun _ _ => rfl))))
          (pss_cons (ps_if (pt_cmpR op_lt (pv 6) pe_int (nomark _)) (pss_one ps_continue) pss_nil)
          (pss_one (ps_if (PW.pt (pw_or (pt_cmp (pc_dnotin hu1 (pe_ix (r := rIxT K) ix_tup (pv 4) pe_int (fun _ _ => rfl)) (pv 1))) (pw_or1 (PW.pt (pw_and (pt_cmp (pc_notN (pe_dget hu1 (pv 1) (pe_ix (r := rIxT K) ix_tup (pv 4) pe_int (fun _ _ => rfl)) (fun _ _ => rfl)))) (pw_and1 (pt_cmpR op_lt (pe_dget hu1 (pv 1) (pe_ix (r := rIxT K) ix_tup (pv 4) pe_int (fun _ _ => rfl)) (fun _ _ => rfl)) (pv 6) (nomark _))))))))
              (pss_cons (ps_dput hu1 (pv 1) (pe_ix (r := rIxT K) ix_tup (pv 4) pe_int (fun _ _ => rfl)) (pv 6) (by rfl))
              (pss_cons (ps_dput hu1 (pv 2) (pe_ix (r := rIxT K) ix_tup (pv 4) pe_int (fun _ _ => rfl)) (pv 4) (by rfl))
              (pss_one (ps_set (i := 3) scRs.nd rfl (Or.inl rfl) (pe_ix (r := rIxT K) ix_tup (pv 4) pe_int (fun _ _ => rfl)))))) pss_nil)))))))
      (pss_one (ps_ret (pv 3)))), ?_⟩
    have hul := sts_len hD
    refine ⟨fun σ G => ∃ (x4 x5 x6 : Option V) (kvs' : List (Key × V)), σ = [some (.ref p), some (.ref S), some (.ref C), some (oI (raiR ss b).lt), x4, x5, x6] ∧ Ex Z G ∧ Ex2 S C H G ∧ G S = some (.dK (omK (raiR ss b).sm)) ∧ G C = some (.dK kvs') ∧ CmD K Z kvs' (raiR ss b).cm, ?_, ?_⟩
    · refine ⟨_, rfl, p, rfl, ⟨_, ex_l eZ hp⟩, ?_⟩
      refine for_list (K := K) (a := p) (xs := xs) (fun i σ G => ∃ (x4 x5 x6 : Option V) (kvs' : List (Key × V)) (bi : MS), bi = (ss.take i).foldl rai1 ⟨b.sm, b.cm, none⟩ ∧ σ = [some (.ref p), some (.ref S), some (.ref C), some (oI bi.lt), x4, x5, x6] ∧ Ex Z G ∧ Ex2 S C H G ∧ G S = some (.dK (omK bi.sm)) ∧ G C = some (.dK kvs') ∧ CmD K Z kvs' bi.cm ∧ KOkM bi ∧ bi.sm.length ≤ 1000000 + i ∧ bi.cm.length ≤ 1000000 + i) ?_ (fun i σ G _ ⟨_, _, _, _, _, _, _, e, _⟩ => ex_l e hp) ?_ ?_
      · exact ⟨none, none, none, kvs, _, rfl, rfl, eZ, Ex2.refl, hS, hC, hcm, ko, hsz, hcz⟩
      · rintro i x σ G hx ⟨x4, x5, x6, kvs', bi, ebi, rfl, e3, e4, hS3, hC3, hcm', ko', hsz', hcz'⟩
        obtain ⟨s, t, hs, rfl, ht⟩ := sts_get hD hx
        obtain ⟨_, u, ez, p1, _⟩ := stD_inv ht
        cases ez
        have il := get_len hs
        have tk : (ss.take (i + 1)).foldl rai1 ⟨b.sm, b.cm, none⟩ = rai1 bi s := by
          rw [List.take_add_one, hs, List.foldl_append, ← ebi]
          rfl
        have pe := ex_t e3 p1
        have dS : ∀ v : Int, DGet G S (.int v) ((gt bi.sm v).map oI) := fun v => by
          have z := DGet.k (k := Sum.inl v) hS3
          rw [omK_val] at z
          exact z
        have isD : IsD G S := .inl ⟨_, .inl hS3⟩
        refine ⟨_, rfl, S, rfl, isD, _, rfl, t, _, 0, .int s.one, rfl, rfl, pe, rfl, _, dS s.one, ?_⟩
        have skip : rai bi.sm s = none → ∀ (y5 y6 : Option V), ∃ (x4 x5 x6 : Option V) (kvs'' : List (Key × V)) (bj : MS), bj = (ss.take (i + 1)).foldl rai1 ⟨b.sm, b.cm, none⟩ ∧ [some (V.ref p), some (.ref S), some (.ref C), some (oI bi.lt), some (.ref t), y5, y6] = [some (V.ref p), some (.ref S), some (.ref C), some (oI bj.lt), x4, x5, x6] ∧ Ex Z G ∧ Ex2 S C H G ∧ G S = some (.dK (omK bj.sm)) ∧ G C = some (.dK kvs'') ∧ CmD K Z kvs'' bj.cm ∧ KOkM bj ∧ bj.sm.length ≤ 1000000 + (i + 1) ∧ bj.cm.length ≤ 1000000 + (i + 1) := fun hn y5 y6 =>
          ⟨_, y5, y6, kvs', bi, by rw [tk, rai1_no hn], rfl, e3, e4, hS3, hC3, hcm', ko', by omega, by omega⟩
        cases ha : gt bi.sm s.one with
        | none =>
          refine ⟨_, rfl, _, rfl, iteT ?_⟩
          exact skip (by unfold rai; rw [ha]) _ _
        | some oa =>
          cases oa with
          | none =>
            refine ⟨_, rfl, _, rfl, iteT ?_⟩
            exact skip (by unfold rai; rw [ha]) _ _
          | some a =>
            refine ⟨_, rfl, _, rfl, iteF ?_⟩
            refine ⟨_, rfl, _, rfl, t, _, 4, .int s.change, rfl, rfl, pe, rfl, _, _, rfl, rfl, ?_⟩
            refine ⟨_, rfl, _, _, rfl, rfl, _, rfl, dec_ite (fun z0 => ?_) (fun z0 => ?_)⟩
            · exact skip (by unfold rai; rw [ha]; show (if a + s.change < 0 then none else _) = none; rw [if_pos z0]) _ _
            have fin : ∀ {x : Int}, rai bi.sm s = some x → x = a + s.change → ∀ (G5 : Hp), G5 = upd (upd G S (.dK (putK (omK bi.sm) (Sum.inl s.other) (V.int (a + s.change))))) C (.dK (putK kvs' (Sum.inl s.other) (V.ref t))) →
                ∃ (x4 x5 x6 : Option V) (kvs'' : List (Key × V)) (bj : MS), bj = (ss.take (i + 1)).foldl rai1 ⟨b.sm, b.cm, none⟩ ∧ [some (V.ref p), some (.ref S), some (.ref C), some (.int s.other), some (.ref t), some (.int a), some (.int (a + s.change))] = [some (V.ref p), some (.ref S), some (.ref C), some (oI bj.lt), x4, x5, x6] ∧ Ex Z G5 ∧ Ex2 S C H G5 ∧ G5 S = some (.dK (omK bj.sm)) ∧ G5 C = some (.dK kvs'') ∧ CmD K Z kvs'' bj.cm ∧ KOkM bj ∧ bj.sm.length ≤ 1000000 + (i + 1) ∧ bj.cm.length ≤ 1000000 + (i + 1) := by
              rintro x hx rfl G5 rfl
              refine ⟨some (.ref t), some (.int a), some (.int (a + s.change)), putK kvs' (Sum.inl s.other) (V.ref t), rai1 bi s, tk.symm, ?_⟩
              have kn := ko'.one (s := s)
              have hl := rai1_len (b := bi) (s := s)
              rw [rai1_yes hx] at kn hl ⊢
              refine ⟨rfl, (e3.mut hSZ).mut hCZ, (e4.trans Ex2.fst).trans Ex2.snd, ?_, upd_same, hcm'.put ko'.2 ht, kn, by omega, by omega⟩
              rw [upd_ne SC, upd_same, ← omK_put ko'.1]
              rfl
            have kS : (omK bi.sm).length < sizeLine := by
              rw [omK_len]
              have : sizeLine = 16777216 := rfl
              omega
            have kC : kvs'.length < sizeLine := by
              rw [hcm'.len]
              have : sizeLine = 16777216 := rfl
              omega
            refine ⟨_, rfl, t, _, 1, .int s.other, rfl, rfl, pe, rfl, _, rfl, S, _, rfl, dS s.other, ?_⟩
            cases hc : gt bi.sm s.other with
            | none =>
              refine ⟨_, rfl, iteT (iteT ?_)⟩
              refine ⟨_, rfl, _, rfl, _, rfl, t, _, 1, .int s.other, rfl, rfl, pe, rfl, S, _, rfl, DPut.k (k := Sum.inl s.other) hS3 kS, ?_⟩
              refine ⟨_, rfl, _, rfl, _, rfl, t, _, 1, .int s.other, rfl, rfl, ex_t (e3.mut hSZ) p1, rfl, C, _, rfl, DPut.k (k := Sum.inl s.other) (by rw [upd_ne SC.symm]; exact hC3) kC, ?_⟩
              refine ⟨_, rfl, t, _, 1, .int s.other, rfl, rfl, ex_t ((e3.mut hSZ).mut hCZ) p1, rfl, ?_⟩
              exact fin (x := a + s.change) (by unfold rai; rw [ha]; show (if a + s.change < 0 then none else _) = _; rw [if_neg z0, hc]) rfl _ rfl
            | some oc =>
              refine ⟨_, rfl, iteF ?_⟩
              have gc := dS s.other
              rw [hc] at gc
              refine ⟨_, rfl, _, rfl, t, _, 1, .int s.other, rfl, rfl, pe, rfl, S, _, rfl, gc, ?_⟩
              cases oc with
              | none =>
                refine ⟨_, rfl, iteF (iteF ?_)⟩
                exact skip (by unfold rai; rw [ha]; show (if a + s.change < 0 then none else _) = _; rw [if_neg z0, hc]) _ _
              | some c =>
                refine ⟨_, rfl, iteT ?_⟩
                refine ⟨_, rfl, _, rfl, t, _, 1, .int s.other, rfl, rfl, pe, rfl, S, _, rfl, gc, _, rfl, _, _, rfl, rfl, _, rfl, ?_⟩
                refine dec_ite (fun z => ?_) (fun z => ?_)
                · refine ⟨_, rfl, _, rfl, _, rfl, t, _, 1, .int s.other, rfl, rfl, pe, rfl, S, _, rfl, DPut.k (k := Sum.inl s.other) hS3 kS, ?_⟩
                  refine ⟨_, rfl, _, rfl, _, rfl, t, _, 1, .int s.other, rfl, rfl, ex_t (e3.mut hSZ) p1, rfl, C, _, rfl, DPut.k (k := Sum.inl s.other) (by rw [upd_ne SC.symm]; exact hC3) kC, ?_⟩
                  refine ⟨_, rfl, t, _, 1, .int s.other, rfl, rfl, ex_t ((e3.mut hSZ).mut hCZ) p1, rfl, ?_⟩
                  exact fin (x := a + s.change) (by unfold rai; rw [ha]; show (if a + s.change < 0 then none else _) = _; rw [if_neg z0, hc]; show (if c < a + s.change then some (a + s.change) else none) = _; rw [if_pos z]) rfl _ rfl
                · exact skip (by unfold rai; rw [ha]; show (if a + s.change < 0 then none else _) = _; rw [if_neg z0, hc]; show (if c < a + s.change then some (a + s.change) else none) = _; rw [if_neg z]) _ _
      · rintro σ G ⟨x4, x5, x6, kvs', bi, ebi, rfl, e3, e4, hS3, hC3, hcm', _⟩
        rw [hul, List.take_length] at ebi
        subst ebi
        exact ⟨x4, x5, x6, kvs', rfl, e3, e4, hS3, hC3, hcm'⟩
    rintro σ G ⟨x4, x5, x6, kvs', rfl, e3, e4, hS3, hC3, hcm'⟩
    exact ⟨_, rfl, kQ G kvs' e3 e4 hS3 hC3 hcm'⟩
end
end AA

set_option Elab.async false
set_option linter.all false
set_option maxRecDepth 100000
set_option maxHeartbeats 4000000
/-! most_stocks. -/
namespace AA
open PySem PySem.Spec PyProof.Rows L2 Evl
theorem CmD.ex {K : PySem.W.Frag} {B B' : Hp} (e : Ex B B') : ∀ {kvs : List (Key × V)} {cm : List (Int × St5)}, CmD K B kvs cm → CmD K B' kvs cm
  | _, _, .nil => .nil
  | _, _, .cons h r => .cons (dp_ex e _ _ h) (r.ex e)
theorem CmD.drp {K : PySem.W.Frag} {B : Hp} {p : Int} : ∀ {kvs : List (Key × V)} {cm : List (Int × St5)}, CmD K B kvs cm → CmD K B (dropK kvs (Sum.inl p)) (drp cm p)
  | _, _, .nil => .nil
  | _, _, .cons (p := q) (s := s) (t := t) (kvs := kvs) (cm := cm) h r => by
    have ih := r.drp (p := p)
    by_cases e : q = p
    · have h1 : dropK ((Sum.inl q, V.ref t) :: kvs) (Sum.inl p) = dropK kvs (Sum.inl p) := List.filter_cons_of_neg (by simp [e])
      have h2 : AA.drp ((q, s) :: cm) p = AA.drp cm p := List.filter_cons_of_neg (by simp [e])
      rw [h1, h2]
      exact ih
    · have h1 : dropK ((Sum.inl q, V.ref t) :: kvs) (Sum.inl p) = (Sum.inl q, V.ref t) :: dropK kvs (Sum.inl p) := List.filter_cons_of_pos (by
        rw [decide_eq_true_eq]
        exact fun z => e (Sum.inl.inj z))
      have h2 : AA.drp ((q, s) :: cm) p = (q, s) :: AA.drp cm p := List.filter_cons_of_pos (by simpa using e)
      rw [h1, h2]
      exact .cons h ih
theorem drp_no {α : Type} {p : Int} {l : List (Int × α)} (h : gt l p = none) : drp l p = l := by
  unfold drp
  rw [List.filter_eq_self]
  intro e he
  rw [decide_eq_true_eq]
  exact gt_none h e he
def byO (sm : List (Int × Option Int)) (ks : List Int) : List (Int × Option Int) := ks.map fun k => (k, (gt sm k).getD none)
theorem byO_keys (sm : List (Int × Option Int)) (ks : List Int) : (byO sm ks).map (·.1) = ks := by
  unfold byO
  rw [List.map_map]
  exact List.map_id' ks
theorem byO_gt {sm : List (Int × Option Int)} {v : Int} : ∀ {ks : List Int}, gt (byO sm ks) v = if v ∈ ks then some ((gt sm v).getD none) else none
  | [] => rfl
  | k :: ks => by
    show (if k = v then some ((gt sm k).getD none) else gt (byO sm ks) v) = _
    by_cases q : k = v
    · rw [if_pos q, if_pos (by rw [q]; exact List.mem_cons_self), q]
    · rw [if_neg q, byO_gt (ks := ks)]
      by_cases m : v ∈ ks
      · rw [if_pos m, if_pos (List.mem_cons_of_mem _ m)]
      · rw [if_neg m, if_neg (fun z => (List.mem_cons.mp z).elim (fun y => q y.symm) m)]
theorem byO_all {sm : List (Int × Option Int)} {ks : List Int} (h : ∀ v, v ∈ ks ↔ v ∈ sm.map (·.1)) (v : Int) : gt (byO sm ks) v = gt sm v := by
  rw [byO_gt]
  cases hg : gt sm v with
  | none => rw [if_neg (fun z => by have := gt_mem.mpr ((h v).mp z); rw [hg] at this; cases this)]
  | some x =>
    rw [if_pos ((h v).mpr (gt_of hg))]
    rfl
theorem MOk.same {ss : List St5} {v0 s0 : Int} {l m : List (Int × Option Int)} (h : MOk ss v0 s0 l) (e : ∀ v, gt m v = gt l v) : MOk ss v0 s0 m :=
  ⟨fun v x hv => h.num v x (by rw [← e]; exact hv), fun v hv => h.inf v (by rw [← e]; exact hv), fun v y c => by rw [e]; exact h.all v y c⟩
section
variable {P : Program} {w : World} {K : PySem.W.Frag} {mg : Str → Option Value} {base : Heap}
def spMss (K : PySem.W.Frag) : Sp := fun vs H Q _ => ∃ (p : Addr) (v0 s0 : Int) (xs : List V) (ss : List St5) (U : List Int), vs = [.ref p, .int v0, .int s0] ∧ SqL K H p xs ∧ DpAll K H xs (ss.map stD) ∧ ss.length ≤ 100000 ∧ 0 ≤ s0 ∧ v0 ∈ U ∧ (∀ s ∈ ss, s.other ∈ U) ∧ U.length ≤ 63 ∧
  ∀ (H' : Hp) (t : Addr) (sm : List (Int × Option Int)), Ex H H' → H t = none → H' t = some (.dK (omK sm)) → MOk ss v0 s0 sm → (sm.map (·.1)).Nodup → (sm.map (·.1)).Pairwise (· ≤ ·) → sm.length ≤ 63 → Q (.ref t) H'
abbrev nmMs : List Str := ["steps", "place", "stock", "most", "came", "late", "ring", "end"]
theorem scMs : FnScope nmMs ["steps", "place", "stock"] (defScope sMostStocks) := ⟨rfl, rfl, rfl, by decide +kernel, rfl, by decide +kernel, by decide +kernel⟩
theorem ok_mss {f : Addr} {fd : FuncData} (F : L2.Fun K "most_stocks" "most_stocks" sMostStocks f fd) (B : Bn mg) (cL : C8.Cal P w K mg base 1 "raised" (spRsd K) []) (cR : C8.Cal P w K mg base 1 "ring_back" (spRbk K) []) (cC : C8.Cal P w K mg base 2 "come_to" (spComeTo K) []) : FnOk P w K mg base CX0 3 f fd ["steps", "place", "stock"] (spMss K) := by
  refine F.ok scMs (fun vs H Q E h => ?_) (fun cdv Ar outer s H vs Q E hr h => ?_)
  · obtain ⟨p, v0, s0, xs, ss, U, rfl, _⟩ := h
    rfl
  · obtain ⟨p, v0, s0, xs, ss, U, rfl, hp, hD, hz, h0, hvU, hOU, hU, kQ⟩ := h
    have hu := hr.un
    have hu1 : (Ar.deeper (envOfC "most_stocks" (defScope sMostStocks) s.heap.objs.size f cdv)).units + 1 < cLine := by omega
    refine ⟨_, pss_cons (ps_set (i := 3) scMs.nd rfl (Or.inr rfl) (pe_disp (pps_cons (pv 1) (pv 2) pps_nil) (by rfl) (by rfl) (by decide) (by decide)))
      (pss_cons (ps_set (i := 4) scMs.nd rfl (Or.inl rfl) pe_dnewK)
      (pss_cons (ps_set (i := 5) scMs.nd rfl (Or.inl rfl) (pv 1))
      (Evl.pss_cut (ps_while PassesOwn.never (pt_cmp (pc_notN (pv 5)))
          (pss_cons (ps_set (i := 5) scMs.nd rfl (Or.inl rfl) (C8.pe_c cL hr (by decide) (by rfl) (pa_cons (pv 0) (pa_cons (pv 3) (pa_cons (pv 4) pa_nil)))))
          (pss_cons (ps_set (i := 6) scMs.nd rfl (Or.inl rfl) (C8.pe_c cR hr (by decide) (by rfl) (pa_cons (pv 4) (pa_cons (pv 5) pa_nil))))
          (pss_one (ps_if (pt_cmp (pc_notN (pv 6))) (pss_one (ps_for PassesOwn.never rfl (pi_list (C8.pe_c cC hr (by decide) (by rfl) (pa_cons (pv 0) (pa_cons (pe_lst (pa_cons (pe_ix (r := rIxT K) ix_tup (pe_ix (r := rIxL K) ix_list (pv 6) pe_int (fun _ _ => rfl)) pe_int (fun _ _ => rfl)) pa_nil)) pa_nil)))) (pg_name (i := 7) scMs.nd rfl (.inl rfl))
              (pss_cons (ps_dput hu1 (pv 3) (pv 7) pe_non (by rfl))
              (pss_one (ps_expr (pe_dpop2 (pv 4) (pv 7) pe_non ⟨by rfl, by rfl, by rfl, by rfl⟩)))))) pss_nil)))))
      (pss_one (ps_ret (pe_dc (own := [("end", 7)]) (g := gName 7) (tt := tYes) (by rfl) scMs.nd (pi_list (pe_callB (r := rSrtD) (call_sortedDI (by rfl)) (by rfl) B.sorted boot_sorted (pa_cons (pv 3) pa_nil))) (blkOk_by (N := nmMs) (sc := defScope sMostStocks) (by decide +kernel)) (fun _ _ _ _ _ => pg_name (i := 7) scMs.nd rfl (Or.inl rfl)) (fun _ _ _ _ _ => pts_nil) (fun _ _ _ _ _ => pv 7) (fun _ _ _ _ _ => pe_dget (td := tVar 3) (ty := tVar 7) hu1 (pv 3) (pv 7) (fun _ _ => rfl)))))))), ?_⟩
    intro S hS0
    refine ⟨_, rfl, _, rfl, upd_same, [(Sum.inl v0, .int s0)], rfl, by show 1 ≤ 15; decide, ?_⟩
    have y1 := Ex.mut (o := .dK [(Sum.inl v0, .int s0)]) (Ex.new (o := .dK []) hS0) hS0
    have j1 : upd (upd H S (.dK [])) S (.dK [(Sum.inl v0, .int s0)]) S = some (.dK [(Sum.inl v0, .int s0)]) := upd_same
    show tSeq _ _ _ _ (upd (upd H S (.dK [])) S (.dK [(Sum.inl v0, .int s0)]))
    generalize upd (upd H S (.dK [])) S (.dK [(Sum.inl v0, .int s0)]) = G1 at y1 j1 ⊢
    intro C hC1
    have y2 := Ex.new (o := .dK []) hC1
    have j2 : upd G1 C (.dK []) C = some (.dK []) := upd_same
    have SC : S ≠ C := ne_of_none j1 hC1
    have hC0 := fresh_back y1 hC1
    have jS2 := y2 _ _ j1
    have y12 := y1.trans y2
    show tSeq _ _ _ _ (upd G1 C (.dK []))
    generalize upd G1 C (.dK []) = G2 at y2 j2 jS2 y12 ⊢
    refine ⟨_, rfl, ?_⟩
    have kU : ∀ {b : MS} {r : Int → Nat} {k i : Nat}, MInv ss v0 s0 b r k i → KOkM b → b.sm.length ≤ U.length ∧ b.cm.length ≤ U.length := fun h ko => h.few ko (h.inU hvU hOU)
    refine ⟨fun σ G => ∃ (x6 x7 : Option V) (sm : List (Int × Option Int)), σ = [some (.ref p), some (.int v0), some (.int s0), some (.ref S), some (.ref C), some .non, x6, x7] ∧ Ex H G ∧ G S = some (.dK (omK sm)) ∧ (sm.map (·.1)).Nodup ∧ sm.length ≤ 63 ∧ MOk ss v0 s0 sm, ?_, ?_⟩
    · refine ⟨fun mm σ G => ∃ (lo : Option Int) (x6 x7 : Option V) (kvs : List (Key × V)) (b : MS) (k : Nat), σ = [some (.ref p), some (.int v0), some (.int s0), some (.ref S), some (.ref C), some (oI lo), x6, x7] ∧ mm = nn U b.sm + (U.length + 1 - k) + (if lo.isSome = true then 1 else 0) ∧ Ex H G ∧ G S = some (.dK (omK b.sm)) ∧ G C = some (.dK kvs) ∧ CmD K H kvs b.cm ∧ KOkM b ∧ b.sm.length ≤ 63 ∧ b.cm.length ≤ 63 ∧ ((lo = none ∧ MOk ss v0 s0 b.sm) ∨ ∃ (v : Int) (r : Int → Nat), lo = some v ∧ MInv ss v0 s0 ⟨b.sm, b.cm, none⟩ r k 0 ∧ 1 ≤ k),
        ⟨_, some v0, none, none, [], ⟨[(v0, some s0)], [], none⟩, 1, rfl, rfl, y12, jS2, j2, .nil, ⟨List.nodup_cons.mpr ⟨by simp, .nil⟩, .nil⟩, (by show 1 ≤ 63; decide), (by show 0 ≤ 63; decide), .inr ⟨v0, _, rfl, .begin h0, Nat.le_refl 1⟩⟩, ?_⟩
      rintro mm σ G ⟨lo, x6, x7, kvs, b, k, rfl, rfl, e, hS, hC, cm, ko, l1, l2, h⟩
      rcases h with ⟨rfl, mok⟩ | ⟨v, r, rfl, iv, k1⟩
      · exact ⟨_, rfl, _, rfl, iteF ⟨x6, x7, b.sm, rfl, e, hS, ko.1, l1, mok⟩⟩
      refine ⟨_, rfl, _, rfl, iteT ⟨_, fun _ _ z => z, ?_⟩⟩
      refine ⟨_, rfl, _, rfl, _, rfl, p, S, C, xs, ss, b, kvs, H, rfl, e, hS0, hC0, SC, hp, hD, by omega, hS, hC, cm, ko, by omega, by omega, fun G3 kvs3 e3 x3 hS3 hC3 cm3 => ?_⟩
      obtain ⟨r', iv1⟩ := MInv.round (b := b) k1 iv
      have ko1 : KOkM (raiR ss b) := KOkM.fold ss _ ko
      have nn1 : nn U (raiR ss b).sm = nn U b.sm := nn_round
      generalize raiR ss b = b1 at hS3 hC3 cm3 iv1 ko1 nn1 ⊢
      have fw := kU iv1 ko1
      have hoc : ∀ v s, gt b1.cm v = some s → s.other = v := fun v s hv => (iv1.cm v s hv).2.1
      -- no ring
      have noR : (b1.lt = none ∨ ∃ v, b1.lt = some v ∧ rbk b1.cm v = none) → ∀ G4, Ex G3 G4 → ∃ (mj : Nat), mj < nn U b.sm + (U.length + 1 - k) + (if (some v).isSome = true then 1 else 0) ∧ ∃ (lo : Option Int) (x6 x7' : Option V) (kvs : List (Key × V)) (b' : MS) (k' : Nat), [some (V.ref p), some (.int v0), some (.int s0), some (.ref S), some (.ref C), some (oI b1.lt), some .non, x7] = [some (V.ref p), some (.int v0), some (.int s0), some (.ref S), some (.ref C), some (oI lo), x6, x7'] ∧ mj = nn U b'.sm + (U.length + 1 - k') + (if lo.isSome = true then 1 else 0) ∧ Ex H G4 ∧ G4 S = some (.dK (omK b'.sm)) ∧ G4 C = some (.dK kvs) ∧ CmD K H kvs b'.cm ∧ KOkM b' ∧ b'.sm.length ≤ 63 ∧ b'.cm.length ≤ 63 ∧ ((lo = none ∧ MOk ss v0 s0 b'.sm) ∨ ∃ (v : Int) (r : Int → Nat), lo = some v ∧ MInv ss v0 s0 ⟨b'.sm, b'.cm, none⟩ r k' 0 ∧ 1 ≤ k') := by
        intro hn G4 e4
        rcases hn with hl | ⟨v', hl, hr⟩
        · refine ⟨nn U b1.sm + (U.length + 1 - k) + 0, ?_, none, some .non, x7, kvs3, b1, k, by rw [hl], rfl, e3.trans e4, e4 _ _ hS3, e4 _ _ hC3, cm3, ko1, by omega, by omega, .inl ⟨rfl, iv1.done k1 hl⟩⟩
          rw [nn1]
          show _ < _ + 1
          omega
        · have lt := rbk_early iv1 (iv1.inU hvU hOU) hU hl (by omega) hr
          refine ⟨nn U b1.sm + (U.length + 1 - (k + 1)) + 1, ?_, some v', some .non, x7, kvs3, b1, k + 1, by rw [hl], rfl, e3.trans e4, e4 _ _ hS3, e4 _ _ hC3, cm3, ko1, by omega, by omega, .inr ⟨v', r', rfl, iv1.next k1, by omega⟩⟩
          rw [nn1]
          show _ < _ + 1
          omega
      refine ⟨_, rfl, _, rfl, C, b1.lt, kvs3, b1.cm, rfl, hC3, cm3.ex e3, hoc, by omega, fun hl G4 e4 => ?_, fun v' hl => ⟨fun hr G4 e4 => ?_, fun ws hr G4 rp ys e4 rp0 hrp hDr => ?_⟩⟩
      · obtain ⟨mj, hlt, h⟩ := noR (.inl hl) G4 e4
        exact ⟨_, rfl, _, rfl, iteF ⟨mj, hlt, h⟩⟩
      · obtain ⟨mj, hlt, h⟩ := noR (.inr ⟨v', hl, hr⟩) G4 e4
        exact ⟨_, rfl, _, rfl, iteF ⟨mj, hlt, h⟩⟩
      -- a ring
      refine ⟨_, rfl, _, rfl, iteT ?_⟩
      obtain ⟨q, x, y, z, zs', rfl, hq, hw, hws, gx, gy, hl2⟩ := rbk_gain iv1 (by omega) hr
      obtain ⟨t, ys', rfl, ht⟩ : ∃ t ys', ys = V.ref t :: ys' ∧ Dp K G3 (.ref t) (stD z) := by
        cases hDr with
        | cons h1 h2 =>
          obtain ⟨t, _, e, _, _⟩ := stD_inv h1
          exact ⟨t, _, by rw [e], by rw [← e]; exact h1⟩
      obtain ⟨_, u, ez, p1, _⟩ := stD_inv ht
      cases ez
      have pe := ex_t e4 p1
      refine ⟨_, rfl, _, rfl, rp, _, 0, .ref t, rfl, rfl, SqL.of hrp, atI_nat (j := 0) rfl, t, _, 0, .int z.one, rfl, rfl, pe, rfl, by show 1 ≤ sizeLine; decide, fun L hL => ?_⟩
      rw [hq]
      have y5 := Ex.new (o := .lst [.int q]) hL
      have j5 : upd G4 L (.lst [.int q]) L = some (.lst [.int q]) := upd_same
      generalize upd G4 L (.lst [.int q]) = G5 at y5 j5 ⊢
      have e5 := (e3.trans e4).trans y5
      have hqU : q ∈ U := iv1.inU hvU hOU q (by rw [gx]; rfl)
      refine ⟨p, L, xs, ss, [q], U, rfl, ex_l e5 hp, dpa_ex e5 _ _ hD, SqL.of j5, fun v hv => by rw [List.mem_singleton.mp hv]; exact hqU, hOU, by omega, hz, by show 1 ≤ 100000; decide, fun G6 Lz zs e6 Lz0 hLz znd zso hzs => ?_⟩
      refine ⟨Lz, rfl, ⟨_, SqL.of hLz⟩, ?_⟩
      have zlen : zs.length ≤ U.length := nd_len zs U znd fun v hv => Rch.in (fun v hv => by rw [List.mem_singleton.mp hv]; exact hqU) (fun a c hac => by
        obtain ⟨s, hs, _, rfl⟩ := edg_mem.mp hac
        exact hOU s hs) ((hzs v).mp hv)
      have e46 := y5.trans e6
      have hS6 := (e4.trans e46) _ _ hS3
      have hC6 := (e4.trans e46) _ _ hC3
      have hLzS : Lz ≠ S := fun z => by rw [z, hS6] at hLz; cases hLz
      have hLzC : Lz ≠ C := fun z => by rw [z, hC6] at hLz; cases hLz
      have e06 := (e3.trans e4).trans e46
      refine for_list (K := K) (a := Lz) (xs := zs.map V.int) (fun j σ G => ∃ (x7 : Option V) (kvs : List (Key × V)), σ = [some (.ref p), some (.int v0), some (.int s0), some (.ref S), some (.ref C), some (oI b1.lt), some (.ref rp), x7] ∧ Ex H G ∧ G Lz = some (.lst (zs.map V.int)) ∧ G S = some (.dK (omK (clS (zs.take j) b1.sm))) ∧ G C = some (.dK kvs) ∧ CmD K H kvs (clC (zs.take j) b1.cm) ∧ (clS (zs.take j) b1.sm).length ≤ 63 + j) ?_ (fun j σ G _ ⟨_, _, _, _, q, _⟩ => SqL.of q) ?_ ?_
      · exact ⟨x7, kvs3, rfl, e06, hLz, hS6, hC6, cm3, by show b1.sm.length ≤ 63 + 0; omega⟩
      · rintro j y σ G hy ⟨x7', kvs', rfl, g1, g2, g3, g4, g5, g6⟩
        obtain ⟨c, hc, rfl⟩ := get_ints hy
        have jl := get_len hc
        have tk : zs.take (j + 1) = zs.take j ++ [c] := by rw [List.take_add_one, hc]; rfl
        have cs : clS (zs.take (j + 1)) b1.sm = put (clS (zs.take j) b1.sm) c none := by
          unfold clS
          rw [tk, List.foldl_append]
          rfl
        have cc : clC (zs.take (j + 1)) b1.cm = drp (clC (zs.take j) b1.cm) c := by
          unfold clC
          rw [tk, List.foldl_append]
          rfl
        have nd1 : ((clS (zs.take j) b1.sm).map (·.1)).Nodup := clS_nd _ _ ko1.1
        have nd2 : ((clC (zs.take j) b1.cm).map (·.1)).Nodup := clC_nd _ _ ko1.2
        refine ⟨_, rfl, _, rfl, S, _, rfl, DPut.k (k := Sum.inl c) g3 (by rw [omK_len]; exact sz_m (by omega)), ?_⟩
        have hpk : putK (omK (clS (zs.take j) b1.sm)) (Sum.inl c) (oI none) = omK (put (clS (zs.take j) b1.sm) c none) := omK_put nd1
        rw [show putK (omK (clS (zs.take j) b1.sm)) (Sum.inl c) V.non = omK (put (clS (zs.take j) b1.sm) c none) from hpk, ← cs]
        have g1' := g1.mut (o := .dK (omK (clS (zs.take (j + 1)) b1.sm))) hS0
        have g4' : upd G S (.dK (omK (clS (zs.take (j + 1)) b1.sm))) C = some (.dK kvs') := by rw [upd_ne SC.symm]; exact g4
        have g3' : upd G S (.dK (omK (clS (zs.take (j + 1)) b1.sm))) S = some (.dK (omK (clS (zs.take (j + 1)) b1.sm))) := upd_same
        have g2' : upd G S (.dK (omK (clS (zs.take (j + 1)) b1.sm))) Lz = some (.lst (zs.map V.int)) := by rw [upd_ne hLzS]; exact g2
        generalize upd G S (.dK (omK (clS (zs.take (j + 1)) b1.sm))) = G' at g1' g2' g3' g4' ⊢
        have g6' : (clS (zs.take (j + 1)) b1.sm).length ≤ 63 + (j + 1) := by
          rw [cs]
          have := put_len (p := c) (x := (none : Option Int)) (clS (zs.take j) b1.sm)
          omega
        refine ⟨_, rfl, C, rfl, .inl ⟨_, .inl g4'⟩, _, rfl, kvs', Sum.inl c, g4', rfl, fun v hv => ?_, fun hv => ?_⟩
        · refine ⟨_, _, rfl, g1'.mut hC0, by rw [upd_ne hLzC]; exact g2', by rw [upd_ne SC]; exact g3', upd_same, ?_, g6'⟩
          rw [cc]
          exact g5.drp
        · refine ⟨_, kvs', rfl, g1', g2', g3', g4', ?_, g6'⟩
          rw [cc]
          rcases g5.val (p := c) with ⟨q1, _⟩ | ⟨s, t, _, q2, _⟩
          · rw [drp_no q1]
            exact g5
          · rw [q2] at hv
            cases hv
      · rintro σ G ⟨x7', kvs', rfl, g1, g2, g3, g4, g5, g6⟩
        rw [List.length_map, List.take_length] at g3 g5
        have ivc := iv1.clear k1 (by omega) hr rfl hq (zs := zs) hzs
        have koc : KOkM ⟨clS zs b1.sm, clC zs b1.cm, none⟩ := ⟨clS_nd _ _ ko1.1, clC_nd _ _ ko1.2⟩
        have fc := kU ivc koc
        have qz : q ∈ zs := (hzs q).mpr (.base (by simp))
        have lt := nn_clear (U := U) hqU qz gx
        have fc1 : (clS zs b1.sm).length ≤ U.length := fc.1
        have fc2 : (clC zs b1.cm).length ≤ U.length := fc.2
        refine ⟨nn U (clS zs b1.sm) + (U.length + 1 - (k + 1)) + 1, ?_, some v', some (.ref rp), x7', kvs', ⟨clS zs b1.sm, clC zs b1.cm, none⟩, k + 1, by rw [hl], rfl, g1, g3, g4, g5, koc, by show (clS zs b1.sm).length ≤ 63; omega, by show (clC zs b1.cm).length ≤ 63; omega, .inr ⟨v', r', rfl, ivc, by omega⟩⟩
        rw [nn1] at lt
        show _ < _ + 1
        omega
    rintro σ G ⟨x6, x7, sm, rfl, e, hS, kn, few, mok⟩
    refine ⟨_, rfl, S, omK sm, sm.map (·.1), rfl, .inl hS, ?_, by rw [List.length_map]; omega, fun ks p' pm so hp' => ?_⟩
    · unfold omK
      rw [List.map_map, List.map_map]
      rfl
    have y6 := Ex.new (o := .lst (ks.map V.int)) hp'
    have j6 : upd G p' (.lst (ks.map V.int)) p' = some (.lst (ks.map V.int)) := upd_same
    generalize upd G p' (.lst (ks.map V.int)) = G6 at y6 j6 ⊢
    have kd : ks.Nodup := pm.symm.nodup kn
    have km : ∀ v, v ∈ ks ↔ v ∈ sm.map (·.1) := fun v => pm.mem_iff
    have kl : ks.length ≤ 63 := by rw [pm.length_eq, List.length_map]; exact few
    refine ⟨p', rfl, ⟨_, SqL.of j6⟩, fun D hD0 => ?_⟩
    refine dc_list (xs := ks.map V.int) (fun i G7 => Ex G6 G7 ∧ G7 D = some (.dK (omK (byO sm (ks.take i))))) ⟨Ex.new hD0, upd_same⟩ (fun i G7 _ q => SqL.of (q.1 _ _ j6)) ?_ ?_
    · rintro i y G7 hy ⟨q1, q2⟩
      obtain ⟨c, hc, rfl⟩ := get_ints hy
      have il := get_len hc
      have tk : ks.take (i + 1) = ks.take i ++ [c] := by rw [List.take_add_one, hc]; rfl
      have hS7 := q1 _ _ (y6 _ _ hS)
      obtain ⟨xv, hxv⟩ : ∃ xv, gt sm c = some xv := by
        cases hg : gt sm c with
        | none =>
          have := gt_mem.mpr ((km c).mp (mem_of_get hc))
          rw [hg] at this
          cases this
        | some xv => exact ⟨xv, rfl⟩
      have hcn : c ∉ ks.take i := fun z => by
        obtain ⟨j, hj⟩ := List.getElem?_of_mem z
        have jl : j < i := by
          have := get_len hj
          rw [List.length_take] at this
          omega
        rw [List.getElem?_take, if_pos jl] at hj
        have := nodup_at kd hj hc
        omega
      refine ⟨rfl, _, rfl, _, rfl, _, rfl, S, _, rfl, by have z := DGet.k (k := Sum.inl c) hS7; rw [omK_val, hxv] at z; exact z, ?_⟩
      refine ⟨omK (byO sm (ks.take i)), Sum.inl c, rfl, q2, by rw [omK_len]; unfold byO; rw [List.length_map, List.length_take]; exact sz_m (by omega), q1.mut hD0, ?_⟩
      rw [upd_same, omK_put (by rw [byO_keys]; exact kd.sublist (List.take_sublist _ _)), put_new' (by rw [byO_gt, if_neg hcn]), tk]
      unfold byO
      rw [List.map_append]
      show some (HO.dK (omK (_ ++ [(c, xv)]))) = some (HO.dK (omK (_ ++ [(c, (gt sm c).getD none)])))
      rw [hxv]
      rfl
    · rintro G7 ⟨q1, q2⟩
      rw [List.length_map, List.take_length] at q2
      have eG := e.trans (y6.trans q1)
      refine kQ G7 D (byO sm ks) eG (fresh_back (e.trans y6) hD0) q2 (mok.same (byO_all km)) (by rw [byO_keys]; exact kd) (by rw [byO_keys]; exact so) ?_
      unfold byO
      rw [List.length_map]
      exact kl
end
end AA

set_option Elab.async false
set_option linter.all false
set_option maxRecDepth 100000
set_option maxHeartbeats 4000000
/-! comes_back. -/
namespace AA
open PySem PySem.Spec PyProof.Rows L2 Evl
theorem can_bck {ss : List St5} {s : St5} {v y : Int} (hs : s ∈ ss) (hv : s.other = v) (h : Can ss v 0 s.one y) (h0 : 0 ≤ y + s.change) : Bck ss v := by
  obtain ⟨L, w1, w2, hg⟩ := h
  refine ⟨L ++ [s], y + s.change, by simp, (wlk5_app _ _ _ _).mpr ⟨s.one, w1, rfl, hv⟩, fun t ht => (List.mem_append.mp ht).elim (w2 t) fun z => by rw [List.mem_singleton.mp z]; exact hs, ?_⟩
  rw [gon_app, hg]
  show (if y + s.change < 0 then none else gon (y + s.change) []) = _
  rw [if_neg (by omega)]
  rfl
theorem bck_can {ss : List St5} {v : Int} (h : Bck ss v) : ∃ s y, s ∈ ss ∧ s.other = v ∧ Can ss v 0 s.one y ∧ 0 ≤ y + s.change := by
  obtain ⟨L, y, ne, w1, w2, hg⟩ := h
  obtain ⟨L', s, rfl⟩ : ∃ L' s, L = L' ++ [s] := ⟨L.dropLast, L.getLast ne, (List.dropLast_concat_getLast ne).symm⟩
  obtain ⟨m, g1, g2, g3⟩ := (wlk5_app v L' [s] v).mp w1
  rw [gon_app] at hg
  cases hz : gon 0 L' with
  | none =>
    rw [hz] at hg
    cases hg
  | some z =>
    rw [hz] at hg
    have hg' : (if z + s.change < 0 then none else gon (z + s.change) []) = some y := hg
    by_cases q : z + s.change < 0
    · rw [if_pos q] at hg'
      cases hg'
    · exact ⟨s, z, w2 s (by simp), g3, ⟨L', by rw [g2]; exact g1, fun t ht => w2 t (List.mem_append_left _ ht), hz⟩, by omega⟩
section
variable {P : Program} {w : World} {K : PySem.W.Frag} {mg : Str → Option Value} {base : Heap}
def spCbk (K : PySem.W.Frag) : Sp := fun vs H Q _ => ∃ (p : Addr) (v : Int) (xs : List V) (ss : List St5) (U : List Int), vs = [.ref p, .int v] ∧ SqL K H p xs ∧ DpAll K H xs (ss.map stD) ∧ ss.length ≤ 100000 ∧ v ∈ U ∧ (∀ s ∈ ss, s.other ∈ U) ∧ U.length ≤ 63 ∧
  ∀ (H' : Hp) (b : Bool), Ex H H' → (b = true ↔ Bck ss v) → Q (.bl b) H'
abbrev nmCb : List Str := ["steps", "place", "most", "step", "stock"]
theorem scCb : FnScope nmCb ["steps", "place"] (defScope sComesBack) := ⟨rfl, rfl, rfl, by decide +kernel, rfl, by decide +kernel, by decide +kernel⟩
theorem ok_cbk {f : Addr} {fd : FuncData} (F : L2.Fun K "comes_back" "comes_back" sComesBack f fd) (cM : C8.Cal P w K mg base 3 "most_stocks" (spMss K) []) : FnOk P w K mg base CX0 4 f fd ["steps", "place"] (spCbk K) := by
  refine F.ok scCb (fun vs H Q E h => ?_) (fun cdv Ar outer s H vs Q E hr h => ?_)
  · obtain ⟨p, v, xs, ss, U, rfl, _⟩ := h
    rfl
  · obtain ⟨p, v, xs, ss, U, rfl, hp, hD, hz, hvU, hOU, hU, kQ⟩ := h
    have hu := hr.un
    have hu1 : (Ar.deeper (envOfC "comes_back" (defScope sComesBack) s.heap.objs.size f cdv)).units + 1 < cLine := by omega
    refine ⟨_, pss_cons (ps_set (i := 2) scCb.nd rfl (Or.inl rfl) (C8.pe_c cM hr (by decide) (by rfl) (pa_cons (pv 0) (pa_cons (pv 1) (pa_cons pe_int pa_nil)))))
      (pss_cons (ps_for PassesOwn.never rfl (pi_list (pv 0)) (pg_name (i := 3) scCb.nd rfl (.inl rfl))
          (pss_one (ps_if (PW.pt (pw_and (pt_cmpR op_eq (pe_ix (r := rIxT K) ix_tup (pv 3) pe_int (fun _ _ => rfl)) (pv 1) (nomark _)) (pw_and1 (pt_cmp (pc_din hu1 (pe_ix (r := rIxT K) ix_tup (pv 3) pe_int (fun _ _ => rfl)) (pv 2))))))
            (pss_cons (ps_set (i := 4) scCb.nd rfl (Or.inl rfl) (pe_dget hu1 (pv 2) (pe_ix (r := rIxT K) ix_tup (pv 3) pe_int (fun _ _ => rfl)) (fun _ _ => rfl)))
            (pss_one (ps_if (PW.pt (pw_or (pt_cmp (pc_isN (pv 4))) (pw_or1 (pt_cmpR op_ge (pe_op op_add (pv 4) (pe_ix (r := rIxT K) ix_tup (pv 3) pe_int (fun _ _ => rfl))) pe_int (nomark _))))) (pss_one (ps_ret pe_bl)) pss_nil))) pss_nil)))
      (pss_one (ps_ret pe_bl))), ?_⟩
    have hul := sts_len hD
    refine ⟨_, rfl, _, rfl, p, v, 0, xs, ss, U, rfl, hp, hD, hz, Int.le_refl 0, hvU, hOU, hU, fun G1 t sm e1 t0 ht mok kn _ _ => ?_⟩
    refine ⟨_, rfl, p, rfl, ⟨_, ex_l e1 hp⟩, ?_⟩
    refine for_list (K := K) (a := p) (xs := xs) (fun i σ G => ∃ (x3 x4 : Option V), σ = [some (.ref p), some (.int v), some (.ref t), x3, x4] ∧ Ex G1 G ∧ ∀ s ∈ ss.take i, s.other = v → gt sm s.one ≠ some none ∧ ∀ x, gt sm s.one = some (some x) → x + s.change < 0) ⟨none, none, rfl, Ex.refl _, fun s hs => absurd hs (by simp)⟩ (fun i σ G _ ⟨_, _, _, e, _⟩ => ex_l (e1.trans e) hp) ?_ ?_
    · rintro i x σ G hx ⟨x3, x4, rfl, e, hno⟩
      obtain ⟨s, b, hs, rfl, hb⟩ := sts_get hD hx
      obtain ⟨_, u, ez, p1, _⟩ := stD_inv hb
      cases ez
      have pe := ex_t (e1.trans e) p1
      have hm : s ∈ ss := mem_of_get hs
      have tk : ∀ t, t ∈ ss.take (i + 1) → t ∈ ss.take i ∨ t = s := fun t ht => by
        rw [List.take_add_one, hs] at ht
        exact (List.mem_append.mp ht).imp id fun z => by simpa using z
      have dS : ∀ v : Int, DGet G t (.int v) ((gt sm v).map oI) := fun v => by
        have z := DGet.k (k := Sum.inl v) (e _ _ ht)
        rw [omK_val] at z
        exact z
      have go : (s.other = v → gt sm s.one ≠ some none ∧ ∀ x, gt sm s.one = some (some x) → x + s.change < 0) → ∀ t ∈ ss.take (i + 1), t.other = v → gt sm t.one ≠ some none ∧ ∀ x, gt sm t.one = some (some x) → x + t.change < 0 := fun h t ht hv => by
        rcases tk t ht with z | rfl
        · exact hno t z hv
        · exact h hv
      refine ⟨_, rfl, b, _, 1, .int s.other, rfl, rfl, pe, rfl, _, rfl, rfl, _, rfl, ?_⟩
      by_cases q : s.other = v
      · rw [decide_eq_true (by rw [q])]
        refine iteT ⟨_, rfl, b, _, 0, .int s.one, rfl, rfl, pe, rfl, _, rfl, t, _, rfl, dS s.one, ?_⟩
        cases hg : gt sm s.one with
        | none =>
          refine ⟨_, rfl, iteF ⟨_, _, rfl, e, go fun _ => ⟨by rw [hg]; exact (fun z => nomatch z), fun x hx => (by rw [hg] at hx; cases hx)⟩⟩⟩
        | some o =>
          have g := dS s.one
          rw [hg] at g
          refine ⟨_, rfl, iteT ?_⟩
          refine ⟨_, rfl, _, rfl, b, _, 0, .int s.one, rfl, rfl, pe, rfl, t, _, rfl, g, ?_⟩
          cases o with
          | none =>
            refine ⟨_, rfl, _, rfl, iteT (kQ G true (e1.trans e) ⟨fun _ => ?_, fun _ => rfl⟩)⟩
            obtain ⟨y, hy, hc⟩ := mok.inf s.one hg s.change.natAbs
            exact can_bck hm q hc (by omega)
          | some x =>
            refine ⟨_, rfl, _, rfl, iteF ?_⟩
            refine ⟨_, rfl, _, rfl, b, _, 4, .int s.change, rfl, rfl, pe, rfl, _, _, rfl, rfl, _, _, rfl, rfl, _, rfl, dec_ite (fun z => ?_) (fun z => ?_)⟩
            · exact kQ G true (e1.trans e) ⟨fun _ => can_bck hm q (mok.num _ _ hg).2 z, fun _ => rfl⟩
            · exact ⟨_, _, rfl, e, go fun _ => ⟨by rw [hg]; exact (fun z => nomatch z), fun x' hx => (by rw [hg] at hx; cases hx; omega)⟩⟩
      · rw [decide_eq_false (fun z => q (V.int.inj z))]
        exact iteF (iteF ⟨_, _, rfl, e, go fun z => absurd z q⟩)
    · rintro σ G ⟨x3, x4, rfl, e, hno⟩
      rw [hul, List.take_length] at hno
      refine kQ G false (e1.trans e) ⟨(fun z => by cases z), fun hb => ?_⟩
      obtain ⟨s, y, hm, hv, hc, h0⟩ := bck_can hb
      obtain ⟨n1, n2⟩ := hno s hm hv
      rcases mok.all s.one y hc with z | ⟨x, z, z2⟩
      · exact absurd z n1
      · have := n2 x z
        omega
end
end AA

set_option Elab.async false
set_option linter.all false
set_option maxRecDepth 100000
set_option maxHeartbeats 4000000
/-! Coming back stays within a lot; the needs from which the least stocks are raised. -/
namespace AA
open PySem PySem.Spec PyProof.Rows L2 Evl
theorem wlk_to {ss : List St5} : ∀ {L : List St5} {v u : Int}, Wlk5 v L u → (∀ s ∈ L, s ∈ ss) → To (edg ss) v u
  | [], v, u, h, _ => by
    have e : v = u := h
    rw [e]
    exact To.refl u
  | s :: L, v, u, h, hs => by
    obtain ⟨rfl, h2⟩ := h
    exact To.trans (.step (To.refl _) (List.mem_map.mpr ⟨s, hs s List.mem_cons_self, rfl⟩)) (wlk_to h2 fun t ht => hs t (List.mem_cons_of_mem _ ht))
theorem ring_sm {ss L : List St5} {v : Int} (h : Wlk5 v L v) (hs : ∀ s ∈ L, s ∈ ss) : ∀ s ∈ L, Sm2 (edg ss) v s.one ∧ Sm2 (edg ss) v s.other := fun s hm => by
  obtain ⟨A, B, rfl⟩ := List.append_of_mem hm
  obtain ⟨m, h1, h2, h3⟩ := (wlk5_app v A (s :: B) v).mp h
  have a := wlk_to h1 fun t ht => hs t (List.mem_append_left _ ht)
  have b := wlk_to h3 fun t ht => hs t (List.mem_append_right _ (List.mem_cons_of_mem _ ht))
  have e : To (edg ss) s.one s.other := .step (To.refl _) (List.mem_map.mpr ⟨s, hs s hm, rfl⟩)
  subst h2
  exact ⟨⟨a, e.trans b⟩, ⟨a.trans e, b⟩⟩
theorem some_least {p : Int → Prop} : ∀ {l : List Int} {x : Int}, x ∈ l → p x → ∃ m, p m ∧ ∀ y ∈ l, p y → m ≤ y
  | a :: l, x, hx, hp => by
    by_cases q : ∃ y ∈ l, p y
    · obtain ⟨y, hy, py⟩ := q
      obtain ⟨m, pm, hm⟩ := some_least hy py
      by_cases pa : p a ∧ a < m
      · refine ⟨a, pa.1, fun z hz pz => ?_⟩
        rcases List.mem_cons.mp hz with rfl | hz
        · exact Int.le_refl _
        · have := hm z hz pz
          omega
      · refine ⟨m, pm, fun z hz pz => ?_⟩
        rcases List.mem_cons.mp hz with rfl | hz
        · exact Int.not_lt.mp fun lt => pa ⟨pz, lt⟩
        · exact hm z hz pz
    · refine ⟨x, hp, fun z hz pz => ?_⟩
      have e1 : z = a := (List.mem_cons.mp hz).elim id fun h => absurd ⟨z, h, pz⟩ q
      have e2 : x = a := (List.mem_cons.mp hx).elim id fun h => absurd ⟨x, h, hp⟩ q
      rw [e1, e2]
      exact Int.le_refl _
/-- the lot of a place to which one comes back -/
theorem bck_row {ss : List St5} {U : List Int} {ps : List Int} {L : List (List Int)} (hU : ∀ s ∈ ss, s.one ∈ U ∧ s.other ∈ U) (R : LotsR ss ps L) {v : Int} (h : Bck ss v) : v ∈ U ∧ ∃ (i : Nat) (zs : List Int), L[i]? = some zs ∧ v ∈ zs := by
  obtain ⟨W, y, ne, w1, w2, hg⟩ := h
  obtain ⟨s, W', rfl⟩ : ∃ s W', W = s :: W' := by
    cases W with
    | nil => exact absurd rfl ne
    | cons s W' => exact ⟨s, W', rfl⟩
  have hv : s.one = v := w1.1
  have hs := w2 s List.mem_cons_self
  obtain ⟨s1, s2⟩ := ring_sm w1 w2 s List.mem_cons_self
  have vU : v ∈ U := by rw [← hv]; exact (hU s hs).1
  obtain ⟨p, hp, hm⟩ := some_least (p := fun x => Sm2 (edg ss) v x) vU (Sm2.refl v)
  have F : Fst ss p := ⟨fun q hq => by
    have vq := hp.trans hq
    by_cases e : q = v
    · rw [e]
      exact hm v vU (Sm2.refl v)
    · obtain ⟨t, g1, g2⟩ := vq.2.nmd e
      exact hm q (g2.elim (fun z => z ▸ (hU t g1).1) (fun z => z ▸ (hU t g1).2)) vq, s, hs, hp.symm.trans s1, hp.symm.trans s2⟩
  obtain ⟨i, hi⟩ := List.getElem?_of_mem ((R.m p).mpr F)
  have il : i < L.length := by rw [R.len]; exact (List.getElem?_eq_some_iff.mp hi).1
  have hz : L[i]? = some L[i] := List.getElem?_eq_getElem il
  exact ⟨vU, i, L[i], hz, ((R.at' i p _ hi hz).m v).mpr hp.symm⟩
theorem bck_in {ss ws : List St5} {p : Int} {zs : List Int} (Z : LotL (edg ss) p zs) (hw : ∀ s, s ∈ ws ↔ s ∈ ss ∧ s.one ∈ zs ∧ s.other ∈ zs) {v : Int} (hv : v ∈ zs) : Bck ws v ↔ Bck ss v := by
  constructor
  · rintro ⟨L, y, ne, w1, w2, hg⟩
    exact ⟨L, y, ne, w1, fun s hs => ((hw s).mp (w2 s hs)).1, hg⟩
  · rintro ⟨L, y, ne, w1, w2, hg⟩
    refine ⟨L, y, ne, w1, fun s hs => (hw s).mpr ?_, hg⟩
    obtain ⟨s1, s2⟩ := ring_sm w1 w2 s hs
    have hp := (Z.m v).mp hv
    exact ⟨w2 s hs, (Z.m _).mpr (hp.trans s1), (Z.m _).mpr (hp.trans s2)⟩
/-- needs so far: nothing, where one comes back -/
structure NZero (ss : List St5) (nd : List (Int × Int)) : Prop where
  kn : (nd.map (·.1)).Nodup
  z : ∀ v x, gt nd v = some x → x = 0 ∧ Bck ss v
theorem NZero.nil {ss : List St5} : NZero ss [] := ⟨.nil, fun v x h => by cases h⟩
theorem NZero.put {ss : List St5} {nd : List (Int × Int)} (h : NZero ss nd) {v : Int} (hv : Bck ss v) : NZero ss (put nd v 0) := ⟨put_nd h.kn, fun u x hx => by
  rw [gt_put] at hx
  by_cases q : v = u
  · rw [if_pos q] at hx
    cases hx
    exact ⟨rfl, q ▸ hv⟩
  · rw [if_neg q] at hx
    exact h.z u x hx⟩
theorem bck_one {ss : List St5} {v : Int} (h : Bck ss v) : ∃ s ∈ ss, s.one = v := by
  obtain ⟨W, y, ne, w1, w2, hg⟩ := h
  cases W with
  | nil => exact absurd rfl ne
  | cons s W' => exact ⟨s, w2 s List.mem_cons_self, w1.1⟩
theorem NZero.few {ss : List St5} {U : List Int} {nd : List (Int × Int)} (h : NZero ss nd) (hU : ∀ s ∈ ss, s.one ∈ U) : nd.length ≤ U.length := by
  have := nd_len (nd.map (·.1)) U h.kn fun q hq => by
    have hg := gt_mem.mpr hq
    obtain ⟨x, hx⟩ := Option.isSome_iff_exists.mp hg
    obtain ⟨s, h1, h2⟩ := bck_one (h.z q x hx).2
    rw [← h2]
    exact hU s h1
  rw [List.length_map] at this
  exact this
theorem NZero.inv {ss : List St5} {U : List Int} {nd : List (Int × Int)} (h : NZero ss nd) (hU : ∀ s ∈ ss, s.one ∈ U) (all : ∀ v, Bck ss v → gt nd v = some 0) : NInv ss U nd := by
  refine ⟨fun v x hx => ?_, all, h.kn, fun v hv => ?_, fun v x hx => ?_⟩
  · obtain ⟨rfl, hb⟩ := h.z v x hx
    exact ⟨Int.le_refl 0, bck_for hb⟩
  · obtain ⟨x, hx⟩ := Option.isSome_iff_exists.mp hv
    obtain ⟨s, h1, h2⟩ := bck_one (h.z v x hx).2
    rw [← h2]
    exact hU s h1
  · rw [(h.z v x hx).1]
    omega
end AA

set_option Elab.async false
set_option linter.all false
set_option maxRecDepth 100000
set_option maxHeartbeats 4000000
/-! try with several clauses, each 'as' the same name. -/
namespace AA
open PySem PySem.Spec PyProof.Rows L2
/-- behind a clause its name is gone -/
def clr (i : Nat) (D : Ends) : Ends := ⟨fun τ G => D.nx (τ.set i none) G, D.rt, fun τ G => D.bk (τ.set i none) G, fun τ G => D.ct (τ.set i none) G⟩
abbrev Cl := Value × (Addr → Value → Option Addr → TS)
/-- what the clauses wish, one after the other; slot i is the name's -/
def wAll (K : PySem.W.Frag) (i : Nat) (Wo : WX) (D : Ends) : List Cl → WX
  | [] => Wo
  | p :: r => fun cv dv τ G => ∃ hit, PySem.W.exmOne K cv p.1 = some hit ∧ (hit = true → ∀ ea, G ea = none → p.2 ea cv dv (clr i D) (τ.set i (some (.ref ea))) G) ∧ (hit = false → wAll K i Wo D r cv dv τ G)
inductive ClsOk (X : Cx) (nm : Str) : List ExceptHandler → List Cl → Prop
  | nil : ClsOk X nm [] []
  | cons {cn : Str} {cv : Value} {ts : Addr → Value → Option Addr → TS} {st : Stmt} {sts : List Stmt} {p1 p2 : Pos} {hs : List ExceptHandler} {l : List Cl} (nc : Names X cn cv)
      (su : ∀ (ea : Addr) (eo : Obj) (tv : Value) (dv : Option Addr) (pn : List (Addr × Obj)), Zc tv dv eo → (∃ vs, eo.data = .fields vs) → PSs (X.suite ea ((ea, eo) :: pn)) (st :: sts) (ts ea tv dv)) (more : ClsOk X nm hs l) :
      ClsOk X nm (.ExceptHandler (some (.Name cn p1)) (some nm) (st :: sts) p2 :: hs) ((cv, ts) :: l)
section
variable {X : Cx} {nm : Str} {i : Nat} {body : List Stmt} {h1 : ExceptHandler} {hr : List ExceptHandler} {l : List Cl} {pos : Pos} {tb : WX → TS} {Wo : WX}
theorem ps_tryAs (stk : X.stack = X.env :: X.outer) (frm : X.env.frame = some X.env.locals) (nod : X.N.Nodup) (at_ : X.N[i]? = some nm) (loc : X.env.kindOf nm = some .local) (tk : Takes X Wo)
    (bd : ∀ (W : WX) (pn : List (Addr × Obj)) (xe : Value → Shared → Prop), Takes (X.tr pn xe) W → PassesOwn (model X.prog X.w) X.A X.env xe → PSs (X.tr pn xe) body (tb W))
    (cs : ClsOk X nm (h1 :: hr) l) : PS X (.Try body (h1 :: hr) [] [] pos) (fun D τ G => tb (wAll X.K i Wo D l) D τ G) := by
  refine ⟨fun pins s τ G D I hh => ?_⟩
  have okX := I.ok
  have frs_ : X.A.frames = some (X.env :: X.outer) := okX.frames.trans (congrArg some stk)
  refine wpAny_Try_except (wpAny_mono ((bd (wAll X.K i Wo D l) (X.pn ++ pins) (fun e q1 => wpAny (model X.prog X.w) X.A (noteFrame e X.env) (fun _ q2 => wpAny (model X.prog X.w) X.A (setFlight e none) (fun _ q3 =>
    wpAny (model X.prog X.w) X.A (handleBy e X.env (h1 :: hr)) (SP X pins D) X.xe q3) X.xe q2) X.xe q1) (fun u z xx => ?catchIt) PassesOwn.looking).run [] s τ G D (I.toTry _) hh) (fun f z hz => ?through) (fun e z hz => hz))
  case through =>
    cases f with
    | next => exact let ⟨τ1, G1, J1, q⟩ := hz; wpAny_execs_nil ⟨τ1, G1, J1.ofTry okX, q⟩
    | brk => exact let ⟨τ1, G1, J1, q⟩ := hz; ⟨τ1, G1, J1.ofTry okX, q⟩
    | cont => exact let ⟨τ1, G1, J1, q⟩ := hz; ⟨τ1, G1, J1.ofTry okX, q⟩
    | ret v => exact let ⟨w1, τ1, G1, J1, r1, q⟩ := hz; ⟨w1, τ1, G1, J1.ofTry okX, r1, q⟩
  case catchIt =>
    obtain ⟨ea, gB, sJ, pinJ, τ1, G1, tv, dv, rfl, J0, nbl, upw, sky, fre, oss, agr, want⟩ := xx
    have J : Inv X pins τ1 G1 sJ := J0.ofTry okX
    have sky1 : Sky gB (X.env :: X.outer) ea (Zc tv dv) X.env.locals z.heap := stk ▸ sky
    show wpAny (model X.prog X.w) X.A (noteFrame (.ref ea) X.env) _ _ _
    refine Sky.land Zc.steady frs_ frm sky1 fun k3 fly3 up3 => ?_
    have J3 : Inv X pins τ1 G1 { z with heap := k3 } := J.landed nbl fly3.1 (upw.trans up3) oss agr
    obtain ⟨o3, v3, e3, z3, d3⟩ := fly3.there
    have nfr : ea ∉ frs (X.env :: X.outer) := fun hm => by
      obtain ⟨_, o', e', hnf⟩ := fly3.2.2.1.mem hm
      exact hnf _ ((Option.some.inj (e'.symm.trans e3)) ▸ d3)
    have nL : ea ≠ X.env.locals := fun q => nfr (List.mem_filterMap.mpr ⟨X.env, List.mem_cons_self, frm.trans (congrArg some q.symm)⟩)
    have nF : ea ∉ X.fs := fun hm => by
      obtain ⟨e, he, q⟩ := List.mem_filterMap.mp hm
      exact nfr (List.mem_filterMap.mpr ⟨e, List.mem_cons_of_mem _ he, q⟩)
    have S3 := J3.suite e3 d3 fre nL nF
    suffices go : ∀ {hs' : List ExceptHandler} {l' : List Cl}, ClsOk X nm hs' l' → wAll X.K i Wo D l' tv dv τ1 G1 → wpAny (model X.prog X.w) X.A (handleBy (.ref ea) X.env hs') (SP X pins D) X.xe { z with heap := k3 } from go cs want
    intro hs' l' ck
    induction ck with
    | nil =>
      intro wo
      refine wpAny_handleBy_nil ?_
      obtain ⟨_, _, _, o4, v4, T4, _, _, e4, _, d4, p4, _⟩ := id fly3
      unfold PySem.passOn
      refine wpAny_bind (wpAny_field e4 d4 p4 ?_)
      rw [if_neg (show ¬ ((Value.ref T4 == Value.none) = true) from by simp)]
      have fin : wpAny (model X.prog X.w) X.A (setFlight (.ref ea) X.env.frame) (fun _ q => wpAny (model X.prog X.w) X.A (throw (.ref ea) : Sem Flow) (SP X pins D) X.xe q) X.xe { z with heap := k3 } := by
        rw [frm]
        exact HandSPX.setFlight_upZ fly3 fun k5 held5 up5 => wpAny_throw (tk _ _ ⟨ea, gB, sJ, pins, τ1, G1, tv, dv, rfl, J, nbl, (upw.trans up3).trans up5, .inr (.inr (stk ▸ held5)), fre, oss, agr, wo⟩)
      first
        | exact wpAny_bind (wpAny_pure (wpAny_bind fin))
        | exact wpAny_bind fin
    | @cons cn cv ts st sts p1 p2 hs2 l2 nc su more ih =>
      rintro ⟨hit, hx, yes, no⟩
      refine wpAny_handleBy_cons (codeAny_handlers_test ?_) (by intro q; cases q)
      have LT : PySem.W.Looks (model X.prog X.w) k3 (typeOf (.ref ea)) tv := fun A Q E s k q => wpAny_typeOf_ref (k _ _ e3) (z3.1 ▸ q)
      have test : ∀ {Q : Value → Shared → Prop} {E : Value → Shared → Prop}, Q cv { z with heap := k3 } → wpAny (model X.prog X.w) (X.A.mark (some (.ref ea))) (eval (.Name cn p1) X.env) Q E { z with heap := k3 } := fun {Q E} q =>
        nc.2.2.elim (fun hm => ld_glob (X := X.suite ea ((ea, o3) :: (X.pn ++ pins))) S3 nc.1 hm q nc.2.1) (fun hm => ld_blt (X := X.suite ea ((ea, o3) :: (X.pn ++ pins))) S3 nc.1 hm.1 hm.2.1 q hm.2.2 nc.2.1)
      refine test ((PySem.W.exm_one (M := model X.prog X.w) J3.kIn LT hx).here ?_)
      cases hit with
      | false => exact ih (no rfl)
      | true =>
        refine codeAny_handlers_suite_as (HandSPX.lands_againZ fly3 fun k4 fly4 up4 => ?_)
        have J4 : Inv X pins τ1 G1 { z with heap := k4 } := J.landed nbl fly4.1 ((upw.trans up3).trans up4) oss agr
        obtain ⟨o4, v4, e4, z4, d4⟩ := fly4.there
        refine store_ok (X := X.suite ea ((ea, o4) :: (X.pn ++ pins))) (v := .ref ea) (J4.suite e4 d4 fre nL nF) nod at_ (.inl loc) rfl (fun q5 S5 => ?_) (.inr loc)
        refine wpAny_mono ((su ea o4 tv dv (X.pn ++ pins) z4 ⟨_, d4⟩).run [] q5 _ G1 _ S5 (yes rfl ea fre)) (fun f q6 h6 => ?_) (fun _ _ q => False.elim q)
        have end_ : ∀ {τ6 : L2.St} {G6 : Hp} {Q : Shared → Prop}, Inv (X.suite ea ((ea, o4) :: (X.pn ++ pins))) [] τ6 G6 q6 → (∀ q7, Inv X pins (τ6.set i none) G6 q7 → Q q7) →
            wpAny (model X.prog X.w) X.A (do bindName X.env nm .none; unbindBehindTheSuite X.env nm p2) (fun _ q7 => Q q7) X.xe q6 := fun S6 hq => gone_ok (S6.unsuite okX) nod at_ loc hq
        cases f with
        | next => exact let ⟨_, _, S6, h7⟩ := h6; end_ S6 fun q7 J7 => ⟨_, _, J7, h7⟩
        | brk => exact let ⟨_, _, S6, h7⟩ := h6; end_ S6 fun q7 J7 => ⟨_, _, J7, h7⟩
        | cont => exact let ⟨_, _, S6, h7⟩ := h6; end_ S6 fun q7 J7 => ⟨_, _, J7, h7⟩
        | ret u => exact let ⟨_, _, _, S6, r6, h7⟩ := h6; end_ S6 fun q7 J7 => ⟨_, _, _, J7, r6, h7⟩
end
end AA

set_option Elab.async false
set_option linter.all false
set_option maxRecDepth 100000
set_option maxHeartbeats 4000000
/-! What is kept with a web: the lots, the needs. -/
namespace AA
open PySem PySem.Spec PyProof.Rows L2 Evl
/-- a web whose known things lie in kd -/
def WebK (K : PySem.W.Frag) (C : Addr) (H : Hp) (x kd : Addr) (n : Int) (ss : List St5) : Prop := ∃ (dx l : Addr) (ys : List V), H x = some (.ins C dx (wf n l kd)) ∧ H l = some (.lst ys) ∧ DpAll K H ys (ss.map stD)
theorem WebK.at {K : PySem.W.Frag} {C : Addr} {H : Hp} {x kd : Addr} {n : Int} {ss : List St5} (h : WebK K C H x kd n ss) : WebAt K C H x n ss := by
  obtain ⟨dx, l, ys, h1, h2, h3⟩ := h
  exact ⟨dx, l, kd, ys, h1, h2, h3⟩
theorem WebK.ex {K : PySem.W.Frag} {C : Addr} {H H' : Hp} {x kd : Addr} {n : Int} {ss : List St5} (h : WebK K C H x kd n ss) (e : Ex H H') : WebK K C H' x kd n ss := by
  obtain ⟨dx, l, ys, h1, h2, h3⟩ := h
  exact ⟨dx, l, ys, e _ _ h1, e _ _ h2, dpa_ex e _ _ h3⟩
theorem sts_hidA {K : PySem.W.Frag} {G : Hp} {p : Addr} (hp : ∀ xs u, G p ≠ some (.tup xs) ∧ G p ≠ some (.frz u (.tup xs))) {vs : List V} {ss : List St5} (h : DpAll K G vs (ss.map stD)) {G' : Hp} (e : Ex (hid p p G) G') : DpAll K G' vs (ss.map stD) := by
  have key : ∀ {a : Addr} {xs : List V}, SqT K G a xs → SqT K G' a xs := fun {a xs} h => by
    rcases h with h | h
    · rcases h with h | ⟨u, h⟩
      · have n : a ≠ p := fun z => (hp xs { cls := .none, data := .fields #[] }).1 (by rw [← z]; exact h)
        exact .inl (.inl (e _ _ (by rw [hid_ne n n]; exact h)))
      · have n : a ≠ p := fun z => (hp xs u).2 (by rw [← z]; exact h)
        exact .inl (.inr ⟨u, e _ _ (by rw [hid_ne n n]; exact h)⟩)
    · exact .inr h
  have go : ∀ {vs : List V} {ss : List St5}, DpAll K G vs (ss.map stD) → DpAll K G' vs (ss.map stD) := by
    intro vs
    induction vs with
    | nil =>
      intro ss h
      cases ss with
      | nil => exact .nil
      | cons => cases h
    | cons v vs ih =>
      intro ss h
      cases ss with
      | nil => cases h
      | cons s ss =>
        cases h with
        | cons h1 h2 =>
          obtain ⟨t, u, rfl, h3, h4⟩ := stD_inv h1
          exact .cons (stD_mk (key h3) (key h4)) (ih h2)
  exact go h
theorem dk_nt {G : Hp} {p : Addr} {l : List (Key × V)} (h : G p = some (.dK l)) : ∀ xs u, G p ≠ some (.tup xs) ∧ G p ≠ some (.frz u (.tup xs)) := fun xs u => by
  rw [h]
  exact ⟨(fun z => nomatch z), (fun z => nomatch z)⟩
/-- a web stays when a dict changes -/
theorem WebK.hid {K : PySem.W.Frag} {C : Addr} {H H' : Hp} {x kd g : Addr} {n : Int} {ss : List St5} {l0 : List (Key × V)} (h : WebK K C H x kd n ss) (hg : H g = some (.dK l0)) (e : Ex (AA.hid g g H) H') : WebK K C H' x kd n ss := by
  obtain ⟨dx, l, ys, h1, h2, h3⟩ := h
  have n1 : x ≠ g := fun z => by rw [z, hg] at h1; cases h1
  have n2 : l ≠ g := fun z => by rw [z, hg] at h2; cases h2
  exact ⟨dx, l, ys, e _ _ (by rw [hid_ne n1 n1]; exact h1), e _ _ (by rw [hid_ne n2 n2]; exact h2), sts_hidA (dk_nt hg) h3 e⟩
section
variable {P : Program} {w : World} {K : PySem.W.Frag} {mg : Str → Option Value} {base : Heap}
def kLots : Key := Sum.inr "lots"
def kNeeds : Key := Sum.inr "needs on"
def spLkn (K : PySem.W.Frag) (C : Addr) : Sp := fun vs H Q _ => ∃ (x kd : Addr) (n : Int) (ss : List St5) (U : List Int), vs = [.ref x] ∧ WebK K C H x kd n ss ∧ H kd = some (.dK []) ∧ ss.length ≤ 1000 ∧ (∀ s ∈ ss, s.one ∈ U ∧ s.other ∈ U) ∧ U.length < 64 ∧
  ∀ (H' : Hp) (F : Addr) (rows : List LtRow) (ps : List Int), Ex (hid kd kd H) H' → H' kd = some (.dK [(kLots, .ref F)]) → H F = none → F ≠ kd → H' F = some (.lst (rows.map fun r => V.ref r.t)) → LotsR ss ps (rows.map (·.zs)) → (∀ r ∈ rows, LtOk K ss H H' r) → rows.length < 64 → Q (.ref F) H'
theorem scLkn : FnScope ["web"] ["web"] (defScope sLotsKnown) := ⟨rfl, rfl, rfl, by decide +kernel, rfl, by decide +kernel, by decide +kernel⟩
theorem ok_lkn {f C gS : Addr} {fd ddS : FuncData} (F : L2.Fun K "lots_known" "lots_known" sLotsKnown f fd) (T : WebTxt K mg C) (GS : FnOk P w K mg base CX0 1 gS ddS ["self"] (spSteps K C)) (bS : Binds K ddS ["self"] []) (mS : Meth K C "steps" gS) (cL : C8.Cal P w K mg base 3 "lots_of" (spLotsOf K) []) : FnOk P w K mg base CX0 4 f fd ["web"] (spLkn K C) := by
  refine F.ok scLkn (fun vs H Q E h => ?_) (fun cdv A outer s H vs Q E hr h => ?_)
  · obtain ⟨x, kd, n, ss, U, rfl, _⟩ := h
    rfl
  · obtain ⟨x, kd, n, ss, U, rfl, hw, hk, hz, hU, hUl, kQ⟩ := h
    have hr1 : Room 1 _ := hr.mono (by decide)
    have hu := hr.un
    have hu1 : (A.deeper (envOfC "lots_known" (defScope sLotsKnown) s.heap.objs.size f cdv)).units + 1 < cLine := by omega
    refine ⟨_, pss_cons (ps_if (pt_cmp (pc_dnotin hu1 pe_str (pe_fld (pv 0) rfl))) (pss_one (ps_dput hu1 (pe_fld (pv 0) rfl) pe_str (C8.pe_c cL hr (by decide) (by rfl) (pa_cons (pe_meth0 (pv 0) T.cl mS GS hr1 bS .nil pass0) pa_nil)) (by rfl))) pss_nil)
      (pss_one (ps_ret (pe_dget hu1 (pe_fld (pv 0) rfl) pe_str (fun _ _ => rfl)))), ?_⟩
    obtain ⟨dx, l, ys, hx, h2, h3⟩ := id hw
    have no : (wf n l kd).lookup ("steps" : Str) = none := wf_no _ _ _ (by decide +kernel) (by decide +kernel) (by decide +kernel)
    refine ⟨_, rfl, x, C, dx, _, _, rfl, hx, T.cl, T.nK, wf_known _ _ _, kd, _, rfl, DGet.k (k := kLots) hk, ?_⟩
    refine ⟨_, rfl, iteT ?_⟩
    refine ⟨_, rfl, ?_⟩
    refine ⟨x, dx, _, rfl, hx, no, ?_⟩
    refine ⟨x, n, ss, rfl, hw.at, ?_⟩
    refine fun p ys1 hp hys1 => ?_
    have y1 := Ex.new (o := .lst ys1) hp
    have j1 : upd H p (.lst ys1) p = some (.lst ys1) := upd_same
    refine ⟨p, ys1, ss, U, rfl, SqL.of j1, dpa_ex y1 _ _ hys1, hz, hU, hUl, fun H2 F rows ps e2 hF1 hF hR hrow hl => ?_⟩
    have e02 := y1.trans e2
    have hk2 := e02 _ _ hk
    have hx2 := e02 _ _ hx
    have F0 : H F = none := fresh_back y1 hF1
    have Fk : F ≠ kd := fun z => by rw [z, hk] at F0; cases F0
    refine ⟨_, rfl, x, C, dx, _, _, rfl, hx2, T.cl, T.nK, wf_known _ _ _, kd, _, rfl, DPut.k (k := kLots) hk2 (by decide), ?_⟩
    have xk : x ≠ kd := fun z => by rw [z, hk] at hx; cases hx
    have hk3 : upd H2 kd (.dK (putK [] kLots (.ref F))) kd = some (.dK [(kLots, .ref F)]) := upd_same
    refine ⟨_, rfl, x, C, dx, _, _, rfl, by rw [upd_ne xk]; exact hx2, T.cl, T.nK, wf_known _ _ _, kd, _, rfl, DGet.k (k := kLots) hk3, ?_⟩
    refine kQ _ F rows ps (fun z o hz => ?_) hk3 F0 Fk (by rw [upd_ne Fk]; exact hF) hR (fun r hr => ?_) hl
    · obtain ⟨h1, h2, _⟩ := hid_some hz
      rw [upd_ne h2]
      exact e02 _ _ h1
    · have L := hrow r hr
      have nk : ∀ {a : Addr} {o : HO}, H2 a = some o → (∀ l, o ≠ .dK l) → upd H2 kd (.dK (putK [] kLots (.ref F))) a = some o := fun {a o} h ho => by
        rw [upd_ne (fun z => by rw [z, hk2] at h; cases h; exact ho _ rfl)]
        exact h
      exact ⟨nk L.ht (fun l z => nomatch z), fresh_back y1 L.a0, nk L.ha (fun l z => nomatch z), nk L.hb (fun l z => nomatch z), sts_upd (dk_nt hk2) L.hd, L.hw, L.hl⟩
end
end AA

set_option Elab.async false
set_option linter.all false
set_option maxRecDepth 100000
set_option maxHeartbeats 4000000
/-! safe_step. -/
namespace AA
open PySem PySem.Spec PyProof.Rows L2 Evl
theorem rd_get {H : Hp} {N : Addr} {nd : List (Int × Int)} (h : Rd H N (.dK (smK nd))) (p : Int) : DGet H N (.int p) ((gt nd p).map V.int) := by
  refine .inl ⟨smK nd, Sum.inl p, h, rfl, (smK_val p nd).symm⟩
section
variable {P : Program} {w : World} {K : PySem.W.Frag} {mg : Str → Option Value} {base : Heap}
def spSfs (K : PySem.W.Frag) : Sp := fun vs H Q _ => ∃ (N p : Addr) (nd : List (Int × Int)) (ys : List V) (L : List St5) (B : Hp), vs = [.ref N, .ref p] ∧ Rd H N (.dK (smK nd)) ∧ SqL K H p ys ∧ Ex B H ∧ DpAll K B ys (L.map stD) ∧ (∀ s ∈ L, (gt nd s.one).isSome = true) ∧
  (L.find? (safeB (gt nd)) = none → Q .non H) ∧ ∀ s t, L.find? (safeB (gt nd)) = some s → Dp K B (.ref t) (stD s) → Q (.ref t) H
abbrev nmSf : List Str := ["needs", "steps", "step"]
theorem scSf : FnScope nmSf ["needs", "steps"] (defScope sSafeStep) := ⟨rfl, rfl, rfl, by decide +kernel, rfl, by decide +kernel, by decide +kernel⟩
theorem ok_sfs {f : Addr} {fd : FuncData} (F : L2.Fun K "safe_step" "safe_step" sSafeStep f fd) : FnOk P w K mg base CX0 1 f fd ["needs", "steps"] (spSfs K) := by
  refine F.ok scSf (fun vs H Q E h => ?_) (fun cdv A outer s H vs Q E hr h => ?_)
  · obtain ⟨N, p, nd, ys, L, B, rfl, _⟩ := h
    rfl
  · obtain ⟨N, p, nd, ys, L, B, rfl, hN, hp, eB, hD, hso, k0, k1⟩ := h
    have hu := hr.un
    have hu1 : (A.deeper (envOfC "safe_step" (defScope sSafeStep) s.heap.objs.size f cdv)).units + 1 < cLine := by omega
    refine ⟨_, pss_cons (ps_for PassesOwn.never rfl (pi_list (pv 1)) (pg_name (i := 2) scSf.nd rfl (Or.inl rfl))
        (pss_one (ps_if (PW.pt (pw_and (pt_cmp (pc_din hu1 (pe_ix (r := rIxT K) ix_tup (pv 2) pe_int (fun _ _ => rfl)) (pv 0))) (pw_and1 (pt_cmpR op_le (pe_dget hu1 (pv 0) (pe_ix (r := rIxT K) ix_tup (pv 2) pe_int (fun _ _ => rfl)) (fun _ _ => rfl)) (pe_op op_add (pe_dget hu1 (pv 0) (pe_ix (r := rIxT K) ix_tup (pv 2) pe_int (fun _ _ => rfl)) (fun _ _ => rfl)) (pe_ix (r := rIxT K) ix_tup (pv 2) pe_int (fun _ _ => rfl))) (nomark _)))))
          (pss_one (ps_ret (pv 2))) pss_nil)))
      (pss_one (ps_ret pe_non)), ?_⟩
    refine ⟨_, rfl, p, rfl, ⟨_, hp⟩, ?_⟩
    have hul := sts_len hD
    refine for_list (K := K) (a := p) (xs := ys) (fun i σ G => ∃ (x2 : Option V), σ = [some (.ref N), some (.ref p), x2] ∧ G = H ∧ (L.take i).find? (safeB (gt nd)) = none) ⟨none, rfl, rfl, rfl⟩ (fun i σ G _ ⟨_, _, e, _⟩ => by rw [e]; exact hp) ?_ ?_
    · rintro i v σ G hv ⟨x2, rfl, rfl, hno⟩
      obtain ⟨s, t, hs, rfl, ht⟩ := sts_get hD hv
      obtain ⟨_, u, ez, p0, _⟩ := stD_inv ht
      cases ez
      have p1 := ex_t eB p0
      have hm := mem_of_get hs
      have tk : L.take (i + 1) = L.take i ++ [s] := by rw [List.take_add_one, hs]; rfl
      have fnd : (L.take (i + 1)).find? (safeB (gt nd)) = if safeB (gt nd) s = true then some s else none := by
        rw [tk, List.find?_append, hno, Option.none_or]
        by_cases q : safeB (gt nd) s = true
        · rw [if_pos q, List.find?_cons_of_pos q]
        · rw [if_neg q, List.find?_cons_of_neg q]
          rfl
      refine ⟨_, rfl, t, _, 1, .int s.other, rfl, rfl, p1, rfl, _, rfl, N, _, rfl, rd_get hN s.other, ?_⟩
      cases hy : gt nd s.other with
      | none =>
        refine ⟨_, rfl, iteF ⟨_, rfl, rfl, ?_⟩⟩
        rw [fnd]
        have : safeB (gt nd) s = false := by
          unfold safeB
          rw [hy]
        rw [this]
        rfl
      | some y =>
        obtain ⟨x, hx⟩ := Option.isSome_iff_exists.mp (hso s hm)
        have hb : safeB (gt nd) s = decide (y ≤ x + s.change) := by
          unfold safeB
          rw [hy]
          show (match gt nd s.one with
            | none => false
            | some x => decide (y ≤ x + s.change)) = _
          rw [hx]
        have gy := rd_get hN s.other
        have gx := rd_get hN s.one
        rw [hy] at gy
        rw [hx] at gx
        refine ⟨_, rfl, iteT ?_⟩
        refine ⟨_, rfl, _, rfl, t, _, 1, .int s.other, rfl, rfl, p1, rfl, N, _, rfl, gy, _, rfl, _, rfl, t, _, 0, .int s.one, rfl, rfl, p1, rfl, N, _, rfl, gx, ?_⟩
        refine ⟨_, rfl, t, _, 4, .int s.change, rfl, rfl, p1, rfl, _, _, rfl, rfl, _, _, rfl, rfl, _, rfl, ?_⟩
        by_cases q : y ≤ x + s.change
        · rw [decide_eq_true q] at hb ⊢
          refine iteT ⟨_, rfl, k1 s t ?_ ht⟩
          have : L = L.take (i + 1) ++ L.drop (i + 1) := (List.take_append_drop _ _).symm
          rw [this, List.find?_append, fnd, if_pos hb]
          rfl
        · rw [decide_eq_false q] at hb ⊢
          refine iteF ⟨_, rfl, rfl, ?_⟩
          rw [fnd, hb]
          rfl
    · rintro σ G ⟨x2, rfl, rfl, hno⟩
      rw [hul, List.take_length] at hno
      exact k0 hno
end
end AA

set_option Elab.async false
set_option linter.all false
set_option maxRecDepth 100000
set_option maxHeartbeats 4000000
/-! is_number, check_stock; the error of stocks. -/
namespace AA
open PySem PySem.Spec PyProof.Rows L2 Evl
section
variable {P : Program} {w : World} {K : PySem.W.Frag} {mg : Str → Option Value} {base : Heap}
theorem scBadSk : FnScope ["self", "stock"] ["self", "stock"] (defScope sBadSkInit) := ⟨rfl, rfl, rfl, by decide +kernel, rfl, by decide +kernel, by decide +kernel⟩
theorem ok_badSk {CB f fI : Addr} {fd : FuncData} (F : L2.Fun K "__init__" "BadStock.__init__" sBadSkInit f fd) (T : ExT K mg "BadStock" "stock" CB fI) : FnOk P w K mg base CX0 1 f fd ["self", "stock"] (spExI CB "stock") := by
  refine F.ok scBadSk (fun vs H Q E h => ?_) (fun cdv A outer s H vs Q E hr h => ?_)
  · obtain ⟨a, v, rfl, _⟩ := h
    rfl
  · obtain ⟨a, v, rfl, ha, k⟩ := h
    exact ⟨_, pss_one (ps_ost (pv 0) (pv 1) rfl), _, rfl, _, rfl, a, CB, rfl, T.ox, T.no, .inl ⟨ha, k⟩⟩
/-- a thing that is no stock -/
def NoStk (K : PySem.W.Frag) (H : Hp) (v : V) : Prop := NotI K H v ∨ ∃ j : Int, v = .int j ∧ j < 0
theorem NoStk.ex {H H' : Hp} {v : V} (h : NoStk K H v) (e : Ex H H') : NoStk K H' v := h.imp (fun y => y.ex e) id
def spNum (K : PySem.W.Frag) : Sp := fun vs H Q _ => ∃ v : V, vs = [v] ∧ ((NoStk K H v ∧ Q (.bl false) H) ∨ ∃ n : Int, v = .int n ∧ 0 ≤ n ∧ Q (.bl true) H)
theorem scNum : FnScope ["thing"] ["thing"] (defScope sIsNumber) := ⟨rfl, rfl, rfl, by decide +kernel, rfl, by decide +kernel, by decide +kernel⟩
theorem ok_num {f : Addr} {fd : FuncData} (F : L2.Fun K "is_number" "is_number" sIsNumber f fd) (cI : C8.Cal P w K mg base 1 "is_integer" (spIsIntegerV K) []) : FnOk P w K mg base CX0 2 f fd ["thing"] (spNum K) := by
  refine F.ok scNum (fun vs H Q E h => ?_) (fun cdv A outer s H vs Q E hr h => ?_)
  · obtain ⟨v, rfl, _⟩ := h
    rfl
  · obtain ⟨v, rfl, h⟩ := h
    refine ⟨_, pss_one (ps_ret (pe_and (C8.pe_c cI hr (by decide) (by rfl) (pa_cons (pv 0) pa_nil)) (pe_one (pe_cmpR op_ge (pv 0) pe_int (nomark _))))), ?_⟩
    rcases h with ⟨hb, k⟩ | ⟨n, rfl, hn, k⟩
    · rcases hb with hni | ⟨j, rfl, hj⟩
      · exact ⟨_, rfl, v, rfl, .inl ⟨hni, _, rfl, iteF k⟩⟩
      · refine ⟨_, rfl, .int j, rfl, .inr ⟨j, rfl, _, rfl, iteT ?_⟩⟩
        refine ⟨_, rfl, _, _, rfl, rfl, ?_⟩
        show Q (.bl (decide ((0 : Int) ≤ j))) H
        rw [decide_eq_false (by omega)]
        exact k
    · refine ⟨_, rfl, .int n, rfl, .inr ⟨n, rfl, _, rfl, iteT ?_⟩⟩
      refine ⟨_, rfl, _, _, rfl, rfl, ?_⟩
      show Q (.bl (decide ((0 : Int) ≤ n))) H
      rw [decide_eq_true hn]
      exact k
def spStkC (K : PySem.W.Frag) (CB : Addr) : Sp := fun vs H Q E => ∃ v : V, vs = [v] ∧ ((NoStk K H v ∧ BadE CB "stock" H v E) ∨ ∃ i : Int, v = .int i ∧ 0 ≤ i ∧ Q .non H)
theorem scStkC : FnScope ["stock"] ["stock"] (defScope sCheckStock) := ⟨rfl, rfl, rfl, by decide +kernel, rfl, by decide +kernel, by decide +kernel⟩
theorem ok_stkC {f CB fB : Addr} {fd fdB : FuncData} (F : L2.Fun K "check_stock" "check_stock" sCheckStock f fd) (TB : ExT K mg "BadStock" "stock" CB fB) (GB : FnOk P w K mg base CX0 1 fB fdB ["self", "stock"] (spExI CB "stock")) (bB : Binds K fdB ["self", "stock"] [])
    (cN : C8.Cal P w K mg base 2 "is_number" (spNum K) []) : FnOk P w K mg base (L2.CX P w) 3 f fd ["stock"] (spStkC K CB) := by
  refine F.okX scStkC (fun vs H Q E h => ?_) (fun cdv A outer s H vs Q E hr h => ?_)
  · obtain ⟨v, rfl, _⟩ := h
    rfl
  · obtain ⟨v, rfl, h⟩ := h
    refine ⟨_, pss_one (ps_if (pt_not (pt_val (C8.pe_c cN hr (by decide) (by rfl) (pa_cons (pv 0) pa_nil))))
        (pss_one (ps_raise rfl (takes_of rfl rfl rfl rfl) (pmk_oex TB.ox TB.iC TB.tC GB (hr.mono (by decide)) bB .nil pass0 (by rfl) TB.gC (pa_cons (pv 0) pa_nil)))) pss_nil), ?_⟩
    rcases h with ⟨hb, kb⟩ | ⟨i, rfl, i0, k⟩
    · refine ⟨_, rfl, v, rfl, .inl ⟨hb, _, rfl, iteT ?_⟩⟩
      exact ⟨_, rfl, by show 1 ≤ 1000; decide, raise_go kb⟩
    · exact ⟨_, rfl, .int i, rfl, .inr ⟨i, rfl, i0, _, rfl, iteF k⟩⟩
end
end AA

set_option Elab.async false
set_option linter.all false
set_option maxRecDepth 100000
set_option maxHeartbeats 4000000
/-! needs_of. -/
namespace AA
open PySem PySem.Spec PyProof.Rows L2 Evl
section
variable {P : Program} {w : World} {K : PySem.W.Frag} {mg : Str → Option Value} {base : Heap}
def spNof (K : PySem.W.Frag) (C : Addr) : Sp := fun vs H Q _ => ∃ (x kd : Addr) (n : Int) (ss : List St5) (U : List Int), vs = [.ref x] ∧ WebK K C H x kd n ss ∧ H kd = some (.dK []) ∧ ss.length ≤ 1000 ∧ (∀ s ∈ ss, s.one ∈ U ∧ s.other ∈ U) ∧ U.length ≤ 63 ∧ (∀ s ∈ ss, -9 ≤ s.change) ∧
  ∀ (H' : Hp) (F N : Addr) (nd : List (Int × Int)), Ex (hid kd kd H) H' → H' kd = some (.dK [(kLots, .ref F)]) → H N = none → N ≠ kd → H' N = some (.dK (smK nd)) → NOk ss nd → (nd.map (·.1)).Nodup → nd.length ≤ 63 → Q (.ref N) H'
abbrev nmNo : List Str := ["web", "needs", "lot", "within", "place", "steps", "changed", "step", "need"]
theorem scNo : FnScope nmNo ["web"] (defScope sNeedsOf) := ⟨rfl, rfl, rfl, by decide +kernel, rfl, by decide +kernel, by decide +kernel⟩
theorem ok_nof {f C gS : Addr} {fd ddS : FuncData} (F : L2.Fun K "needs_of" "needs_of" sNeedsOf f fd) (B : Bn mg) (T : WebTxt K mg C) (GS : FnOk P w K mg base CX0 1 gS ddS ["self"] (spSteps K C)) (bS : Binds K ddS ["self"] []) (mS : Meth K C "steps" gS) (cL : C8.Cal P w K mg base 4 "lots_known" (spLkn K C) []) (cC : C8.Cal P w K mg base 4 "comes_back" (spCbk K) []) : FnOk P w K mg base CX0 5 f fd ["web"] (spNof K C) := by
  refine F.ok scNo (fun vs H Q E h => ?_) (fun cdv A outer s H vs Q E hr h => ?_)
  · obtain ⟨x, kd, n, ss, U, rfl, _⟩ := h
    rfl
  · obtain ⟨x, kd, n, ss, U, rfl, hw, hk, hz, hU, hUl, hc9, kQ⟩ := h
    have hr1 : Room 1 _ := hr.mono (by decide)
    have hu := hr.un
    have hu1 : (A.deeper (envOfC "needs_of" (defScope sNeedsOf) s.heap.objs.size f cdv)).units + 1 < cLine := by omega
    refine ⟨_, pss_cons (ps_set (i := 1) scNo.nd rfl (by first | exact Or.inl rfl | exact Or.inr rfl) pe_dnewK)
      (Evl.pss_cut (ps_for PassesOwn.never rfl (pi_list (C8.pe_c cL hr (by decide) (by rfl) (pa_cons (pv 0) pa_nil))) (pg_tup (n := 2) rfl (pgs_cons (pg_name (i := 2) scNo.nd rfl (.inl rfl)) (pgs_cons (pg_name (i := 3) scNo.nd rfl (.inl rfl)) pgs_nil)))
          (pss_one (ps_for PassesOwn.never rfl (pi_list (pv 2)) (pg_name (i := 4) scNo.nd rfl (.inl rfl))
            (pss_one (ps_if (pt_val (C8.pe_c cC hr (by decide) (by rfl) (pa_cons (pv 3) (pa_cons (pv 4) pa_nil)))) (pss_one (ps_dput hu1 (pv 1) (pv 4) pe_int (by rfl))) pss_nil)))))
      (pss_cons (ps_set (i := 5) scNo.nd rfl (.inl rfl) (pe_meth0 (pv 0) T.cl mS GS hr1 bS .nil pass0))
      (pss_cons (ps_set (i := 6) scNo.nd rfl (.inl rfl) pe_bl)
      (Evl.pss_cut (ps_while PassesOwn.never (pt_val (pv 6))
          (pss_cons (ps_set (i := 6) scNo.nd rfl (.inl rfl) pe_bl)
          (pss_one (ps_for PassesOwn.never rfl (pi_list (pv 5)) (pg_name (i := 7) scNo.nd rfl (.inl rfl))
            (pss_one (ps_if (pt_cmp (pc_din hu1 (pe_ix (r := rIxT K) ix_tup (pv 7) pe_int (fun _ _ => rfl)) (pv 1)))
              (pss_cons (ps_set (i := 8) scNo.nd rfl (.inl rfl) (pe_callB (call_max2 (by rfl)) (by rfl) B.max boot_max (pa_cons pe_int (pa_cons (pe_op op_sub (pe_dget hu1 (pv 1) (pe_ix (r := rIxT K) ix_tup (pv 7) pe_int (fun _ _ => rfl)) (fun _ _ => rfl)) (pe_ix (r := rIxT K) ix_tup (pv 7) pe_int (fun _ _ => rfl))) pa_nil))))
              (pss_one (ps_if (PW.pt (pw_or (pt_cmp (pc_dnotin hu1 (pe_ix (r := rIxT K) ix_tup (pv 7) pe_int (fun _ _ => rfl)) (pv 1))) (pw_or1 (pt_cmpR op_lt (pv 8) (pe_dget hu1 (pv 1) (pe_ix (r := rIxT K) ix_tup (pv 7) pe_int (fun _ _ => rfl)) (fun _ _ => rfl)) (nomark _)))))
                (pss_cons (ps_dput hu1 (pv 1) (pe_ix (r := rIxT K) ix_tup (pv 7) pe_int (fun _ _ => rfl)) (pv 8) (by rfl)) (pss_one (ps_set (i := 6) scNo.nd rfl (.inl rfl) pe_bl))) pss_nil))) pss_nil))))))
      (pss_one (ps_ret (pv 1))))))), ?_⟩
    intro N hN
    have Nk : N ≠ kd := fun z => by rw [z, hk] at hN; cases hN
    have y1 := Ex.new (o := .dK []) hN
    have j1 : upd H N (.dK []) N = some (.dK []) := upd_same
    have hw1 := hw.ex y1
    have hk1 := y1 _ _ hk
    generalize upd H N (.dK []) = H1 at y1 j1 hw1 hk1 ⊢
    have U1 : ∀ s ∈ ss, s.one ∈ U := fun s hs => (hU s hs).1
    refine ⟨fun σ G => ∃ (x2 x3 x4 : Option V) (F : Addr) (nd : List (Int × Int)), σ = [some (.ref x), some (.ref N), x2, x3, x4, none, none, none, none] ∧ WebK K C G x kd n ss ∧ Ex (hid kd kd H) G ∧ G kd = some (.dK [(kLots, .ref F)]) ∧ G N = some (.dK (smK nd)) ∧ NZero ss nd ∧ ∀ v, Bck ss v → gt nd v = some 0, ?_, ?_⟩
    · refine ⟨_, rfl, x, kd, n, ss, U, rfl, hw1, hk1, hz, hU, by omega, fun H2 F rows ps e2 hk2 F0 Fk hF hR hrow hl => ?_⟩
      have j2 : H2 N = some (.dK []) := e2 _ _ (by rw [hid_ne Nk Nk]; exact j1)
      have hw2 : WebK K C H2 x kd n ss := hw1.hid hk1 e2
      have FN : F ≠ N := fun z => by rw [z, j1] at F0; cases F0
      have fin : ∀ {G : Hp}, Ex (hid N N H2) G → Ex (hid kd kd H) G := fun {G} e z o hzz => by
        obtain ⟨h1, h2, _⟩ := hid_some hzz
        have n1 : z ≠ N := fun q => by rw [q, hN] at h1; cases h1
        exact e _ _ (by rw [hid_ne n1 n1]; exact e2 _ _ (by rw [hid_ne h2 h2]; exact y1 _ _ h1))
      have rw : ∀ r ∈ rows, ∀ v ∈ r.zs, v ∈ U ∧ (Bck r.ws v ↔ Bck ss v) := fun r hr v hv => by
        obtain ⟨i, hi⟩ := List.getElem?_of_mem hr
        have hL : (rows.map (·.zs))[i]? = some r.zs := by rw [List.getElem?_map, hi]; rfl
        have il : i < ps.length := by
          rw [← hR.len]
          exact (List.getElem?_eq_some_iff.mp hL).1
        have hp : ps[i]? = some ps[i] := List.getElem?_eq_getElem il
        have Z := hR.at' i _ _ hp hL
        refine ⟨?_, bck_in Z (hrow r hr).hw hv⟩
        obtain ⟨s, h1, h2, h3⟩ := ((hR.m ps[i]).mp (mem_of_get hp)).2
        have hvs := ((Z.m v).mp hv).symm.trans h2
        by_cases e : v = s.one
        · rw [e]
          exact U1 s h1
        · obtain ⟨t, g1, g2⟩ := hvs.1.nmd e
          exact g2.elim (fun z => z ▸ (hU t g1).1) (fun z => z ▸ (hU t g1).2)
      have LtG : ∀ {G : Hp}, Ex (hid N N H2) G → ∀ r ∈ rows, G r.t = some (.tup [.ref r.a, .ref r.b]) ∧ G r.a = some (.lst (r.zs.map V.int)) ∧ G r.b = some (.lst r.ys) ∧ DpAll K G r.ys (r.ws.map stD) := fun {G} e r hr => by
        have L := hrow r hr
        have nk : ∀ {a : Addr} {o : HO}, H2 a = some o → (∀ l, o ≠ .dK l) → G a = some o := fun {a o} h ho => by
          have n : a ≠ N := fun z => by rw [z, j2] at h; cases h; exact ho _ rfl
          exact e _ _ (by rw [hid_ne n n]; exact h)
        exact ⟨nk L.ht (fun l z => nomatch z), nk L.ha (fun l z => nomatch z), nk L.hb (fun l z => nomatch z), sts_hidA (dk_nt j2) L.hd e⟩
      have ok : ∀ {nd : List (Int × Int)}, NZero ss nd → nd.length < sizeLine := fun h => by
        have := h.few U1
        exact sz_m (by omega)
      refine ⟨F, rfl, ⟨_, SqL.of hF⟩, ?_⟩
      refine for_list (K := K) (a := F) (xs := rows.map fun r => V.ref r.t) (fun i σ G => ∃ (x2 x3 x4 : Option V) (nd : List (Int × Int)), σ = [some (.ref x), some (.ref N), x2, x3, x4, none, none, none, none] ∧ Ex (hid N N H2) G ∧ G N = some (.dK (smK nd)) ∧ NZero ss nd ∧ ∀ (j : Nat) (r : LtRow), j < i → rows[j]? = some r → ∀ v ∈ r.zs, Bck ss v → gt nd v = some 0) ⟨none, none, none, [], rfl, hid_ex, j2, .nil, fun j r h => absurd h (by omega)⟩ (fun i σ G _ ⟨_, _, _, _, _, e, _⟩ => SqL.of (e _ _ (by rw [hid_ne FN FN]; exact hF))) ?_ ?_
      · rintro i y σ G hy ⟨x2, x3, x4, nd, rfl, e, hN3, hz3, hdone⟩
        obtain ⟨r, hri, rfl⟩ : ∃ r, rows[i]? = some r ∧ y = V.ref r.t := by
          rw [List.getElem?_map] at hy
          cases hh : rows[i]? with
          | none => rw [hh] at hy; cases hy
          | some r => rw [hh] at hy; exact ⟨r, rfl, (Option.some.inj hy).symm⟩
        have hr' := mem_of_get hri
        obtain ⟨t1, t2, t3, t4⟩ := LtG e r hr'
        refine ⟨r.t, _, rfl, .inl (.inl t1), rfl, ?_⟩
        refine ⟨_, _, rfl, _, _, rfl, rfl, ?_⟩
        refine ⟨_, rfl, r.a, rfl, ⟨_, SqL.of t2⟩, ?_⟩
        refine for_list (K := K) (a := r.a) (xs := r.zs.map V.int) (fun k σ G' => ∃ (x4 : Option V) (nd : List (Int × Int)), σ = [some (.ref x), some (.ref N), some (.ref r.a), some (.ref r.b), x4, none, none, none, none] ∧ Ex (hid N N H2) G' ∧ G' N = some (.dK (smK nd)) ∧ NZero ss nd ∧ (∀ (j : Nat) (r : LtRow), j < i → rows[j]? = some r → ∀ v ∈ r.zs, Bck ss v → gt nd v = some 0) ∧ ∀ v ∈ r.zs.take k, Bck ss v → gt nd v = some 0) ⟨x4, nd, rfl, e, hN3, hz3, hdone, fun v h => absurd h (by simp)⟩ (fun k σ G' _ ⟨_, _, _, e, _⟩ => SqL.of (LtG e r hr').2.1) ?_ ?_
        · rintro k y G' G' hy ⟨x4, nd, rfl, e, hN3, hz3, hdone, hdk⟩
          obtain ⟨v, hv, rfl⟩ := get_ints hy
          have hvz := mem_of_get hv
          obtain ⟨_, t2, t3, t4⟩ := LtG e r hr'
          obtain ⟨vU, hbk⟩ := rw r hr' v hvz
          refine ⟨_, rfl, _, rfl, ?_⟩
          refine ⟨r.b, v, r.ys, r.ws, U, rfl, SqL.of t3, t4, by have := (hrow r hr').hl; omega, vU, fun s hs => (hU s (((hrow r hr').hw s).mp hs).1).2, hUl, fun H3 b e3 hb => ?_⟩
          rw [hbk] at hb
          have e' := e.trans e3
          have hN' := e3 _ _ hN3
          have tk : ∀ u, u ∈ r.zs.take (k + 1) → u ∈ r.zs.take k ∨ u = v := fun u hu => by
            rw [List.take_add_one, hv] at hu
            exact (List.mem_append.mp hu).imp id fun z => by simpa using z
          refine ⟨b, rfl, ?_⟩
          cases b with
          | false =>
            refine iteF ⟨_, nd, rfl, e', hN', hz3, hdone, fun u hu hb2 => (tk u hu).elim (fun z => hdk u z hb2) fun z => ?_⟩
            rw [z] at hb2
            cases hb.mpr hb2
          | true =>
            refine iteT ⟨_, rfl, _, rfl, N, _, rfl, DPut.k (k := Sum.inl v) hN' (by unfold smK; rw [List.length_map]; exact ok hz3), _, put nd v 0, rfl, ?_, ?_, hz3.put (hb.mp rfl), fun j r2 hj hr2 u hu hbu => ?_, fun u hu hbu => ?_⟩
            · exact fun z o hzo => by
                rw [upd_ne (hid_some hzo).2.1]
                exact e' _ _ hzo
            · rw [upd_same, smK_put hz3.kn]
            · rw [gt_put, hdone j r2 hj hr2 u hu hbu]
              split <;> rfl
            · rw [gt_put]
              rcases tk u hu with z | z
              · rw [hdk u z hbu]
                split <;> rfl
              · rw [if_pos z.symm]
        · rintro σ G' ⟨x4, nd, rfl, e, hN3, hz3, hdone, hdk⟩
          rw [List.length_map, List.take_length] at hdk
          refine ⟨some (.ref r.a), some (.ref r.b), x4, nd, rfl, e, hN3, hz3, fun j r2 hj hr2 => ?_⟩
          by_cases q : j = i
          · rw [q, hri] at hr2
            cases hr2
            exact hdk
          · exact hdone j r2 (by omega) hr2
      · rintro σ G ⟨x2, x3, x4, nd, rfl, e, hN3, hz3, hdone⟩
        refine ⟨x2, x3, x4, F, nd, rfl, hw2.hid j2 e, fin e, e _ _ (by rw [hid_ne Nk.symm Nk.symm]; exact hk2), hN3, hz3, fun v hv => ?_⟩
        obtain ⟨_, i, zs, h1, h2⟩ := bck_row hU hR hv
        rw [List.getElem?_map] at h1
        cases hh : rows[i]? with
        | none => rw [hh] at h1; cases h1
        | some r =>
          rw [hh] at h1
          cases h1
          refine hdone i r ?_ hh v h2 hv
          rw [List.length_map]
          exact (List.getElem?_eq_some_iff.mp hh).1
    rintro σ G3 ⟨x2, x3, x4, F, nd0, rfl, hw3, e3, hk3, hN3, hz3, hall3⟩
    obtain ⟨dx, l, ys, hx3, _⟩ := id hw3
    have no : (wf n l kd).lookup ("steps" : Str) = none := wf_no _ _ _ (by decide +kernel) (by decide +kernel) (by decide +kernel)
    refine ⟨_, rfl, x, dx, _, rfl, hx3, no, x, n, ss, rfl, hw3.at, fun p ys1 hp hys1 => ?_⟩
    have y4 := Ex.new (o := .lst ys1) hp
    have j4 : upd G3 p (.lst ys1) p = some (.lst ys1) := upd_same
    have hN4 := y4 _ _ hN3
    have hk4 := y4 _ _ hk3
    have e4 := e3.trans y4
    have hD4 := dpa_ex y4 _ _ hys1
    have pN : p ≠ N := fun z => by rw [z, hN3] at hp; cases hp
    have pk : p ≠ kd := fun z => by rw [z, hk3] at hp; cases hp
    generalize upd G3 p (.lst ys1) = G4 at y4 j4 hN4 hk4 e4 hD4 ⊢
    have iv0 : NInv ss U nd0 := hz3.inv U1 hall3
    have fr : ∀ {G : Hp}, Ex (hid N N G4) G → Ex (hid kd kd H) G ∧ G kd = some (.dK [(kLots, .ref F)]) := fun {G} e => ⟨fun z o hzo => by
      obtain ⟨h1, h2, _⟩ := hid_some hzo
      have n1 : z ≠ N := fun q => by rw [q, hN] at h1; cases h1
      exact e _ _ (by rw [hid_ne n1 n1]; exact e4 _ _ hzo), e _ _ (by rw [hid_ne Nk.symm Nk.symm]; exact hk4)⟩
    refine ⟨fun σ G => ∃ (x2 x3 x4 x6 x7 x8 : Option V) (nd : List (Int × Int)), σ = [some (.ref x), some (.ref N), x2, x3, x4, some (.ref p), x6, x7, x8] ∧ Ex (hid N N G4) G ∧ G N = some (.dK (smK nd)) ∧ NInv ss U nd ∧ NOk ss nd, ?_, ?_⟩
    · refine ⟨fun mm σ G => ∃ (x2 x3 x4 x7 x8 : Option V) (c : Bool) (nd : List (Int × Int)), σ = [some (.ref x), some (.ref N), x2, x3, x4, some (.ref p), some (.bl c), x7, x8] ∧ mm = 2 * mu U nd + (if c = true then 1 else 0) ∧ Ex (hid N N G4) G ∧ G N = some (.dK (smK nd)) ∧ NInv ss U nd ∧ (c = false → ∀ s ∈ ss, rlx nd s = none), ⟨_, x2, x3, x4, none, none, true, nd0, rfl, rfl, hid_ex, hN4, iv0, fun z => nomatch z⟩, ?_⟩
      rintro mm σ G ⟨x2, x3, x4, x7, x8, c, nd, rfl, rfl, e, hNG, iv, hst⟩
      refine ⟨_, rfl, c, rfl, ?_⟩
      cases c with
      | false => exact iteF ⟨x2, x3, x4, _, x7, x8, nd, rfl, e, hNG, iv, iv.done (hst rfl)⟩
      | true =>
        refine iteT ⟨_, fun _ _ z => z, ?_⟩
        have hDG : ∀ {G' : Hp}, Ex (hid N N G4) G' → DpAll K G' ys1 (ss.map stD) := fun {G'} e => sts_hidA (dk_nt hN4) hD4 e
        have hpG : ∀ {G' : Hp}, Ex (hid N N G4) G' → G' p = some (.lst ys1) := fun {G'} e => e _ _ (by rw [hid_ne pN pN]; exact j4)
        have hul := sts_len hD4
        refine ⟨_, rfl, p, rfl, ⟨_, SqL.of (hpG e)⟩, ?_⟩
        refine for_list (K := K) (a := p) (xs := ys1) (fun i σ G' => ∃ (x7 x8 : Option V) (b : ND), σ = [some (.ref x), some (.ref N), x2, x3, x4, some (.ref p), some (.bl b.ch), x7, x8] ∧ Ex (hid N N G4) G' ∧ G' N = some (.dK (smK b.nd)) ∧ NInv ss U b.nd ∧ b = (ss.take i).foldl rl1 ⟨nd, false⟩) ⟨x7, x8, ⟨nd, false⟩, rfl, e, hNG, iv, rfl⟩ (fun i σ G' _ ⟨_, _, _, _, e, _⟩ => SqL.of (hpG e)) ?_ ?_
        · rintro i y σ G' hy ⟨x7, x8, b, rfl, e', hN', iv', hb⟩
          obtain ⟨s, a, hs, rfl, ha⟩ := sts_get (hDG e') hy
          obtain ⟨_, u, ez, p1, _⟩ := stD_inv ha
          cases ez
          have hm : s ∈ ss := mem_of_get hs
          have iv2 := iv'.one hm (U1 s hm) (hc9 s hm)
          have hb2 : rl1 b s = (ss.take (i + 1)).foldl rl1 ⟨nd, false⟩ := by
            rw [List.take_add_one, hs, List.foldl_append, ← hb]
            rfl
          have dS : ∀ v : Int, DGet G' N (.int v) ((gt b.nd v).map V.int) := fun v => by
            have z := DGet.k (k := Sum.inl v) hN'
            rw [smK_val] at z
            exact z
          refine ⟨_, rfl, a, _, 1, .int s.other, rfl, rfl, p1, rfl, _, rfl, N, _, rfl, dS s.other, ?_⟩
          refine ⟨_, rfl, ?_⟩
          cases hgo : gt b.nd s.other with
          | none =>
            have hr0 : rl1 b s = b := by
              unfold rl1 rlx
              simp only [hgo]
            rw [hr0] at hb2
            exact iteF ⟨_, x8, b, rfl, e', hN', iv', hb2⟩
          | some v =>
            have d1 := dS s.other
            rw [hgo] at d1
            refine iteT ?_
            refine ⟨_, rfl, _, rfl, a, _, 1, .int s.other, rfl, rfl, p1, rfl, N, _, rfl, d1, ?_⟩
            refine ⟨_, rfl, a, _, 4, .int s.change, rfl, rfl, p1, rfl, _, _, rfl, rfl, _, _, rfl, ?_⟩
            have hmx : (if v - s.change > 0 then v - s.change else 0) = max 0 (v - s.change) := by
              split <;> omega
            rw [hmx]
            refine ⟨_, rfl, a, _, 0, .int s.one, rfl, rfl, p1, rfl, _, rfl, N, _, rfl, dS s.one, ?_⟩
            have fewN := nd_few iv'
            have put_it : ∀ (h : rlx b.nd s = some (max 0 (v - s.change))), putK (smK b.nd) (Sum.inl s.one) (V.int (max 0 (v - s.change))) = smK (rl1 b s).nd ∧ (rl1 b s).ch = true := fun h => by
              unfold rl1
              rw [h]
              exact ⟨smK_put iv'.kn, rfl⟩
            have fin2 : ∀ (h : rlx b.nd s = some (max 0 (v - s.change))), ∃ (x7 x8 : Option V) (b' : ND), [some (V.ref x), some (.ref N), x2, x3, x4, some (.ref p), some (.bl true), some (.ref a), some (.int (max 0 (v - s.change)))] = [some (V.ref x), some (.ref N), x2, x3, x4, some (.ref p), some (.bl b'.ch), x7, x8] ∧ Ex (hid N N G4) (upd G' N (.dK (putK (smK b.nd) (Sum.inl s.one) (V.int (max 0 (v - s.change)))))) ∧ upd G' N (.dK (putK (smK b.nd) (Sum.inl s.one) (V.int (max 0 (v - s.change))))) N = some (.dK (smK b'.nd)) ∧ NInv ss U b'.nd ∧ b' = (ss.take (i + 1)).foldl rl1 ⟨nd, false⟩ := fun h => by
              obtain ⟨h1, h2⟩ := put_it h
              refine ⟨_, _, rl1 b s, by rw [h2], fun z o hzo => ?_, by rw [upd_same, h1], iv2, hb2⟩
              rw [upd_ne (hid_some hzo).2.1]
              exact e' _ _ hzo
            have sl : (smK b.nd).length < sizeLine := by
              unfold smK
              rw [List.length_map]
              exact sz_m (by omega)
            cases hgn : gt b.nd s.one with
            | none =>
              refine ⟨_, rfl, iteT (iteT ?_)⟩
              refine ⟨_, rfl, _, rfl, _, rfl, a, _, 0, .int s.one, rfl, rfl, p1, rfl, N, _, rfl, DPut.k (k := Sum.inl s.one) hN' sl, ?_⟩
              exact fin2 (by
                unfold rlx
                simp only [hgo, hgn])
            | some c0 =>
              have d2 := dS s.one
              rw [hgn] at d2
              refine ⟨_, rfl, iteF ?_⟩
              refine ⟨_, rfl, _, rfl, _, rfl, a, _, 0, .int s.one, rfl, rfl, p1, rfl, N, _, rfl, d2, ?_⟩
              refine ⟨_, _, rfl, rfl, _, rfl, dec_ite (fun z => ?_) (fun z => ?_)⟩
              · refine ⟨_, rfl, _, rfl, _, rfl, a, _, 0, .int s.one, rfl, rfl, p1, rfl, N, _, rfl, DPut.k (k := Sum.inl s.one) hN' sl, ?_⟩
                exact fin2 (by
                  unfold rlx
                  simp only [hgo, hgn]
                  exact if_pos z)
              · have hr0 : rl1 b s = b := by
                  unfold rl1 rlx
                  simp only [hgo, hgn]
                  rw [if_neg z]
                rw [hr0] at hb2
                exact ⟨_, _, b, rfl, e', hN', iv', hb2⟩
        · rintro σ G' ⟨x7, x8, b, rfl, e', hN', iv', hb⟩
          rw [hul, List.take_length] at hb
          obtain ⟨m1, m2⟩ := rl_mu hUl U1 hc9 ss ⟨nd, false⟩ (fun s hs => hs) iv
          rw [← hb] at m1 m2
          refine ⟨2 * mu U b.nd + (if b.ch = true then 1 else 0), ?_, x2, x3, x4, x7, x8, b.ch, b.nd, rfl, rfl, e', hN', iv', fun hc => ?_⟩
          · have m1' : mu U b.nd ≤ mu U nd := m1
            cases hc : b.ch with
            | false =>
              show 2 * mu U b.nd + 0 < 2 * mu U nd + 1
              omega
            | true =>
              have m2' : mu U b.nd < mu U nd := (m2 hc).elim (fun z => nomatch z) id
              show 2 * mu U b.nd + 1 < 2 * mu U nd + 1
              omega
          · rw [hb] at hc ⊢
            obtain ⟨_, q1, q2⟩ := rl_still ss ⟨nd, false⟩ hc
            rw [q1]
            exact q2
    · rintro σ G ⟨x2, x3, x4, x6, x7, x8, nd, rfl, e, hNG, iv, nok⟩
      refine ⟨_, rfl, ?_⟩
      obtain ⟨f1, f2⟩ := fr e
      have := nd_few iv
      exact kQ G F N nd f1 f2 hN Nk hNG nok iv.kn (by omega)
end
end AA

set_option Elab.async false
set_option linter.all false
set_option maxRecDepth 100000
set_option maxHeartbeats 4000000
/-! needs_on, least_ons, least_on. -/
namespace AA
open PySem PySem.Spec PyProof.Rows L2 Evl
theorem dc_range {lo : Int} {n : Nat} {g : TG} {tt : TT} {tk tv : TE} {vs : List Nat} {σ : L2.St} {H1 : Hp} {D : Addr} {Qd : Hp → Prop} (Pv : Nat → Hp → Prop) (h0 : Pv 0 (upd H1 D (.dK [])))
    (hs : ∀ i H, i < n → Pv i H → g (.int (lo + i)) (wipe σ vs) H fun σ2 H2 => wipe σ2 vs = wipe σ vs ∧ tt σ2 H2 fun b H3 =>
      if b = true then tk σ2 H3 fun y H4 => tv σ2 H4 fun z H5 => ∃ kvs k, y = kV k ∧ H5 D = some (.dK kvs) ∧ kvs.length < sizeLine ∧ Pv (i + 1) (upd H5 D (.dK (putK kvs k z))) else Pv (i + 1) H3) (hd : ∀ H, Pv n H → Qd H) :
    ∃ W : Nat → Nat → Hp → Prop, (∃ m, W 0 m (upd H1 D (.dK []))) ∧ ∀ i m H, W i m H →
      ((Itr lo n).stop i H ∧ Qd H) ∨ ((Itr lo n).go i H ∧ ∃ Nx : Hp → Prop, (∀ H', Nx H' → ∃ m', m' < m ∧ W (i + 1) m' H') ∧ ∀ x H', (Itr lo n).yld i H x H' → g x (wipe σ vs) H' fun σ2 H2 => wipe σ2 vs = wipe σ vs ∧ tt σ2 H2 fun b H3 =>
        if b = true then tk σ2 H3 fun y H4 => tv σ2 H4 fun z H5 => ∃ kvs k, y = kV k ∧ H5 D = some (.dK kvs) ∧ kvs.length < sizeLine ∧ Nx (upd H5 D (.dK (putK kvs k z))) else Nx H3) := by
  refine ⟨fun i m H => m = n - i ∧ i ≤ n ∧ Pv i H, ⟨n, by simp, Nat.zero_le _, h0⟩, ?_⟩
  rintro i m H ⟨rfl, hi, p⟩
  by_cases hlt : i < n
  · refine .inr ⟨hlt, Pv (i + 1), fun H' p' => ⟨n - (i + 1), by omega, rfl, hlt, p'⟩, fun x H' y => ?_⟩
    obtain ⟨e, y⟩ := y
    subst e y
    exact hs i _ hlt p
  · have e : i = n := by omega
    subst e
    exact .inl ⟨Nat.le_refl _, hd H p⟩
/-- what is known of a web's stocks, apart from some places -/
def KnX (X : Addr → Prop) (ss : List St5) (H : Hp) (kd : Addr) : Prop := H kd = some (.dK []) ∨ ∃ (F N : Addr) (nd : List (Int × Int)), ¬ X N ∧ N ≠ kd ∧ H kd = some (.dK [(kLots, .ref F), (kNeeds, .ref N)]) ∧ H N = some (.dK (smK nd)) ∧ NOk ss nd ∧ (nd.map (·.1)).Nodup ∧ nd.length ≤ 63
theorem KnX.go {X : Addr → Prop} {ss : List St5} {H H' : Hp} {kd : Addr} (h : KnX X ss H kd) (hk : ¬ X kd) (e : ∀ z o, ¬ X z → H z = some o → H' z = some o) : KnX X ss H' kd := by
  rcases h with h | ⟨F, N, nd, h1, h2, h3, h4, h5⟩
  · exact .inl (e _ _ hk h)
  · exact .inr ⟨F, N, nd, h1, h2, e _ _ hk h3, e _ _ h1 h4, h5⟩
theorem KnX.less {X Y : Addr → Prop} {ss : List St5} {H : Hp} {kd : Addr} (h : KnX X ss H kd) (e : ∀ z, Y z → X z) : KnX Y ss H kd := by
  rcases h with h | ⟨F, N, nd, h1, h2⟩
  · exact .inl h
  · exact .inr ⟨F, N, nd, fun z => h1 (e _ z), h2⟩
theorem KnX.more {X : Addr → Prop} {ss : List St5} {H : Hp} {kd t : Addr} (h : KnX X ss H kd) (ht : H t = none) : KnX (fun z => X z ∨ z = t) ss H kd := by
  rcases h with h | ⟨F, N, nd, h1, h2, h3, h4, h5⟩
  · exact .inl h
  · exact .inr ⟨F, N, nd, fun (z : X N ∨ N = t) => Or.elim z h1 (fun q => by rw [q, ht] at h4; cases h4), h2, h3, h4, h5⟩
theorem KnX.dk {X : Addr → Prop} {ss : List St5} {H : Hp} {kd : Addr} (h : KnX X ss H kd) : ∃ l, H kd = some (.dK l) := by
  rcases h with h | ⟨F, N, nd, h1, h2, h3, _⟩
  · exact ⟨_, h⟩
  · exact ⟨_, h3⟩
section
variable {P : Program} {w : World} {K : PySem.W.Frag} {mg : Str → Option Value} {base : Heap}
def StB (U : List Int) (ss : List St5) : Prop := ss.length ≤ 1000 ∧ (∀ s ∈ ss, s.one ∈ U ∧ s.other ∈ U) ∧ U.length ≤ 63 ∧ ∀ s ∈ ss, -9 ≤ s.change
def spNon (K : PySem.W.Frag) (C : Addr) : Sp := fun vs H Q _ => ∃ (x kd : Addr) (n : Int) (ss : List St5) (U : List Int) (X : Addr → Prop), vs = [.ref x] ∧ WebK K C H x kd n ss ∧ StB U ss ∧ KnX X ss H kd ∧ (∀ z, X z → ∃ o, H z = some o) ∧ ¬ X kd ∧
  ∀ (H' : Hp) (N : Addr) (nd : List (Int × Int)), Ex (hid kd kd H) H' → KnX X ss H' kd → N ≠ kd → H' N = some (.dK (smK nd)) → NOk ss nd → nd.length ≤ 63 → Q (.ref N) H'
theorem scNon : FnScope ["web"] ["web"] (defScope sNeedsOn) := ⟨rfl, rfl, rfl, by decide +kernel, rfl, by decide +kernel, by decide +kernel⟩
theorem ok_non {f C : Addr} {fd : FuncData} (F : L2.Fun K "needs_on" "needs_on" sNeedsOn f fd) (T : WebTxt K mg C) (cN : C8.Cal P w K mg base 5 "needs_of" (spNof K C) []) : FnOk P w K mg base CX0 6 f fd ["web"] (spNon K C) := by
  refine F.ok scNon (fun vs H Q E h => ?_) (fun cdv A outer s H vs Q E hr h => ?_)
  · obtain ⟨x, kd, n, ss, U, X, rfl, _⟩ := h
    rfl
  · obtain ⟨x, kd, n, ss, U, X, rfl, hw, ⟨hz, hU, hUl, hc9⟩, hkn, hX, hXk, kQ⟩ := h
    have hu := hr.un
    have hu1 : (A.deeper (envOfC "needs_on" (defScope sNeedsOn) s.heap.objs.size f cdv)).units + 1 < cLine := by omega
    refine ⟨_, pss_cons (ps_if (pt_cmp (pc_dnotin hu1 pe_str (pe_fld (pv 0) rfl))) (pss_one (ps_dput hu1 (pe_fld (pv 0) rfl) pe_str (C8.pe_c cN hr (by decide) (by rfl) (pa_cons (pv 0) pa_nil)) (by rfl))) pss_nil)
      (pss_one (ps_ret (pe_dget hu1 (pe_fld (pv 0) rfl) pe_str (fun _ _ => rfl)))), ?_⟩
    obtain ⟨dx, l, ys, hx, h2, h3⟩ := id hw
    rcases hkn with hk | ⟨F, N, nd, n1, n2, hk, hN, nok, nnd, nl⟩
    · refine ⟨_, rfl, x, C, dx, _, _, rfl, hx, T.cl, T.nK, wf_known _ _ _, kd, _, rfl, DGet.k (k := kNeeds) hk, ?_⟩
      refine ⟨_, rfl, iteT ?_⟩
      refine ⟨_, rfl, x, kd, n, ss, U, rfl, hw, hk, hz, hU, hUl, hc9, fun H2 F N nd e2 hk2 N0 Nk hN nok nnd nl => ?_⟩
      have xk : x ≠ kd := fun z => by rw [z, hk] at hx; cases hx
      have hx2 := e2 _ _ (show hid kd kd H x = _ by rw [hid_ne xk xk]; exact hx)
      refine ⟨_, rfl, x, C, dx, _, _, rfl, hx2, T.cl, T.nK, wf_known _ _ _, kd, _, rfl, DPut.k (k := kNeeds) hk2 (by show 1 < sizeLine; decide), ?_⟩
      have hk3 : upd H2 kd (.dK (putK [(kLots, V.ref F)] kNeeds (.ref N))) kd = some (.dK [(kLots, .ref F), (kNeeds, .ref N)]) := by
        rw [upd_same, putK_new _ ((valV_neg (p := (kLots, V.ref F)) (by show ¬ kLots = kNeeds; decide +kernel)).trans rfl)]
        rfl
      refine ⟨_, rfl, x, C, dx, _, _, rfl, by rw [upd_ne xk]; exact hx2, T.cl, T.nK, wf_known _ _ _, kd, .ref N, rfl, ?_, ?_⟩
      · have z := DGet.k (k := kNeeds) hk3
        exact z
      have hN3 : upd H2 kd (.dK (putK [(kLots, V.ref F)] kNeeds (.ref N))) N = some (.dK (smK nd)) := by
        rw [upd_ne Nk]
        exact hN
      refine kQ _ N nd (fun z o hzo => ?_) (.inr ⟨F, N, nd, fun z => ?_, Nk, hk3, hN3, nok, nnd, nl⟩) Nk hN3 nok nl
      · rw [upd_ne (hid_some hzo).2.1]
        exact e2 _ _ hzo
      · obtain ⟨o, ho⟩ := hX N z
        rw [N0] at ho
        cases ho
    · refine ⟨_, rfl, x, C, dx, _, _, rfl, hx, T.cl, T.nK, wf_known _ _ _, kd, _, rfl, DGet.k (k := kNeeds) hk, ?_⟩
      refine ⟨_, rfl, iteF ?_⟩
      refine ⟨_, rfl, x, C, dx, _, _, rfl, hx, T.cl, T.nK, wf_known _ _ _, kd, _, rfl, DGet.k (k := kNeeds) hk, ?_⟩
      exact kQ H N nd hid_ex (.inr ⟨F, N, nd, n1, n2, hk, hN, nok, nnd, nl⟩) n2 hN nok nl
/-- the least stocks of the places of a web of n -/
def nds (n : Int) (nd : List (Int × Int)) : List (Int × Option Int) := (List.range n.toNat).map fun i : Nat => ((i : Int), gt nd (i : Int))
theorem nds_take (n : Int) (nd : List (Int × Int)) {i : Nat} (h : i < n.toNat) : (nds n nd).take (i + 1) = (nds n nd).take i ++ [((i : Int), gt nd (i : Int))] := by
  have : (nds n nd)[i]? = some ((i : Int), gt nd (i : Int)) := by
    unfold nds
    rw [List.getElem?_map, List.getElem?_range h]
    rfl
  rw [List.take_add_one, this]
  rfl
theorem gt_snoc {α : Type} {p : Int} {e : Int × α} : ∀ {l : List (Int × α)}, (gt l p = none → gt (l ++ [e]) p = if e.1 = p then some e.2 else none) ∧ ∀ x, gt l p = some x → gt (l ++ [e]) p = some x
  | [] => ⟨fun _ => rfl, fun x h => by cases h⟩
  | a :: l => by
    obtain ⟨h1, h2⟩ := gt_snoc (p := p) (e := e) (l := l)
    have c : ∀ m : List (Int × α), gt (a :: m) p = if a.1 = p then some a.2 else gt m p := fun m => rfl
    rw [List.cons_append, c, c]
    by_cases q : a.1 = p
    · rw [if_pos q, if_pos q]
      exact ⟨(fun z => by cases z), fun x z => z⟩
    · rw [if_neg q, if_neg q]
      exact ⟨h1, h2⟩
theorem nds_gt (n : Int) (nd : List (Int × Int)) {p : Int} : ∀ {i : Nat}, i ≤ n.toNat → (0 ≤ p ∧ p < i → gt ((nds n nd).take i) p = some (gt nd p)) ∧ (¬ (0 ≤ p ∧ p < i) → gt ((nds n nd).take i) p = none)
  | 0, _ => ⟨fun h => by omega, fun _ => rfl⟩
  | i + 1, h => by
    obtain ⟨h1, h2⟩ := nds_gt n nd (p := p) (i := i) (by omega)
    rw [nds_take n nd (by omega)]
    obtain ⟨g1, g2⟩ := gt_snoc (p := p) (e := ((i : Int), gt nd (i : Int))) (l := (nds n nd).take i)
    by_cases q : 0 ≤ p ∧ p < i
    · exact ⟨fun _ => g2 _ (h1 q), fun z => by omega⟩
    · have g3 := g1 (h2 q)
      by_cases q2 : (i : Int) = p
      · refine ⟨fun _ => ?_, fun z => by omega⟩
        rw [g3]
        subst q2
        exact if_pos rfl
      · refine ⟨fun z => by omega, fun _ => ?_⟩
        rw [g3]
        exact if_neg q2
theorem nds_len (n : Int) (nd : List (Int × Int)) : (nds n nd).length = n.toNat := by
  unfold nds
  rw [List.length_map, List.length_range]
end
end AA

set_option Elab.async false
set_option linter.all false
set_option maxRecDepth 100000
set_option maxHeartbeats 4000000
/-! _law_lassos. -/
namespace AA
open PySem PySem.Spec PyProof.Rows L2 Evl
theorem any_int (ks : List Int) (c : Int) : ((ks.map PyData.int).any fun z => PyData.eqv z (.int c)) = decide (c ∈ ks) := by
  induction ks with
  | nil => rfl
  | cons k ks ih =>
    rw [List.map_cons, List.any_cons, ih]
    have h : PyData.eqv (.int k) (.int c) = (k == c) := rfl
    rw [h, Bool.eq_iff_iff]
    simp only [Bool.or_eq_true, beq_iff_eq, decide_eq_true_eq, List.mem_cons]
    exact ⟨fun z => z.imp (fun e => e.symm) id, fun z => z.imp (fun e => e.symm) id⟩
theorem atI_last {xs : List V} {y : V} : atI (xs ++ [y]) (-1) = some y := by
  unfold atI
  have e : ixN (xs ++ [y]).length (-1) = some xs.length := by
    unfold ixN
    rw [List.length_append, List.length_singleton, if_neg (by omega), if_pos (by omega)]
    congr 1
    omega
  rw [e]
  show (xs ++ [y])[xs.length]? = some y
  rw [List.getElem?_append_right (Nat.le_refl _), Nat.sub_self]
  rfl
theorem sts_cut {K : PySem.W.Frag} {H : Hp} : ∀ {vs : List V} {ss : List St5} (j : Nat), DpAll K H vs (ss.map stD) → DpAll K H (vs.take j) ((ss.take j).map stD) ∧ DpAll K H (vs.drop j) ((ss.drop j).map stD)
  | vs, ss, 0, h => ⟨.nil, h⟩
  | [], [], j + 1, _ => ⟨.nil, .nil⟩
  | v :: vs, s :: ss, j + 1, h => by
    cases h with
    | cons h1 h2 =>
      obtain ⟨g1, g2⟩ := sts_cut j h2
      exact ⟨.cons h1 g1, g2⟩
  | [], _ :: _, j + 1, h => by cases h
  | _ :: _, [], j + 1, h => by cases h
/-- a lasso as a pair of lists -/
def LaAt (K : PySem.W.Frag) (H : Hp) (X : List Addr) (G : Hp) (o : V) (f : List St5 × List St5) : Prop := ∃ (t a b : Addr) (xs ys : List V), o = V.ref t ∧ t ∉ X ∧ a ∉ X ∧ b ∉ X ∧ G t = some (.tup [.ref a, .ref b]) ∧ G a = some (.lst xs) ∧ G b = some (.lst ys) ∧ DpAll K H xs (f.1.map stD) ∧ DpAll K H ys (f.2.map stD)
inductive LaL (K : PySem.W.Frag) (H : Hp) (X : List Addr) (G : Hp) : List V → List (List St5 × List St5) → Prop
  | nil : LaL K H X G [] []
  | cons {o : V} {f : List St5 × List St5} {os : List V} {fs : List (List St5 × List St5)} (h : LaAt K H X G o f) (t : LaL K H X G os fs) : LaL K H X G (o :: os) (f :: fs)
section
variable {K : PySem.W.Frag} {H : Hp}
theorem LaAt.go {X : List Addr} {G G' : Hp} {o : V} {f : List St5 × List St5} (h : LaAt K H X G o f) (e : ∀ q u, q ∉ X → G q = some u → G' q = some u) : LaAt K H X G' o f := by
  obtain ⟨t, a, b, xs, ys, h0, h1, h2, h3, h4, h5, h6, h7⟩ := h
  exact ⟨t, a, b, xs, ys, h0, h1, h2, h3, e _ _ h1 h4, e _ _ h2 h5, e _ _ h3 h6, h7⟩
theorem LaL.go {X : List Addr} {G G' : Hp} (e : ∀ q u, q ∉ X → G q = some u → G' q = some u) : ∀ {os : List V} {fs : List (List St5 × List St5)}, LaL K H X G os fs → LaL K H X G' os fs
  | _, _, .nil => .nil
  | _, _, .cons h t => .cons (h.go e) (LaL.go e t)
theorem LaL.app {X : List Addr} {G : Hp} : ∀ {os ps : List V} {fs gs : List (List St5 × List St5)}, LaL K H X G os fs → LaL K H X G ps gs → LaL K H X G (os ++ ps) (fs ++ gs)
  | _, _, _, _, .nil, k => k
  | _, _, _, _, .cons h t, k => .cons h (LaL.app t k)
theorem LaL.len {X : List Addr} {G : Hp} : ∀ {os : List V} {fs : List (List St5 × List St5)}, LaL K H X G os fs → os.length = fs.length
  | _, _, .nil => rfl
  | _, _, .cons h t => by rw [List.length_cons, List.length_cons, LaL.len t]
theorem LaL.sub {X Y : List Addr} {G : Hp} (hs : ∀ x ∈ Y, x ∈ X) : ∀ {os : List V} {fs : List (List St5 × List St5)}, LaL K H X G os fs → LaL K H Y G os fs
  | _, _, .nil => .nil
  | _, _, .cons ⟨t, a, b, xs, ys, h0, h1, h2, h3, h4⟩ r => .cons ⟨t, a, b, xs, ys, h0, fun z => h1 (hs _ z), fun z => h2 (hs _ z), fun z => h3 (hs _ z), h4⟩ (LaL.sub hs r)
theorem LaL.get {X : List Addr} {G : Hp} : ∀ {os : List V} {fs : List (List St5 × List St5)} {i : Nat} {o : V}, LaL K H X G os fs → os[i]? = some o → ∃ f, fs[i]? = some f ∧ LaAt K H X G o f
  | _, _, 0, _, .cons h t, e => by
    have e' : _ = _ := Option.some.inj e
    subst e'
    exact ⟨_, rfl, h⟩
  | _, _, i + 1, _, .cons h t, e => LaL.get (i := i) t e
end
section
variable {P : Program} {w : World} {K : PySem.W.Frag} {mg : Str → Option Value} {base : Heap}
def spLla (K : PySem.W.Frag) : Sp := fun vs H Q _ => ∃ (g : Addr) (v : Int) (us : List V) (ss : List St5) (U : List Int), vs = [.ref g, .int v] ∧ SqL K H g us ∧ DpAll K H us (ss.map stD) ∧ ss.length ≤ 14 ∧ v ∈ U ∧ (∀ s ∈ ss, s.other ∈ U) ∧ U.length ≤ 63 ∧
  ∀ (H' : Hp) (F : Addr) (os : List V) (fs : List (List St5 × List St5)), Ex H H' → H F = none → H' F = some (.lst os) → LaL K H [F] H' os fs → (∀ f, f ∈ fs ↔ Las ss v f.1 f.2) → fs.length ≤ 16384 → Q (.ref F) H'
abbrev nmLa : List Str := ["_law_steps", "_law_place", "_law_found", "_law_ways", "_law_way", "_law_met_here", "_law_step_here", "_law_at"]
theorem scLa : FnScope nmLa ["_law_steps", "_law_place"] (defScope sLLassos) := ⟨rfl, rfl, rfl, by decide +kernel, rfl, by decide +kernel, by decide +kernel⟩
theorem ok_lla {f : Addr} {fd : FuncData} (F : L2.Fun K "_law_lassos" "_law_lassos" sLLassos f fd) (B : Bn mg) : FnOk P w K mg base CX0 1 f fd ["_law_steps", "_law_place"] (spLla K) := by
  refine F.ok scLa (fun vs H Q E h => ?_) (fun cdv A outer s H vs Q E hr h => ?_)
  · obtain ⟨g, v, us, ss, U, rfl, _⟩ := h
    rfl
  · obtain ⟨g, v, us, ss, U, rfl, hg, hD, hsz, hvU, hOU, hU, k⟩ := h
    refine ⟨_, pss_cons (ps_par (i := 2) (j := 3) (by rfl) scLa.nd rfl rfl (by decide) rfl rfl (pa_cons (pe_lst pa_nil) (pa_cons (pe_lst (pa_cons (pe_lst pa_nil) pa_nil)) pa_nil)) (by rfl))
      (Evl.pss_cut (ps_while PassesOwn.never (pt_cmpR (op_neD hr.units) (pv 3) (pe_lst pa_nil) (nomark _))
        (pss_cons (ps_set (i := 4) scLa.nd rfl (by first | exact Or.inl rfl | exact Or.inr rfl) (pe_bm0 PySem.F.plainAttrs_list PySem.F.slot_list_pop PySem.F.type_list_pop mt_pop (pv 3)))
        (pss_cons (ps_set (i := 5) scLa.nd rfl (by first | exact Or.inl rfl | exact Or.inr rfl) (pe_op op_cat (pe_lst (pa_cons (pv 1) pa_nil)) (pe_lc (own := [("_law_step_here", 6)]) (g := gName 6) (tt := tYes) (by rfl) scLa.nd (pi_list (pv 4)) (blkOk_by (N := nmLa) (sc := defScope sLLassos) (by decide +kernel))
                (fun _ _ _ _ _ => pg_name (i := 6) scLa.nd rfl (Or.inl rfl)) (fun _ _ _ _ _ => pts_nil) (fun _ _ _ _ _ => pe_ix (r := rIxT K) ix_tup (pv 6) pe_int (fun _ _ => rfl)))))
        (Evl.pss_cut (ps_for PassesOwn.never rfl (pi_list (pe_lc (own := [("_law_step_here", 6)]) (g := gName 6) (by rfl) scLa.nd (pi_list (pv 0)) (blkOk_by (N := nmLa) (sc := defScope sLLassos) (by decide +kernel))
                (fun _ _ _ _ _ => pg_name (i := 6) scLa.nd rfl (Or.inl rfl)) (fun _ _ _ _ _ => pts_one (pt_cmpR op_eq (pe_ix (r := rIxT K) ix_tup (pv 6) pe_int (fun _ _ => rfl)) (pe_ix (r := rIxL K) ix_list (pv 5) (pe_un un_neg pe_int) (fun _ _ => rfl)) (nomark _))) (fun _ _ _ _ _ => pv 6))) (pg_name (i := 6) scLa.nd rfl (.inl rfl))
            (pss_one (ps_if (pt_cmpR (r := rInD K) (op_inD (Room.u65 hr)) (pe_ix (r := rIxT K) ix_tup (pv 6) pe_int (fun _ _ => rfl)) (pv 5) (by rfl))
              (pss_cons (ps_set (i := 7) scLa.nd rfl (.inl rfl) (pe_bm PySem.F.plainAttrs_list PySem.F.slot_list_index PySem.F.type_list_index mt_index (pv 5) (pa_cons (pe_ix (r := rIxT K) ix_tup (pv 6) pe_int (fun _ _ => rfl)) pa_nil)))
              (pss_one (ps_expr (pe_bm PySem.F.plainAttrs_list PySem.F.slot_list_append PySem.F.type_list_append mt_append (pv 2) (pa_cons (pe_tup (pa_cons (pe_slice (r := rSlL K) sl_list (pv 4) po_none (po_some (pv 7))) (pa_cons (pe_op op_cat (pe_slice (r := rSlL K) sl_list (pv 4) (po_some (pv 7)) po_none) (pe_lst (pa_cons (pv 6) pa_nil))) pa_nil))) pa_nil)))))
              (pss_one (ps_expr (pe_bm PySem.F.plainAttrs_list PySem.F.slot_list_append PySem.F.type_list_append mt_append (pv 3) (pa_cons (pe_op op_cat (pv 4) (pe_lst (pa_cons (pv 6) pa_nil))) pa_nil))))))) pss_nil))))
      (pss_one (ps_ret (pv 2)))), ?_⟩
    have ixs : ∀ {G : Hp} {b : Addr} {s : St5}, Dp K G (.ref b) (stD s) → ∃ u, SqT K G b [.int s.one, .int s.other, .ref u, .int s.ticks, .int s.change] := fun h => by
      obtain ⟨t, u, e, h1, _⟩ := stD_inv h
      cases e
      exact ⟨u, h1⟩
    have hul := sts_len hD
    refine ⟨Nat.zero_le _, fun Fo hFo => ?_⟩
    have y1 := Ex.new (o := .lst []) hFo
    have f1 : upd H Fo (.lst []) Fo = some (.lst []) := upd_same
    generalize upd H Fo (.lst []) = G1 at y1 f1 ⊢
    refine ⟨Nat.zero_le _, fun q0 hq0 => ?_⟩
    have y2 := Ex.new (o := .lst []) hq0
    have f2 : upd G1 q0 (.lst []) q0 = some (.lst []) := upd_same
    have q00 := fresh_back y1 hq0
    have nq0 : q0 ≠ Fo := (ne_of_none f1 hq0).symm
    have f12 := y2 _ _ f1
    generalize upd G1 q0 (.lst []) = G2 at y2 f2 f12 ⊢
    refine ⟨by show 1 ≤ sizeLine; decide, fun W hW2 => ?_⟩
    have y3 := Ex.new (o := .lst [V.ref q0]) hW2
    have f3 : upd G2 W (.lst [V.ref q0]) W = some (.lst [V.ref q0]) := upd_same
    have hW := fresh_back (y1.trans y2) hW2
    have nqW : q0 ≠ W := ne_of_none f2 hW2
    have nFW : Fo ≠ W := ne_of_none f12 hW2
    have f13 := y3 _ _ f12
    have f23 := y3 _ _ f2
    have e03 := (y1.trans y2).trans y3
    generalize upd G2 W (.lst [V.ref q0]) = G3 at y3 f3 f13 f23 e03 ⊢
    refine ⟨_, _, rfl, ?_⟩
    refine ⟨fun σ G => ∃ (x3 x4 x5 x6 x7 : Option V) (fs : List V) (found : List (List St5 × List St5)), σ = [some (.ref g), some (.int v), some (.ref Fo), x3, x4, x5, x6, x7] ∧ Ex H G ∧ G Fo = some (.lst fs) ∧ LaL K H [Fo] G fs found ∧ (∀ f, f ∈ found ↔ Las ss v f.1 f.2) ∧ found.length ≤ 16384, ?_, ?_⟩
    case refine_2 =>
      rintro σ G ⟨x3, x4, x5, x6, x7, fs, found, rfl, q1, q2, q3, q4, q5⟩
      exact ⟨_, rfl, k G Fo fs found q1 hFo q2 q3 q4 q5⟩
    refine ⟨fun mm σ G => ∃ (x4 x5 x6 x7 : Option V) (fs qs : List V) (found : List (List St5 × List St5)) (ways : List (List St5)), σ = [some (.ref g), some (.int v), some (.ref Fo), some (.ref W), x4, x5, x6, x7] ∧ mzS ss ways = mm ∧ Ex H G ∧ G Fo = some (.lst fs) ∧ G W = some (.lst qs) ∧ LaL K H [Fo, W] G fs found ∧ WyL K H [Fo, W] G qs ways ∧ LCv ss v found ways ∧ mzS ss ways + found.length ≤ 16384,
      ⟨mzS ss [[]], _, _, _, _, [], [.ref q0], [], [[]], rfl, rfl, e03, f13, f3, .nil, .cons ⟨q0, [], rfl, q00, by simp [nq0, nqW], f23, .nil⟩ .nil, .begin, ?_⟩, ?_⟩
    · show 2 ^ rest ss [] + 0 + 0 ≤ 16384
      rw [rest_nil]
      have := Nat.pow_le_pow_right (show 0 < 2 by decide) hsz
      omega
    rintro mm σ G ⟨x4, x5, x6, x7, fs, qs, found, ways, rfl, rfl, e1, hF, hQ, hf, hw, hcv, hmz⟩
    refine ⟨_, rfl, Nat.zero_le _, fun l hl => ?_⟩
    have yl := Ex.new (o := .lst []) hl
    have fl : upd G l (.lst []) l = some (.lst []) := upd_same
    generalize upd G l (.lst []) = H1 at yl fl ⊢
    have e2 := e1.trans yl
    have hw1 : WyL K H [Fo, W] H1 qs ways := WyL.go (fun z o _ hz => yl _ _ hz) hw
    have hf1 : LaL K H [Fo, W] H1 fs found := LaL.go (fun z o _ hz => yl _ _ hz) hf
    refine ⟨.list (ways.map wkD), .list [], .lst (SqL.of (yl _ _ hQ)) (WyL.dpa e2 hw1), .lst (SqL.of fl) .nil, wkDs_shaped _, rfl, _, rfl, ?_⟩
    rw [eqv_wks_nil]
    have hF1 := yl _ _ hF
    have hQ1 := yl _ _ hQ
    have nFW' : W ≠ Fo := nFW.symm
    cases hwz : ways with
    | nil =>
      rw [hwz] at hcv
      exact iteF ⟨_, _, _, _, _, fs, found, rfl, e2, hF1, LaL.sub (by simp) hf1, hcv.end', by omega⟩
    | cons w0 wr =>
      refine iteT ?_
      obtain ⟨ps, p, us', u, rfl, ew, hps, hp⟩ := hw1.snoc (by rw [hwz]; simp)
      rw [← hwz, ew]
      rw [ew] at hmz hcv
      obtain ⟨e, hsw⟩ := hcv.sw u (by simp)
      have hmzE : mzS ss (us' ++ [u]) = mzS ss us' + mzR ss u := mzS_app ss us' [u]
      rw [hmzE] at hmz
      refine ⟨fun σ G => ∃ (x4 x5 x6 x7 : Option V) (fs qs : List V) (found : List (List St5 × List St5)) (ways : List (List St5)), σ = [some (.ref g), some (.int v), some (.ref Fo), some (.ref W), x4, x5, x6, x7] ∧ mzS ss ways < mzS ss (us' ++ [u]) ∧ Ex H G ∧ G Fo = some (.lst fs) ∧ G W = some (.lst qs) ∧ LaL K H [Fo, W] G fs found ∧ WyL K H [Fo, W] G qs ways ∧ LCv ss v found ways ∧ mzS ss ways + found.length ≤ 16384, ?_, ?_⟩
      · rintro σ' G' ⟨x4, x5, x6, x7, fs, qs, found, ways, e, lt, r⟩
        exact ⟨mzS ss ways, lt, x4, x5, x6, x7, fs, qs, found, ways, e, rfl, r⟩
      -- pop
      refine ⟨_, rfl, .inl ⟨rfl, _, SqL.of hQ1⟩, W, _, p, rfl, rfl, hQ1, by simp, ?_⟩
      rw [List.dropLast_concat]
      obtain ⟨q, xs, rfl, hq0', hqX, hq, hqd⟩ := hp
      have qF : q ≠ Fo := fun e => hqX (by rw [e]; simp)
      have qW : q ≠ W := fun e => hqX (by rw [e]; simp)
      have e3 : Ex H (upd H1 W (.lst ps)) := e2.mut hW
      have hF2 : upd H1 W (.lst ps) Fo = some (.lst fs) := by rw [upd_ne nFW]; exact hF1
      have hW2' : upd H1 W (.lst ps) W = some (.lst ps) := upd_same
      have hf2 : LaL K H [Fo, W] (upd H1 W (.lst ps)) fs found := LaL.go (fun z o hz hz2 => by
        have : z ≠ W := fun e => hz (by rw [e]; simp)
        rw [upd_ne this]
        exact hz2) hf1
      have hw2 : WyL K H [Fo, W] (upd H1 W (.lst ps)) ps us' := WyL.go (fun z o hz hz2 => by
        have : z ≠ W := fun e => hz (by rw [e]; simp)
        rw [upd_ne this]
        exact hz2) hps
      have hq2 : upd H1 W (.lst ps) q = some (.lst xs) := by rw [upd_ne qW]; exact hq
      generalize upd H1 W (.lst ps) = H2 at e3 hF2 hW2' hf2 hw2 hq2 ⊢
      have ul := hsw.few hvU hOU
      have hxl := sts_len hqd
      -- met
      refine ⟨_, rfl, by show 1 ≤ sizeLine; decide, fun l1 hl1 => ?_⟩
      have y4 := Ex.new (o := .lst [V.int v]) hl1
      have f4 : upd H2 l1 (.lst [V.int v]) l1 = some (.lst [V.int v]) := upd_same
      generalize upd H2 l1 (.lst [V.int v]) = H3 at y4 f4 ⊢
      refine ⟨_, rfl, q, rfl, ⟨_, SqL.of (y4 _ _ hq2)⟩, fun D hD0 => ?_⟩
      refine lc_list (xs := xs) (fun i G => Ex H3 G ∧ G D = some (.lst (((u.take i).map (·.other)).map V.int))) ⟨Ex.new hD0, upd_same⟩ (fun i G _ q' => SqL.of ((y4.trans q'.1) _ _ hq2)) ?_ ?_
      · rintro i x G hx ⟨q1, q2⟩
        obtain ⟨s, b, hs, rfl, hb⟩ := sts_get hqd hx
        have il := (List.getElem?_eq_some_iff.mp hs).1
        obtain ⟨_, p1⟩ := ixs (dp_ex (e3.trans (y4.trans q1)) _ _ hb)
        refine ⟨rfl, _, rfl, b, _, 1, .int s.other, rfl, rfl, p1, rfl, _, q2, ?_, q1.mut hD0, ?_⟩
        · rw [List.length_map, List.length_map, List.length_take]
          exact sz_m (by omega)
        · rw [upd_same, List.take_add_one, hs, List.map_append, List.map_append]
          rfl
      rintro H4 ⟨y5, hD4⟩
      rw [hxl, List.take_length] at hD4
      refine ⟨l1, D, _, _, rfl, rfl, y5 _ _ f4, hD4, sz_le (by rw [List.length_map, List.length_map]; show 1 + _ ≤ _; omega), fun M hM => ?_⟩
      have em : [V.int v] ++ (u.map (·.other)).map V.int = (v :: u.map (·.other)).map V.int := rfl
      rw [em]
      have y6 := Ex.new (o := .lst ((v :: u.map (·.other)).map V.int)) hM
      have f6 : upd H4 M (.lst ((v :: u.map (·.other)).map V.int)) M = some (.lst ((v :: u.map (·.other)).map V.int)) := upd_same
      have y26 := (y4.trans y5).trans y6
      generalize upd H4 M (.lst ((v :: u.map (·.other)).map V.int)) = H5 at y6 f6 y26 ⊢
      have e5 := e3.trans y26
      have hlast : atI ((v :: u.map (·.other)).map V.int) (-1) = some (.int e) := by
        rw [← wlk_ones hsw.wk, List.map_append]
        exact atI_last
      refine ⟨fun σ G => ∃ (x4 x5 x6 x7 : Option V) (fs qs : List V) (found : List (List St5 × List St5)) (ways : List (List St5)), σ = [some (.ref g), some (.int v), some (.ref Fo), some (.ref W), x4, x5, x6, x7] ∧ mzS ss ways < mzS ss (us' ++ [u]) ∧ Ex H G ∧ G Fo = some (.lst fs) ∧ G W = some (.lst qs) ∧ LaL K H [Fo, W] G fs found ∧ WyL K H [Fo, W] G qs ways ∧ LCv ss v found ways ∧ mzS ss ways + found.length ≤ 16384, ?_, fun σ G h => h⟩
      refine ⟨_, rfl, g, rfl, ⟨us, ex_l e5 hg⟩, fun D2 hD2 => ?_⟩
      refine lc_list (xs := us) (fun i G => Ex H5 G ∧ ∃ ys ms, G D2 = some (.lst ys) ∧ DpAll K H ys (List.map stD ms) ∧ (∀ s ∈ ms, s ∈ ss ∧ s.one = e) ∧ ms.length ≤ deg (ss.take i) e ∧ ∀ s ∈ ss.take i, s.one = e → s ∈ ms) ⟨Ex.new hD2, [], [], upd_same, .nil, (fun w hw => absurd hw (by simp)), Nat.zero_le _, fun s h => absurd h (by simp)⟩ (fun i G _ q' => ex_l (e5.trans q'.1) hg) ?_ ?_
      · rintro i x G hx ⟨q1, ys, ms, q2, q3, q4, q5, q6⟩
        obtain ⟨s, b, hs, rfl, hb⟩ := sts_get hD hx
        obtain ⟨_, p1⟩ := ixs (dp_ex (e5.trans q1) _ _ hb)
        have tk : ss.take (i + 1) = ss.take i ++ [s] := by rw [List.take_add_one, hs]; rfl
        have dg : deg (ss.take (i + 1)) e = deg (ss.take i) e + (if s.one = e then 1 else 0) := by
          unfold deg
          rw [tk, List.filter_append, List.length_append]
          by_cases z : s.one = e
          · rw [if_pos z, List.filter_cons_of_pos (by simpa using z)]
            rfl
          · rw [if_neg z, List.filter_cons_of_neg (by simpa using z)]
            rfl
        refine ⟨rfl, _, rfl, b, _, 0, .int s.one, rfl, rfl, p1, rfl, _, rfl, _, rfl, M, _, (-1 : Int), _, rfl, rfl, SqL.of (q1 _ _ f6), hlast, rfl, _, rfl, ?_⟩
        rw [dec_int]
        by_cases h1 : s.one = e
        case neg =>
          rw [decide_eq_false h1]
          rw [if_neg h1] at dg
          exact iteF ⟨q1, ys, ms, q2, q3, q4, by omega, fun z hz z1 => by
            rw [tk] at hz
            rcases List.mem_append.mp hz with hz | hz
            · exact q6 z hz z1
            · rw [List.mem_singleton.mp hz] at z1
              exact absurd z1 h1⟩
        rw [decide_eq_true h1]
        rw [if_pos h1] at dg
        have hyl := sts_len q3
        have hdl : deg (ss.take i) e ≤ 14 := by
          have h1 := deg_take (ss := ss) (p := e) i
          have h2 := deg_le (ss := ss) (p := e)
          omega
        refine iteT ⟨_, rfl, ys, q2, sz_m (by omega), q1.mut hD2, ys ++ [.ref b], ms ++ [s], upd_same, by rw [List.map_append]; exact dpa_app q3 (.cons hb .nil), fun z hz => ?_, by rw [List.length_append, List.length_singleton]; omega, fun z hz z1 => by
          rw [tk] at hz
          rcases List.mem_append.mp hz with hz | hz
          · exact List.mem_append_left _ (q6 z hz z1)
          · exact List.mem_append_right _ hz⟩
        rcases List.mem_append.mp hz with hz | hz
        · exact q4 z hz
        · rw [List.mem_singleton.mp hz]
          exact ⟨mem_of_get hs, h1⟩
      rintro H6 ⟨y7, ys, ms, hD26, hms, hmo, hmd, hmall⟩
      rw [hul, List.take_length] at hmd hmall
      have hyl := sts_len hms
      have hdl := deg_le (ss := ss) (p := e)
      have y27 := y26.trans y7
      have e6 := e5.trans y7
      have f7 := y7 _ _ f6
      have hF6 := y27 _ _ hF2
      have hW6 := y27 _ _ hW2'
      have hf6 : LaL K H [Fo, W] H6 fs found := LaL.go (fun z o _ hz => y27 _ _ hz) hf2
      have hw6 : WyL K H [Fo, W] H6 ps us' := WyL.go (fun z o _ hz => y27 _ _ hz) hw2
      have hq6 := y27 _ _ hq2
      have hFH4 := (y4.trans y5) _ _ hF2
      have hWH4 := (y4.trans y5) _ _ hW2'
      have MF : M ≠ Fo := (ne_of_none hFH4 hM).symm
      have MW : M ≠ W := (ne_of_none hWH4 hM).symm
      have DF : D2 ≠ Fo := (ne_of_none (y26 _ _ hF2) hD2).symm
      have DW : D2 ≠ W := (ne_of_none (y26 _ _ hW2') hD2).symm
      have mzE : mzS ss us' + mzR ss u + found.length ≤ 16384 := hmz
      have hml := mzS_len ss us'
      have mpos := mzR_pos ss u
      refine ⟨D2, rfl, ⟨_, SqL.of hD26⟩, ?_⟩
      refine for_list (K := K) (a := D2) (xs := ys) (fun i σ G => ∃ (x6 x7 : Option V) (fs' qs' : List V) (laps : List (List St5 × List St5)) (news : List (List St5)), σ = [some (.ref g), some (.int v), some (.ref Fo), some (.ref W), some (.ref q), some (.ref M), x6, x7] ∧ Ex H G ∧ G q = some (.lst xs) ∧ G M = some (.lst ((v :: u.map (·.other)).map V.int)) ∧ G D2 = some (.lst ys) ∧ G Fo = some (.lst fs') ∧ G W = some (.lst qs') ∧
          LaL K H [Fo, W] G fs' (found ++ laps) ∧ WyL K H [Fo, W] G qs' (us' ++ news) ∧ (∀ f ∈ laps, Las ss v f.1 f.2) ∧ (∀ w ∈ news, ∃ s, w = u ++ [s] ∧ s.one = e ∧ Sw ss v w s.other) ∧ laps.length + news.length ≤ i ∧ ∀ s ∈ ms.take i, (∀ j : Nat, (v :: u.map (·.other))[j]? = some s.other → (u.take j, u.drop j ++ [s]) ∈ laps) ∧ (s.other ∉ v :: u.map (·.other) → u ++ [s] ∈ news))
        ⟨x6, x7, fs, ps, [], [], rfl, e6, hq6, f7, hD26, hF6, hW6, by rw [List.append_nil]; exact hf6, by rw [List.append_nil]; exact hw6, (fun f h => absurd h (by simp)), (fun w h => absurd h (by simp)), Nat.le_refl _, fun s h => absurd h (by simp)⟩ (fun i σ G _ ⟨_, _, _, _, _, _, _, _, _, _, h, _⟩ => SqL.of h) ?_ ?_
      · rintro i x σ G hx ⟨x6, x7, fs', qs', laps, news, rfl, eG, gq, gM, gD, gF, gW, gla, gwy, hlaps, hnews, hlen, hdone⟩
        have il := (List.getElem?_eq_some_iff.mp hx).1
        obtain ⟨s, b, hs, rfl, hb⟩ := sts_get hms hx
        obtain ⟨hss, hso⟩ := hmo s (mem_of_get hs)
        have tkm : ms.take (i + 1) = ms.take i ++ [s] := by rw [List.take_add_one, hs]; rfl
        obtain ⟨_, p1⟩ := ixs (dp_ex eG _ _ hb)
        have hsw' : Sw ss v u s.one := by rw [hso]; exact hsw
        refine ⟨_, rfl, b, _, 1, .int s.other, rfl, rfl, p1, rfl, _, rfl, .int s.other, (v :: u.map (·.other)).map PyData.int, .int _, .lst (SqL.of gM) (dp_ints _), rfl, shaped_ints _, _, rfl, ?_⟩
        rw [any_int]
        by_cases hin : s.other ∈ v :: u.map (·.other)
        · rw [decide_eq_true hin]
          obtain ⟨j, hj⟩ := List.getElem?_of_mem hin
          have gj : ((v :: u.map (·.other)).map V.int)[j]? = some (.int s.other) := by rw [List.getElem?_map, hj]; rfl
          refine iteT ?_
          refine ⟨_, rfl, .inl ⟨rfl, _, SqL.of gM⟩, _, rfl, b, _, 1, .int s.other, rfl, rfl, p1, rfl, M, _, .int s.other, j, .int s.other, rfl, rfl, SqL.of gM, rfl, ?_, gj, beq_self_eq_true s.other, fun n z hn hz => ?_, ?_⟩
          · rw [List.all_eq_true]
            intro v hv
            obtain ⟨c, _, rfl⟩ := List.mem_map.mp hv
            rfl
          · rw [List.getElem?_map] at hz
            cases hn' : (v :: u.map (·.other))[n]? with
            | none =>
              rw [hn'] at hz
              cases hz
            | some sn =>
              rw [hn'] at hz
              cases (Option.some.inj hz)
              refine beq_false_of_ne fun (z : sn = s.other) => ?_
              rw [z] at hn'
              have := nodup_at hsw.nd hn' hj
              omega
          refine ⟨_, rfl, .inl ⟨rfl, _, SqL.of gF⟩, ?_⟩
          obtain ⟨cu1, cu2⟩ := sts_cut j hqd
          refine ⟨_, rfl, _, rfl, _, rfl, q, xs, rfl, SqL.of gq, fun c1 hc1 => ?_⟩
          rw [cut_to]
          have z1 := Ex.new (o := .lst (xs.take j)) hc1
          have g1 : upd G c1 (.lst (xs.take j)) c1 = some (.lst (xs.take j)) := upd_same
          generalize upd G c1 (.lst (xs.take j)) = G7 at z1 g1 ⊢
          refine ⟨_, rfl, _, rfl, _, rfl, q, xs, rfl, SqL.of (z1 _ _ gq), fun c2 hc2 => ?_⟩
          rw [cut_from]
          have z2 := Ex.new (o := .lst (xs.drop j)) hc2
          have g2 : upd G7 c2 (.lst (xs.drop j)) c2 = some (.lst (xs.drop j)) := upd_same
          generalize upd G7 c2 (.lst (xs.drop j)) = G8 at z2 g2 ⊢
          refine ⟨_, rfl, by show 1 ≤ sizeLine; decide, fun l3 hl3 => ?_⟩
          have z3 := Ex.new (o := .lst [V.ref b]) hl3
          have g3 : upd G8 l3 (.lst [V.ref b]) l3 = some (.lst [V.ref b]) := upd_same
          generalize upd G8 l3 (.lst [V.ref b]) = G9 at z3 g3 ⊢
          refine ⟨c2, l3, _, _, rfl, rfl, z3 _ _ g2, g3, sz_le (by rw [List.length_drop]; show _ + 1 ≤ _; omega), fun c3 hc3 => ?_⟩
          have z4 := Ex.new (o := .lst (xs.drop j ++ [V.ref b])) hc3
          have g4 : upd G9 c3 (.lst (xs.drop j ++ [V.ref b])) c3 = some (.lst (xs.drop j ++ [V.ref b])) := upd_same
          generalize upd G9 c3 (.lst (xs.drop j ++ [V.ref b])) = G10 at z4 g4 ⊢
          refine ⟨by show 2 ≤ sizeLine; decide, fun T hT => ?_⟩
          have z5 := Ex.new (o := .tup [V.ref c1, V.ref c3]) hT
          have g5 : upd G10 T (.tup [V.ref c1, V.ref c3]) T = some (.tup [V.ref c1, V.ref c3]) := upd_same
          have z14 := ((z1.trans z2).trans z3).trans z4
          have TF : T ≠ Fo := (ne_of_none (z14 _ _ gF) hT).symm
          have TW : T ≠ W := (ne_of_none (z14 _ _ gW) hT).symm
          have c1F : c1 ≠ Fo := (ne_of_none gF hc1).symm
          have c1W : c1 ≠ W := (ne_of_none gW hc1).symm
          have c3F : c3 ≠ Fo := (ne_of_none (((z1.trans z2).trans z3) _ _ gF) hc3).symm
          have c3W : c3 ≠ W := (ne_of_none (((z1.trans z2).trans z3) _ _ gW) hc3).symm
          have z15 := z14.trans z5
          have h1 := (((z2.trans z3).trans z4).trans z5) _ _ g1
          have h3 := z5 _ _ g4
          generalize upd G10 T (.tup [V.ref c1, V.ref c3]) = G11 at z5 g5 z15 h1 h3 ⊢
          refine ⟨Fo, fs', _, rfl, rfl, z15 _ _ gF, ?_, ?_⟩
          · rw [gla.len, List.length_append]
            exact sz_m (by omega)
          have kp : ∀ z o, z ∉ [Fo, W] → G z = some o → upd G11 Fo (.lst (fs' ++ [.ref T])) z = some o := fun z o hz hz2 => by
            have : z ≠ Fo := fun e => hz (by rw [e]; simp)
            rw [upd_ne this]
            exact z15 _ _ hz2
          refine ⟨_, _, fs' ++ [.ref T], qs', laps ++ [(u.take j, u.drop j ++ [s])], news, rfl, (eG.trans z15).mut hFo, kp _ _ hqX gq, kp _ _ (by simp [MF, MW]) gM, kp _ _ (by simp [DF, DW]) gD, upd_same, by rw [upd_ne nFW']; exact z15 _ _ gW, ?_, WyL.go kp gwy, fun f hf => ?_, hnews, by rw [List.length_append, List.length_singleton]; omega, fun z hz => ?_⟩
          · rw [← List.append_assoc]
            refine LaL.app (LaL.go kp gla) (.cons ⟨T, c1, c3, xs.take j, xs.drop j ++ [.ref b], rfl, by simp [TF, TW], by simp [c1F, c1W], by simp [c3F, c3W], by rw [upd_ne TF]; exact g5, by rw [upd_ne c1F]; exact h1, by rw [upd_ne c3F]; exact h3, cu1, ?_⟩ .nil)
            show DpAll K H (xs.drop j ++ [V.ref b]) ((u.drop j ++ [s]).map stD)
            rw [List.map_append]
            exact dpa_app cu2 (.cons hb .nil)
          · rcases List.mem_append.mp hf with hf | hf
            · exact hlaps f hf
            · rw [List.mem_singleton.mp hf]
              exact hsw'.lasso hss hj
          · rw [tkm] at hz
            rcases List.mem_append.mp hz with hz | hz
            · exact ⟨fun j2 hj2 => List.mem_append_left _ ((hdone z hz).1 j2 hj2), (hdone z hz).2⟩
            · rw [List.mem_singleton.mp hz]
              refine ⟨fun j2 hj2 => ?_, fun h => absurd hin h⟩
              rw [nodup_at hsw.nd hj2 hj]
              simp
        · rw [decide_eq_false hin]
          refine iteF ?_
          refine ⟨_, rfl, .inl ⟨rfl, _, SqL.of gW⟩, _, rfl, _, rfl, by show 1 ≤ sizeLine; decide, fun l2 hl2 => ?_⟩
          have z1 := Ex.new (o := .lst [V.ref b]) hl2
          have g1 : upd G l2 (.lst [V.ref b]) l2 = some (.lst [V.ref b]) := upd_same
          generalize upd G l2 (.lst [V.ref b]) = G7 at z1 g1 ⊢
          refine ⟨q, l2, xs, _, rfl, rfl, z1 _ _ gq, g1, sz_le (by show _ + 1 ≤ _; omega), fun q' hq' => ?_⟩
          have z2 := Ex.new (o := .lst (xs ++ [V.ref b])) hq'
          have g2 : upd G7 q' (.lst (xs ++ [V.ref b])) q' = some (.lst (xs ++ [V.ref b])) := upd_same
          have q'F : q' ≠ Fo := (ne_of_none (z1 _ _ gF) hq').symm
          have q'W : q' ≠ W := (ne_of_none (z1 _ _ gW) hq').symm
          have q'0 : H q' = none := fresh_back (eG.trans z1) hq'
          have z12 := z1.trans z2
          generalize upd G7 q' (.lst (xs ++ [V.ref b])) = G8 at z2 g2 z12 ⊢
          refine ⟨W, qs', _, rfl, rfl, z12 _ _ gW, ?_, ?_⟩
          · rw [gwy.len, List.length_append]
            exact sz_m (by omega)
          have kp : ∀ z o, z ∉ [Fo, W] → G z = some o → upd G8 W (.lst (qs' ++ [.ref q'])) z = some o := fun z o hz hz2 => by
            have : z ≠ W := fun e => hz (by rw [e]; simp)
            rw [upd_ne this]
            exact z12 _ _ hz2
          refine ⟨_, _, fs', qs' ++ [.ref q'], laps, news ++ [u ++ [s]], rfl, (eG.trans z12).mut hW, kp _ _ hqX gq, kp _ _ (by simp [MF, MW]) gM, kp _ _ (by simp [DF, DW]) gD, by rw [upd_ne nFW]; exact z12 _ _ gF, upd_same, LaL.go kp gla, ?_, hlaps, fun w hw => ?_, by rw [List.length_append, List.length_singleton]; omega, fun z hz => ?_⟩
          · rw [← List.append_assoc]
            refine WyL.app (WyL.go kp gwy) (.cons ⟨q', xs ++ [.ref b], rfl, q'0, by simp [q'F, q'W], by rw [upd_ne q'W]; exact g2, ?_⟩ .nil)
            rw [List.map_append]
            exact dpa_app hqd (.cons hb .nil)
          · rcases List.mem_append.mp hw with hw | hw
            · exact hnews w hw
            · exact ⟨s, List.mem_singleton.mp hw, hso, by rw [List.mem_singleton.mp hw]; exact hsw'.more hss hin⟩
          · rw [tkm] at hz
            rcases List.mem_append.mp hz with hz | hz
            · exact ⟨(hdone z hz).1, fun h => List.mem_append_left _ ((hdone z hz).2 h)⟩
            · rw [List.mem_singleton.mp hz]
              exact ⟨fun j2 hj2 => absurd (mem_of_get hj2) hin, fun _ => by simp⟩
      · rintro σ G ⟨x6, x7, fs', qs', laps, news, rfl, eG, gq, gM, gD, gF, gW, gla, gwy, hlaps, hnews, hlen, hdone⟩
        rw [hyl, List.take_length] at hdone
        have hc : mzS ss news + laps.length < mzR ss u := by
          by_cases hm0 : ms = []
          · have h1 : laps.length = 0 := by
              rw [hyl, hm0] at hlen
              simp at hlen
              rw [hlen.1]
              rfl
            have h2 : news = [] := by
              rw [hyl, hm0] at hlen
              simp at hlen
              exact hlen.2
            rw [h1, h2]
            exact mpos
          · obtain ⟨s0, hs0⟩ := List.exists_mem_of_ne_nil _ hm0
            have hlt := mzS_lt (p := e) (u := u) (ss := ss) (news := news ++ List.replicate laps.length (u ++ [s0])) hsw.fresh (fun w hw => by
              rcases List.mem_append.mp hw with hw | hw
              · obtain ⟨s, h1, h2, _⟩ := hnews w hw
                exact ⟨s, h1, h2⟩
              · exact ⟨s0, List.eq_of_mem_replicate hw, (hmo s0 hs0).2⟩) (by rw [List.length_append, List.length_replicate]; omega)
            rw [mzS_app] at hlt
            have := mzS_len ss (List.replicate laps.length (u ++ [s0]))
            rw [List.length_replicate] at this
            omega
        refine ⟨_, _, x6, x7, fs', qs', found ++ laps, us' ++ news, rfl, ?_, eG, gF, gW, gla, gwy, ?_, ?_⟩
        · rw [mzS_app, mzS_app]
          have : mzS ss [u] = mzR ss u := rfl
          omega
        · exact hcv.round hsw hlaps (fun w hw => (hnews w hw).imp' St5.other fun s h => h.2.2) (fun s s1 s2 j hj => (hdone s (hmall s s1 s2)).1 j hj) (fun s s1 s2 hn => (hdone s (hmall s s1 s2)).2 hn)
        · rw [mzS_app, List.length_append]
          omega
end
end AA

set_option Elab.async false
set_option linter.all false
set_option maxRecDepth 100000
set_option maxHeartbeats 4000000
/-! way_on. -/
namespace AA
open PySem PySem.Spec PyProof.Rows L2 Evl
section
variable {P : Program} {w : World} {K : PySem.W.Frag} {mg : Str → Option Value} {base : Heap}
/-- what way_on tells where it is asked aright -/
def WonOk (K : PySem.W.Frag) (X : Addr → Prop) (ss : List St5) (i N : Int) (H : Hp) (kd : Addr) (Q : VK) : Prop := ∀ (H' : Hp) (nd : List (Int × Int)), Ex (hid kd kd H) H' → KnX X ss H' kd → NOk ss nd →
  ((∀ x, gt nd i = some x → N < x) → Q .non H') ∧
  ∀ (x : Int) (T a b : Addr) (xs ys : List V) (W R : List St5), gt nd i = some x → x ≤ N → H T = none → H a = none → H b = none → a ≠ b → H' T = some (.tup [.ref a, .ref b]) → H' a = some (.lst xs) → H' b = some (.lst ys) → DpAll K H' xs (W.map stD) → DpAll K H' ys (R.map stD) → wayOf (nxt ss (gt nd)) i = (W, R) → Way ss i N W R → Q (.ref T) H'
def spWon (K : PySem.W.Frag) (C CB CK : Addr) : Sp := fun vs H Q E => ∃ (x : Addr) (v u : V), vs = [.ref x, v, u] ∧ ((∃ (n : Int) (ss : List St5), WebAt K C H x n ss ∧ NoPlc K H n v ∧ BadE CB "place" H v E) ∨
  (∃ (n : Int) (ss : List St5) (i : Int), WebAt K C H x n ss ∧ v = .int i ∧ 0 ≤ i ∧ i < n ∧ NoStk K H u ∧ BadE CK "stock" H u E) ∨
  ∃ (kd : Addr) (n : Int) (ss : List St5) (U : List Int) (X : Addr → Prop) (i N : Int), WebK K C H x kd n ss ∧ StB U ss ∧ (∀ s ∈ ss, s.change ≤ 9) ∧ KnX X ss H kd ∧ (∀ z, X z → ∃ o, H z = some o) ∧ ¬ X kd ∧
  v = .int i ∧ 0 ≤ i ∧ i < n ∧ i ∈ U ∧ u = .int N ∧ 0 ≤ N ∧ WonOk K X ss i N H kd Q)
abbrev nmWo : List Str := ["web", "place", "stock", "needs", "ahead", "walk", "stood", "step"]
theorem scWo : FnScope nmWo ["web", "place", "stock"] (defScope sWayOn) := ⟨rfl, rfl, rfl, by decide +kernel, rfl, by decide +kernel, by decide +kernel⟩
theorem ok_won {f C CB CK fP fK gS : Addr} {fd fdP fdK ddS : FuncData} (F : L2.Fun K "way_on" "way_on" sWayOn f fd) (B : Bn mg) (T : WebTxt K mg C) (GPl : FnOk P w K mg base (L2.CX P w) 3 fP fdP ["web", "place"] (spPlc K C CB)) (mPl : mg "check_place" = some (.ref fP)) (kPl : PySem.W.keepIn K (.ref fP) = true) (bPl : Binds K fdP ["web", "place"] [])
    (GSt : FnOk P w K mg base (L2.CX P w) 3 fK fdK ["stock"] (spStkC K CK)) (mSt : mg "check_stock" = some (.ref fK)) (kSt : PySem.W.keepIn K (.ref fK) = true) (bSt : Binds K fdK ["stock"] [])
    (GS : FnOk P w K mg base CX0 1 gS ddS ["self"] (spSteps K C)) (bS : Binds K ddS ["self"] []) (mS : Meth K C "steps" gS)
    (cN : C8.Cal P w K mg base 6 "needs_on" (spNon K C) []) (cL : C8.Cal P w K mg base 1 "leaving" (spLea K) []) (cS : C8.Cal P w K mg base 1 "safe_step" (spSfs K) []) : FnOk P w K mg base (L2.CX P w) 7 f fd ["web", "place", "stock"] (spWon K C CB CK) := by
  refine F.okX scWo (fun vs H Q E h => ?_) (fun cdv A outer s H vs Q E hr h => ?_)
  · obtain ⟨x, v, u, rfl, _⟩ := h
    rfl
  · obtain ⟨x, v, u, rfl, h⟩ := h
    have hu := hr.un
    have hr1 : Room 1 _ := hr.mono (by decide)
    have hu1 : (A.deeper (envOfC "way_on" (defScope sWayOn) s.heap.objs.size f cdv)).units + 1 < cLine := by omega
    refine ⟨_, pss_cons (ps_expr (pe_callS (E := WE fun cls d _ H => E cls d H) GPl (hr.mono (by decide)) (by rfl) mPl kPl bPl (fun σ => passAt (takes_of rfl rfl rfl rfl) σ) (pa_cons (pv 0) (pa_cons (pv 1) pa_nil))))
      (pss_cons (ps_expr (pe_callS (E := WE fun cls d _ H => E cls d H) GSt (hr.mono (by decide)) (by rfl) mSt kSt bSt (fun σ => passAt (takes_of rfl rfl rfl rfl) σ) (pa_cons (pv 2) pa_nil)))
      (pss_cons (ps_set (i := 3) scWo.nd rfl (Or.inl rfl) (C8.pe_c cN hr (by decide) (by rfl) (pa_cons (pv 0) pa_nil)))
      (pss_cons (ps_if (PW.pt (pw_or (pt_cmp (pc_dnotin hu1 (pv 1) (pv 3))) (pw_or1 (pt_cmpR op_lt (pv 2) (pe_dget hu1 (pv 3) (pv 1) (fun _ _ => rfl)) (nomark _))))) (pss_one (ps_ret pe_non)) pss_nil)
      (pss_cons (ps_set (i := 4) scWo.nd rfl (Or.inl rfl) (C8.pe_c cL hr (by decide) (by rfl) (pa_cons (pe_meth0 (pv 0) T.cl mS GS hr1 bS .nil pass0) pa_nil)))
      (pss_cons (ps_set (i := 5) scWo.nd rfl (Or.inl rfl) (pe_lst pa_nil))
      (pss_cons (ps_set (i := 6) scWo.nd rfl (Or.inl rfl) pe_dnewK)
      (pss_cons (ps_while (passes_of rfl) (pt_cmp (pc_dnotin hu1 (pv 1) (pv 6)))
          (pss_cons (ps_dput hu1 (pv 6) (pv 1) (pe_callB call_len_seq (by rfl) B.len PySem.boot_len (pa_cons (pv 5) pa_nil)) (by rfl))
          (pss_cons (ps_set (i := 7) scWo.nd rfl (Or.inl rfl) (C8.pe_c cS hr (by decide) (by rfl) (pa_cons (pv 3) (pa_cons (pe_dget hu1 (pv 4) (pv 1) (fun _ _ => rfl)) pa_nil))))
          (pss_cons (ps_expr (pe_bm PySem.F.plainAttrs_list PySem.F.slot_list_append PySem.F.type_list_append mt_append (pv 5) (pa_cons (pv 7) pa_nil)))
          (pss_one (ps_set (i := 1) scWo.nd rfl (Or.inl rfl) (pe_ix (r := rIxT K) ix_tup (pv 7) pe_int (fun _ _ => rfl))))))))
      (pss_one (ps_ret (pe_tup (pa_cons (pe_slice (r := rSlL K) sl_list (pv 5) po_none (po_some (pe_dget hu1 (pv 6) (pv 1) (fun _ _ => rfl)))) (pa_cons (pe_slice (r := rSlL K) sl_list (pv 5) (po_some (pe_dget hu1 (pv 6) (pv 1) (fun _ _ => rfl))) po_none) pa_nil)))))))))))), ?_⟩
    rcases h with ⟨n, ss, hw, hb, kb⟩ | ⟨n, ss, i, hw, rfl, i0, i1, hb, kb⟩ | ⟨kd, n, ss, U, X, i, N, hw, hB, hc9, hkn, hX, hXk, rfl, i0, i1, hiU, rfl, N0, k⟩
    · exact ⟨_, rfl, _, rfl, x, n, ss, v, rfl, hw, .inl ⟨hb, kb⟩⟩
    · refine ⟨_, rfl, _, rfl, x, n, ss, _, rfl, hw, .inr ⟨i, rfl, i0, i1, ?_⟩⟩
      exact ⟨_, rfl, u, rfl, .inl ⟨hb, kb⟩⟩
    refine ⟨_, rfl, _, rfl, x, n, ss, _, rfl, hw.at, .inr ⟨i, rfl, i0, i1, ?_⟩⟩
    refine ⟨_, rfl, _, rfl, .inr ⟨N, rfl, N0, ?_⟩⟩
    refine ⟨_, rfl, x, kd, n, ss, U, X, rfl, hw, hB, hkn, hX, hXk, fun H2 Nn nd e2 hkn2 Nk hN nok nl => ?_⟩
    obtain ⟨k0, k1⟩ := k H2 nd e2 hkn2 nok
    have gN := rd_get (.inl hN) i
    refine ⟨_, rfl, _, rfl, Nn, _, rfl, gN, ?_⟩
    cases hgx : gt nd i with
    | none =>
      refine ⟨_, rfl, iteT ?_⟩
      exact k0 fun x h => by rw [hgx] at h; cases h
    | some x0 =>
    rw [hgx] at gN
    refine ⟨_, rfl, iteF ?_⟩
    refine ⟨_, rfl, _, rfl, _, rfl, Nn, _, rfl, gN, _, _, rfl, rfl, _, rfl, ?_⟩
    refine dec_ite (fun z => k0 fun x h => by rw [hgx] at h; cases h; exact z) (fun hx0 => ?_)
    have hxN : x0 ≤ N := by omega
    obtain ⟨hz, hU, hUl, hcm⟩ := hB
    have hU1 : ∀ s ∈ ss, s.one ∈ U := fun s hs => (hU s hs).1
    have pos : ∀ p y, gt nd p = some y → 0 ≤ y := fun p y h => (nok.num p y h).1
    -- the steps by where they leave
    obtain ⟨lk, hlk⟩ := hkn.dk
    have hw2 : WebK K C H2 x kd n ss := hw.hid hlk e2
    obtain ⟨dx2, l2, ys2, hx2, _⟩ := id hw2
    have no : (wf n l2 kd).lookup ("steps" : Str) = none := wf_no _ _ _ (by decide +kernel) (by decide +kernel) (by decide +kernel)
    refine ⟨_, rfl, x, dx2, _, rfl, hx2, no, x, n, ss, rfl, hw2.at, fun l vs hl hvs => ?_⟩
    have y1 := Ex.new (o := .lst vs) hl
    have j1 : upd H2 l (.lst vs) l = some (.lst vs) := upd_same
    generalize upd H2 l (.lst vs) = H3 at y1 j1 ⊢
    refine ⟨l, vs, ss, rfl, SqL.of j1, dpa_ex y1 _ _ hvs, hz, fun H4 Ah y2 A0 hA => ?_⟩
    have e4 := y1.trans y2
    have hN4 := e4 _ _ hN
    have hkn4 : KnX X ss H4 kd := hkn2.go hXk fun z o _ h => e4 _ _ h
    refine ⟨Nat.zero_le _, fun Wk hWk => ?_⟩
    have y3 := Ex.new (o := .lst []) hWk
    have j3 : upd H4 Wk (.lst []) Wk = some (.lst []) := upd_same
    generalize upd H4 Wk (.lst []) = H5 at y3 j3 ⊢
    intro D hD
    have y4 := Ex.new (o := .dK []) hD
    have j4 : upd H5 D (.dK []) D = some (.dK []) := upd_same
    have WD : Wk ≠ D := ne_of_none j3 hD
    have D4 : H4 D = none := fresh_back y3 hD
    have j34 := y4 _ _ j3
    generalize upd H5 D (.dK []) = H6 at y4 j4 j34 ⊢
    have e6 := y3.trans y4
    refine ⟨fun mm σ G => ∃ (x7 : Option V) (L : List St5) (ws : List V) (p : Int), σ = [some (.ref x), some (.int p), some (.int N), some (.ref Nn), some (.ref Ah), some (.ref Wk), some (.ref D), x7] ∧ 64 - L.length = mm ∧ Ex H4 G ∧ G Wk = some (.lst ws) ∧ DpAll K H4 ws (L.map stD) ∧ G D = some (.dK (smK (stO 0 L))) ∧ Chn (nxt ss (gt nd)) i L p ∧ (∃ y, gt nd p = some y) ∧ p ∈ U,
      ⟨_, none, [], [], i, rfl, rfl, e6, j34, .nil, j4, .nil, ⟨x0, hgx⟩, hiU⟩, ?_⟩
    rintro mm σ G ⟨x7, L, ws, p, rfl, rfl, eG, hW, hws, hDG, ch, ⟨y, hy⟩, hpU⟩
    have hll := ch.len hU1
    have hwl := sts_len hws
    refine ⟨_, rfl, _, rfl, D, _, rfl, DGet.k (k := Sum.inl p) hDG, ?_⟩
    rw [smK_val]
    cases hst : gt (stO 0 L) p with
    | some j0 =>
      refine ⟨_, rfl, iteF ?_⟩
      obtain ⟨j, rfl, jl, ew, w1, w2⟩ := ch.end' hst (by omega)
      have hway := ch.way hU1 hUl pos hgx hxN jl w1 w2
      have gD : ∀ {G' : Hp}, G' D = some (.dK (smK (stO 0 L))) → DGet G' D (.int p) (some (.int (j : Int))) := fun {G'} h => by
        have z := DGet.k (k := Sum.inl p) h
        rw [smK_val, hst] at z
        exact z
      obtain ⟨cu1, cu2⟩ := sts_cut j hws
      refine ⟨_, rfl, _, rfl, _, rfl, D, _, rfl, gD hDG, _, rfl, Wk, ws, rfl, SqL.of hW, fun a ha => ?_⟩
      rw [cut_to]
      have z1 := Ex.new (o := .lst (ws.take j)) ha
      have g1 : upd G a (.lst (ws.take j)) a = some (.lst (ws.take j)) := upd_same
      generalize upd G a (.lst (ws.take j)) = G7 at z1 g1 ⊢
      refine ⟨_, rfl, _, rfl, _, rfl, D, _, rfl, gD (z1 _ _ hDG), _, rfl, Wk, ws, rfl, SqL.of (z1 _ _ hW), fun b hb => ?_⟩
      rw [cut_from]
      have z2 := Ex.new (o := .lst (ws.drop j)) hb
      have g2 : upd G7 b (.lst (ws.drop j)) b = some (.lst (ws.drop j)) := upd_same
      have nab : a ≠ b := ne_of_none g1 hb
      generalize upd G7 b (.lst (ws.drop j)) = G8 at z2 g2 ⊢
      refine ⟨by show 2 ≤ sizeLine; decide, fun Tt hT => ?_⟩
      have z3 := Ex.new (o := .tup [V.ref a, V.ref b]) hT
      have g3 : upd G8 Tt (.tup [V.ref a, V.ref b]) Tt = some (.tup [V.ref a, V.ref b]) := upd_same
      generalize upd G8 Tt (.tup [V.ref a, V.ref b]) = G9 at z3 g3 ⊢
      have e9 : Ex H4 G9 := eG.trans ((z1.trans z2).trans z3)
      have e29 := e4.trans e9
      have hkn9 : KnX X ss G9 kd := hkn4.go hXk fun z o _ h => e9 _ _ h
      have fr : ∀ {z : Addr}, H2 z = none → H z = none := fun {z} h => by
        cases hq : H z with
        | none => rfl
        | some o =>
          have n1 : z ≠ kd := fun q => by
            obtain ⟨l3, h3⟩ := hkn2.dk
            rw [q, h3] at h
            cases h
          rw [e2 _ _ (show hid kd kd H z = _ by rw [hid_ne n1 n1]; exact hq)] at h
          cases h
      have e2G := e4.trans eG
      exact (k G9 nd (fun z o hz => e29 _ _ (e2 _ _ hz)) hkn9 nok).2 x0 Tt a b _ _ _ _ hgx hxN (fr (fresh_back ((e2G.trans z1).trans z2) hT)) (fr (fresh_back e2G ha)) (fr (fresh_back (e2G.trans z1) hb)) nab g3 (z3 _ _ (z2 _ _ g1)) (z3 _ _ g2) (dpa_ex e9 _ _ cu1) (dpa_ex e9 _ _ cu2) ew hway
    | none =>
      refine ⟨_, rfl, iteT ?_⟩
      have hp : p ∉ L.map (·.one) := stO_no.mp hst
      refine ⟨fun σ G => ∃ (x7 : Option V) (L' : List St5) (ws : List V) (p : Int), σ = [some (.ref x), some (.int p), some (.int N), some (.ref Nn), some (.ref Ah), some (.ref Wk), some (.ref D), x7] ∧ L'.length = L.length + 1 ∧ Ex H4 G ∧ G Wk = some (.lst ws) ∧ DpAll K H4 ws (L'.map stD) ∧ G D = some (.dK (smK (stO 0 L'))) ∧ Chn (nxt ss (gt nd)) i L' p ∧ (∃ y, gt nd p = some y) ∧ p ∈ U, ?_, ?_⟩
      · rintro σ' G' ⟨x7, L', ws, p, e, hl', r⟩
        exact ⟨64 - L'.length, by omega, x7, L', ws, p, e, rfl, r⟩
      obtain ⟨s0, hs0, ho0, sf0⟩ := nok.safe hpU hU hc9 hy
      obtain ⟨s, hs⟩ := nxt_is hs0 ho0 sf0
      obtain ⟨hss, hso, hsf⟩ := nxt_some hs
      -- where one stands now
      refine ⟨_, rfl, Wk, ws, rfl, .inl (SqL.of hW), _, rfl, _, rfl, D, _, rfl, DPut.k (k := Sum.inl p) hDG ?_, ?_⟩
      · unfold smK
        rw [List.length_map, stO_len]
        exact sz_m (by omega)
      have hpk : putK (smK (stO 0 L)) (Sum.inl p) (V.int (ws.length : Nat)) = smK (stO 0 (L ++ [s])) := by
        rw [putK_new _ (by rw [smK_val, hst]; rfl), stO_snoc, Nat.zero_add, hso, hwl]
        unfold smK
        rw [List.map_append]
        rfl
      rw [hpk]
      have eG2 : Ex H4 (upd G D (.dK (smK (stO 0 (L ++ [s]))))) := eG.mut D4
      have hW2 : upd G D (.dK (smK (stO 0 (L ++ [s])))) Wk = some (.lst ws) := by
        rw [upd_ne WD]
        exact hW
      have hD2 : upd G D (.dK (smK (stO 0 (L ++ [s])))) D = some (.dK (smK (stO 0 (L ++ [s])))) := upd_same
      generalize upd G D (.dK (smK (stO 0 (L ++ [s])))) = G2 at eG2 hW2 hD2 ⊢
      obtain ⟨kvs, hk1, hk2, hk3⟩ := id hA
      rcases hk3 p with ⟨_, hn⟩ | ⟨pp, ysp, hv, hpp, hdp, _⟩
      · unfold nxt at hs
        rw [hn] at hs
        cases hs
      have gA := DGet.k (k := Sum.inl p) (eG2 _ _ hk1)
      rw [hv] at gA
      refine ⟨_, rfl, _, rfl, _, rfl, Ah, _, rfl, gA, Nn, pp, nd, ysp, outS ss p, H4, rfl, .inl (eG2 _ _ hN4), SqL.of (eG2 _ _ hpp), eG2, hdp, fun t ht => ?_, fun h => ?_, fun s' t h ht => ?_⟩
      · have : t.one = p := by
          unfold outS at ht
          rw [List.mem_filter, decide_eq_true_eq] at ht
          exact ht.2
        rw [this, hy]
        rfl
      · have : nxt ss (gt nd) p = none := h
        rw [hs] at this
        cases this
      have hss' : some s' = some s := h.symm.trans hs
      cases hss'
      obtain ⟨_, u, ez, p1, _⟩ := stD_inv ht
      cases ez
      refine ⟨_, rfl, .inl ⟨rfl, _, SqL.of hW2⟩, _, rfl, Wk, ws, _, rfl, rfl, hW2, sz_m (by omega), ?_⟩
      have W0 : H4 Wk = none := hWk
      have eG3 := eG2.mut (o := .lst (ws ++ [V.ref t])) W0
      refine ⟨_, rfl, t, _, 1, .int s.other, rfl, rfl, ex_t eG3 p1, rfl, ?_⟩
      obtain ⟨_, z, _, gz, _⟩ := id hsf
      refine ⟨_, L ++ [s], ws ++ [V.ref t], s.other, rfl, by rw [List.length_append]; rfl, eG3, upd_same, by rw [List.map_append]; exact dpa_app hws (.cons ht .nil), by rw [upd_ne WD.symm]; exact hD2, ch.more hp hs hso (by omega), ⟨z, gz⟩, (hU s hss).2⟩
end
end AA

set_option Elab.async false
set_option linter.all false
set_option maxRecDepth 100000
set_option maxHeartbeats 4000000
/-! Parts made, the stream and the tables, _law_met. -/
namespace AA
open PySem PySem.Spec PyProof.Rows L2 Evl LamX
theorem gh_ne {G : Hp} {g p : Addr} {o : HO} (n : p ≠ g) (h : G p = some o) : hid g g G p = some o := by
  rw [hid_ne n n]
  exact h
theorem sqt_hidp {G : Hp} {K : PySem.W.Frag} {p t : Addr} {vs xs : List V} (hp : G p = some (.lst vs)) (h : SqT K G t xs) : SqT K (hid p p G) t xs := by
  rcases h with h | h
  · refine .inl ?_
    rcases h with h | ⟨u, h⟩
    · have tp : t ≠ p := fun z => by rw [z, hp] at h; cases h
      exact .inl (gh_ne tp h)
    · have tp : t ≠ p := fun z => by rw [z, hp] at h; cases h
      exact .inr ⟨u, gh_ne tp h⟩
  · exact .inr h
theorem sts_hidp {G : Hp} {K : PySem.W.Frag} {p : Addr} {us : List V} (hp : G p = some (.lst us)) : ∀ {vs : List V} {ss : List St5}, DpAll K G vs (ss.map stD) → DpAll K (hid p p G) vs (ss.map stD)
  | [], [], _ => .nil
  | v :: vs, s :: ss, h => by
    cases h with
    | cons h1 h2 =>
      obtain ⟨t, u, rfl, h3, h4⟩ := stD_inv h1
      exact .cons (stD_mk (sqt_hidp hp h3) (sqt_hidp hp h4)) (sts_hidp hp h2)
  | [], _ :: _, h => by cases h
  | _ :: _, [], h => by cases h
section
variable {K : PySem.W.Frag}
/-! ### the stream and the tables stand -/
abbrev NXs (a b : Addr) (G G' : Hp) : Prop := Ex (nt (hid a b G)) (nt (hid a b G'))
theorem nxs_N {a b : Addr} {G G' : Hp} (e : LamX.ExtN G G') : NXs a b G G' := fun x o h => by
  obtain ⟨h1, h2⟩ := nt_some h
  obtain ⟨h3, h4, h5⟩ := hid_some h1
  exact nt_of (by rw [hid_ne h4 h5]; exact e _ _ h3 h2) h2
theorem sat_N {a b : Addr} {m : Nat} {G G' : Hp} (S : SAt G a b m) (e : LamX.ExtN G G') : SAt G' a b m := by
  obtain ⟨ns, c1, c2, c3, h1, h2, r⟩ := S
  exact ⟨ns, c1, c2, c3, e _ _ h1 (fun ps z => nomatch z), e _ _ h2 (fun ps z => nomatch z), r⟩
theorem tab_keep {T : List (Addr × Str)} {G G' : Hp} (t : LamX.Tabs T G) (e : ∀ x o, G x = some o → (∀ xs, o ≠ .lst xs) → G' x = some o) : LamX.Tabs T G' := fun p hp => by
  obtain ⟨ps, h1, h2, h3⟩ := t p hp
  refine ⟨ps, e _ _ h1 (fun xs z => nomatch z), h2, fun pos cv hc => ?_⟩
  obtain ⟨c, e1, e2⟩ := h3 pos cv hc
  exact ⟨c, e1, e _ _ e2 fun xs z => by
    unfold LamX.CodeO at z
    cases z⟩
theorem tabs_S {T : List (Addr × Str)} {a b : Addr} {m : Nat} {G G' : Hp} (t : LamX.Tabs T G) (S : SAt G a b m) (e : ExS a b G G') : LamX.Tabs T G' := tab_keep t fun x o h n => by
  obtain ⟨ns, c1, c2, c3, h1, h2, _⟩ := S
  exact e.at h (fun z => n _ (Option.some.inj (h.symm.trans (by rw [z]; exact h1)))) (fun z => n _ (Option.some.inj (h.symm.trans (by rw [z]; exact h2))))
theorem tabs_upd {T : List (Addr × Str)} {p : Addr} {G : Hp} {xs ys : List V} (t : LamX.Tabs T G) (hp : G p = some (.lst xs)) : LamX.Tabs T (upd G p (.lst ys)) := tab_keep t fun x o h n => by
  have : x ≠ p := fun z => n xs (Option.some.inj (h.symm.trans (by rw [z]; exact hp)))
  rw [upd_ne this]
  exact h
structure RS (T : List (Addr × Str)) (a b : Addr) (H : Hp) (m : Nat) (G : Hp) : Prop where
  e : NXs a b H G
  s : SAt G a b m
  t : LamX.Tabs T G
theorem RS.ex {T : List (Addr × Str)} {a b : Addr} {H G G' : Hp} {m : Nat} (r : RS T a b H m G) (e : Ex G G') : RS T a b H m G' := ⟨r.e.trans (nt_mono (hid_mono e)), r.s.ex e, r.t.ext e⟩
theorem RS.go {T : List (Addr × Str)} {a b : Addr} {H G G' : Hp} {m k : Nat} (r : RS T a b H m G) (e : ExS a b G G') (s : SAt G' a b k) : RS T a b H k G' := ⟨r.e.trans (nt_mono e), s, tabs_S r.t r.s e⟩
theorem RS.N {T : List (Addr × Str)} {a b : Addr} {H G G' : Hp} {m : Nat} (r : RS T a b H m G) (e : LamX.ExtN G G') (t : LamX.Tabs T G') : RS T a b H m G' := ⟨r.e.trans (nxs_N e), sat_N r.s e, t⟩
theorem RS.mut {T : List (Addr × Str)} {a b p : Addr} {H G : Hp} {m : Nat} {xs ys : List V} (r : RS T a b H m G) (hp : G p = some (.lst xs)) (fr : ∀ x o, nt (hid a b H) x = some o → x ≠ p) (pa : p ≠ a) (pb : p ≠ b) : RS T a b H m (upd G p (.lst ys)) :=
  ⟨fun x o h => by
    have n := fr x o h
    obtain ⟨h1, h2⟩ := nt_some (r.e _ _ h)
    refine nt_of ?_ h2
    rw [hid_upd pa pb, upd_ne n]
    exact h1, r.s.upd pa pb, tabs_upd r.t hp⟩
/-- what stands over the stream and beside the tables stands -/
theorem RS.at {T : List (Addr × Str)} {a b : Addr} {H G : Hp} {m : Nat} (r : RS T a b H m G) : Ex (nt (hid a b H)) G := r.e.trans (nt_le.trans hid_ex)
theorem tps_nt {H : Hp} : Ex (tps H) (nt (tps H)) := fun x o h => by
  obtain ⟨_, xs, rfl⟩ := tps_some h
  exact nt_of h fun ps z => nomatch z

end
/-- a def whose code object stands at c -/
structure FunC (K : PySem.W.Frag) (x : Str) (st : Stmt) (f : Addr) (fd : FuncData) (c : Addr) : Prop where
  ex : ∃ (oc : Value) (od : Option Addr) (kV doc pm : Value) (an : Option Addr) (ct : Value) (osl : Array (Option Value)), fd = PySem.W.fnOf x x (defArgs st) (defBody st) (defScope st) .none kV doc pm an (.ref c) ct ∧ K.lookup f = some ⟨oc, od, .func fd, osl⟩ ∧ PySem.W.codeIn K (.ref c) x = true
  kp : PySem.W.keepIn K (.ref f) = true

theorem takes_len {X : Cx} {W : WX} (tk : Takes X W) : Takes X (fun cv dv τ G => τ.length = X.N.length → W cv dv τ G) := fun u z ⟨a, B, sI, pins, τ, G, cv, dv, e, I, nb, up, sky, na, os, ag, w⟩ =>
  tk u z ⟨a, B, sI, pins, τ, G, cv, dv, e, I, nb, up, sky, na, os, ag, w I.len⟩
/-- how a lambda's exception is told -/
def TrE (CD CY : Addr) (Q : VK) : XK := fun cv dv G =>
  (cv = .ref CD ∧ ∃ dd v, dv = some dd ∧ G dd = some (.xd [(("place" : Str), v)]) ∧ ∀ p, G p = none → Q (.ref p) (upd G p (.tup [.str "place", v]))) ∨
  (cv = .ref CY ∧ ∃ dd v, dv = some dd ∧ G dd = some (.xd [(("stock" : Str), v)]) ∧ ∀ p, G p = none → Q (.ref p) (upd G p (.tup [.str "stock", v])))
def TTried (CD CY : Addr) : (XK → Hp → VK → Prop) → Hp → VK → Prop := fun tl H Q => tl (TrE CD CY Q) H (fun v G => 2 ≤ sizeLine ∧ ∀ p, G p = none → Q (.ref p) (upd G p (.tup [.str "told", v])))
theorem scTried : FnScope ["_law_ask", "e"] ["_law_ask"] (defScope sLMet) := ⟨rfl, rfl, rfl, by decide +kernel, rfl, by decide +kernel, by decide +kernel⟩
/-- which error is caught by which clause -/
structure ExmK (K : PySem.W.Frag) (CD CY : Addr) : Prop where
  dd : PySem.W.exmOne K (.ref CD) (.ref CD) = some true
  yd : PySem.W.exmOne K (.ref CY) (.ref CD) = some false
  yy : PySem.W.exmOne K (.ref CY) (.ref CY) = some true
theorem tried_gives {X : Cx} {q : Str} {g CD CY fD fY : Addr} {cdg : Value} (TD : ExT X.K X.mg "BadPlace" "place" CD fD) (TY : ExT X.K X.mg "BadStock" "stock" CY fY) (k : ExmK X.K CD CY) :
    GivesTo X ["_law_ask", "e"] "_law_met" (defScope sLMet) g cdg (defBody sLMet) "_law_ask" q (TTried CD CY) := by
  intro f c' s H Q tl act hc h
  refine ⟨_, pss_one (ps_tryAs (X := (cxOf C8.CX0 X.prog X.w X.K X.mg X.base ["_law_ask", "e"] "_law_met" (defScope sLMet) g cdg X.A X.stack s H C8.E0).nox) (i := 1) (nm := "e") (Wo := fun _ _ _ _ => False)
      (l := [(.ref CD, fun a cls d => tRet (tTup (tCons (tC (.str "place")) (tCons (tXf a cls d CD "place" (tVar 1)) tNil)))), (.ref CY, fun a cls d => tRet (tTup (tCons (tC (.str "stock")) (tCons (tXf a cls d CY "stock" (tVar 1)) tNil))))])
      (tb := fun W D σ H => ∃ Ech : XK, (∀ cls d σ' H', Ech cls d H' → σ'.length = 2 → W cls d σ' H') ∧ σ[0]? = some (some (.ref f)) ∧ H c' = some (CodeO c' q) ∧ tl Ech H (fun v G => 2 ≤ sizeLine ∧ ∀ p, G p = none → D.rt (.ref p) (upd G p (.tup [.str "told", v]))))
      rfl rfl scTried.nd rfl rfl L2.takes0 (fun W pn xe tk _ => ?_)
      (.cons ⟨rfl, by decide, .inl TD.gC⟩ (fun a oe cls d pn hz hf => pss_one (ps_ret (by exact (pe_tup (pa_cons pe_str (pa_cons (pe_xf TD.xf TD.no hz hf (pv 1)) pa_nil))))))
        (.cons ⟨rfl, by decide, .inl TY.gC⟩ (fun a oe cls d pn hz hf => pss_one (ps_ret (by exact (pe_tup (pa_cons pe_str (pa_cons (pe_xf TY.xf TY.no hz hf (pv 1)) pa_nil)))))) .nil))), ?_⟩
  · refine ⟨fun pins s' σ H' D I h' => ?_⟩
    obtain ⟨Ech, hW, h1, h2, h3⟩ := h'
    refine PSs.run (t := tRet (tTup (tCons (tC (.str "told")) (tCons (fun σZ HZ Q => σZ[0]? = some (some (.ref f)) ∧ HZ c' = some (CodeO c' q) ∧ tl Ech HZ Q) tNil)))) ?_ pins s' σ H' D I ⟨h1, h2, h3⟩
    exact pss_one (ps_ret (pe_tup (pa_cons pe_str (pa_cons (act _ pn xe Ech _ _ (takes_len tk) hW) pa_nil))))
  · refine ⟨TrE CD CY Q, fun cv dv σ' G hE hl => ?_, rfl, hc, h⟩
    obtain ⟨x0, x1, rfl⟩ : ∃ x0 x1, σ' = [x0, x1] := two_ofl hl
    rcases hE with ⟨rfl, dd, v, rfl, hx, kq⟩ | ⟨rfl, dd, v, rfl, hx, kq⟩
    · refine ⟨true, k.dd, fun _ ea hea => ?_, fun z => nomatch z⟩
      exact ⟨_, rfl, rfl, rfl, dd, _, v, rfl, hx, rfl, by show 2 ≤ sizeLine; decide, fun p hp => kq p hp⟩
    · refine ⟨false, k.yd, (fun z => nomatch z), fun _ => ⟨true, k.yy, fun _ ea hea => ?_, fun z => nomatch z⟩⟩
      exact ⟨_, rfl, rfl, rfl, dd, _, v, rfl, hx, rfl, by show 2 ≤ sizeLine; decide, fun p hp => kq p hp⟩
/-- f(k = v, ..) alone -/
theorem pe_callK0 {X : Cx} {CX : CXT} {k : Nat} {f : Addr} {fd : FuncData} {ps ks : List Str} {sp : Sp} {E : XK} {x : Str} {p pos : Pos} {kws : List Keyword} {tk : TA} {g : List Value → List Value → List Value} {gV : List V → List V → List V} (F : FnOk X.prog X.w X.K X.mg X.base CX k f fd ps sp) (hr : Room k X.A) (hg : Gl X x) (hm : X.mg x = some (.ref f)) (hk : PySem.W.keepIn X.K (.ref f) = true) (hb : KBinds X.K fd ps ks g gV) (hx : Passes CX X E)
    (hkw : PK X kws tk) (hall : (backToKw pos (keywordEach kws X.env)).all (·.1.isSome) = true := by rfl) (hks : (backToKw pos (keywordEach kws X.env)).filterMap (·.1) = ks := by rfl) (hdb : (x == ("__debug__" : Str)) = false := by decide)
    (hpl : ((backTo pos (starEach [] X.env)).any (·.1) || (backToKw pos (keywordEach kws X.env)).any (·.1.isNone)) = false := by rfl) :
    PE X (.Call (.Name x p) [] kws pos) (fun σ H Q => tk σ H fun zs H2 => sp (gV [] zs) H2 Q E) := ⟨fun pins s σ H Q I h =>
  wpAny_Call_Name_kw (ld_glob I hg hm (PySem.W.callWith_KW0 (h₀ := X.base) I.ok.mod.kin hk hall (thn (hkw.run pos pins s σ H _ I h) fun ws s2 ⟨zs, H2, I2, rz, q2⟩ => ⟨I2.kIn, by
    rw [hks]
    exact run_fnk (us := []) (vs := []) F hr hb hx I2 .nil rz q2⟩) hpl) hdb)⟩
/-- keywords that come in the other order -/
def revK {α : Type} : List α → List α → List α
  | [], ws => ws.reverse
  | _ :: _, _ => []
theorem revK_rel {vs : List V} {us : List Value} {zs : List V} {ws : List Value} (h : Vals vs us) (k : Vals zs ws) : Vals (revK vs zs) (revK us ws) := by
  cases h with
  | nil => exact vals_rev k
  | cons _ _ => exact .nil
def qC : Str := (("law" : Str) ++ ".<locals>.") ++ "<lambda>"
section
variable {P : Program} {w : World} {K : PySem.W.Frag} {mg : Str → Option Value} {base : Heap}
/-- what the top has written of _law_met -/
structure TrP (K : PySem.W.Frag) (mg : Str → Option Value) (CD CY g fD fY : Addr) (fdg : FuncData) : Prop where
  F : L2.Fun K "_law_met" "_law_met" sLMet g fdg
  m : mg "_law_met" = some (.ref g)
  b : Binds K fdg ["_law_ask"] []
  TD : ExT K mg "BadPlace" "place" CD fD
  TY : ExT K mg "BadStock" "stock" CY fY
  ex : ExmK K CD CY
/-- _law_met(lambda: body) -/
theorem pe_triedB {X : Cx} {CD CY g fD fY c PT : Addr} {fdg : FuncData} {T : List (Addr × Str)} {q0 : Str} {k : Nat} {body : Expr} {t : XK → TE} {p3 p4 p5 : Pos} {ps : Arguments} {scope : Scope} (hXK : X.K = K) (hXm : X.mg = mg) (hXb : X.base = base) (W : TrP K mg CD CY g fD fY fdg) (TB : LamX.TabB base mg c PT)
    (hT : (PT, q0 ++ "<lambda>") ∈ T) (hu : ∀ p ∈ T, p.1 = PT → p.2 = q0 ++ "<lambda>")
    (hg : Gl X "_law_met") (hcode : X.env.code = .ref c) (hq : X.env.qual = q0) (hr : Room (k + 2) X.A) (L : LamX.LamS X.env.scope scope) (hdef : defaultsOf ps X.env = ([], []))
    (hbind : ∀ (q : Str) (cl : List (Str × Addr)) (pm cv ctv : Value), bindArgs (PySem.W.kla_fn "<lambda>" q ps body scope cl pm cv ctv) ⟨[], []⟩ = pure [])
    (hbody : ∀ (A : Around) (outer : List Env) (s : Shared) (H : Hp) (E : XK) (f c' : Addr), Room k (A.deeper (LamX.lamEnv X scope s.heap.objs.size f c')) → PE (LamX.lamCx X A outer s H E scope f c') body (t E)) :
    PE X (.Call (.Name "_law_met" p3) [.Lambda ps body scope p4] [] p5) (LamX.tLam T (TTried CD CY) t) := by
  subst hXK hXm hXb hq
  obtain ⟨oc, od, kV, doc, pm, an, cdv, ct, osl, rfl, lk, hcd⟩ := W.F.ex
  exact LamX.pe_lamcall (k := k) (Ng := ["_law_ask", "e"]) (a := "_law_ask") hg W.m W.F.kp lk hcd W.b scTried rfl (.inl rfl) (tried_gives W.TD W.TY W.ex) TB hcode hT hu hr L hdef hbind hbody
end
end AA

set_option Elab.async false
set_option linter.all false
set_option maxRecDepth 100000
set_option maxHeartbeats 4000000
/-! _law_need, _law_least. -/
namespace AA
open PySem PySem.Spec PyProof.Rows L2 Evl
def nf (a : Int × Int) (L : List St5) : Int × Int := L.foldl (fun a s => (a.1 + s.change, min a.2 (a.1 + s.change))) a
theorem nf_1 : ∀ (L : List St5) (a : Int × Int), (nf a L).1 = a.1 + chg L
  | [], a => by
    show a.1 = a.1 + 0
    omega
  | s :: L, a => by
    have := nf_1 L (a.1 + s.change, min a.2 (a.1 + s.change))
    rw [chg_cons]
    show (nf (a.1 + s.change, min a.2 (a.1 + s.change)) L).1 = _
    rw [this]
    show a.1 + s.change + chg L = _
    omega
theorem nf_2 (N : Int) : ∀ (L : List St5) (a : Int × Int), 0 ≤ N + (nf a L).2 ↔ 0 ≤ N + a.2 ∧ (gon (N + a.1) L).isSome = true
  | [], a => ⟨fun h => ⟨h, rfl⟩, fun h => h.1⟩
  | s :: L, a => by
    have ih := nf_2 N L (a.1 + s.change, min a.2 (a.1 + s.change))
    have e : nf a (s :: L) = nf (a.1 + s.change, min a.2 (a.1 + s.change)) L := rfl
    rw [e, ih, gon_cons]
    have e2 : N + (a.1 + s.change, min a.2 (a.1 + s.change)).1 = N + a.1 + s.change := by
      show N + (a.1 + s.change) = _
      omega
    rw [e2]
    show 0 ≤ N + min a.2 (a.1 + s.change) ∧ _ ↔ _
    by_cases q : N + a.1 + s.change < 0
    · rw [if_pos q]
      refine ⟨fun h => ?_, fun h => by simp at h⟩
      have := h.1
      omega
    · rw [if_neg q]
      constructor
      · rintro ⟨h1, h2⟩
        exact ⟨by omega, h2⟩
      · rintro ⟨h1, h2⟩
        exact ⟨by omega, h2⟩
/-- what a walk needs -/
def ned (L : List St5) : Int := 0 - (nf (0, 0) L).2
theorem ned_iff {L : List St5} {N : Int} (h : 0 ≤ N) : ned L ≤ N ↔ (gon N L).isSome = true := by
  have := nf_2 N L (0, 0)
  have e : N + ((0, 0) : Int × Int).1 = N := by
    show N + 0 = N
    omega
  rw [e] at this
  unfold ned
  constructor
  · intro g
    exact (this.mp (by omega)).2
  · intro g
    have := this.mpr ⟨by simpa using h, g⟩
    omega
theorem nf_le : ∀ (L : List St5) (a : Int × Int), (nf a L).2 ≤ a.2
  | [], a => Int.le_refl _
  | s :: L, a => by
    have := nf_le L (a.1 + s.change, min a.2 (a.1 + s.change))
    have e : nf a (s :: L) = nf (a.1 + s.change, min a.2 (a.1 + s.change)) L := rfl
    rw [e]
    have h2 : (nf (a.1 + s.change, min a.2 (a.1 + s.change)) L).2 ≤ min a.2 (a.1 + s.change) := this
    omega
theorem ned_0 (L : List St5) : 0 ≤ ned L := by
  have := nf_le L (0, 0)
  unfold ned
  have h2 : (nf (0, 0) L).2 ≤ 0 := this
  omega
section
variable {P : Program} {w : World} {K : PySem.W.Frag} {mg : Str → Option Value} {base : Heap}
def spLne (K : PySem.W.Frag) : Sp := fun vs H Q _ => ∃ (p : Addr) (xs : List V) (L : List St5), vs = [.ref p] ∧ SqL K H p xs ∧ DpAll K H xs (L.map stD) ∧ ∀ (H' : Hp) (t : Addr), Ex H H' → H t = none → H' t = some (.tup [.int (ned L), .int (chg L)]) → Q (.ref t) H'
abbrev nmNe : List Str := ["_law_walk", "_law_now", "_law_least_here", "_law_step_here"]
theorem scNe : FnScope nmNe ["_law_walk"] (defScope sLNeed) := ⟨rfl, rfl, rfl, by decide +kernel, rfl, by decide +kernel, by decide +kernel⟩
theorem ok_lne {f : Addr} {fd : FuncData} (F : L2.Fun K "_law_need" "_law_need" sLNeed f fd) (B : Bn mg) (hmin : mg "min" = none) : FnOk P w K mg base CX0 1 f fd ["_law_walk"] (spLne K) := by
  refine F.ok scNe (fun vs H Q E h => ?_) (fun cdv A outer s H vs Q E hr h => ?_)
  · obtain ⟨p, xs, L, rfl, _⟩ := h
    rfl
  · obtain ⟨p, xs, L, rfl, hp, hD, k⟩ := h
    refine ⟨_, pss_cons (ps_asg (pe_tup (pa_cons pe_int (pa_cons pe_int pa_nil))) (pg_tup (n := 2) rfl (pgs_cons (pg_name (i := 1) scNe.nd rfl (.inl rfl)) (pgs_cons (pg_name (i := 2) scNe.nd rfl (.inl rfl)) pgs_nil))))
      (pss_cons (ps_for PassesOwn.never rfl (pi_list (pv 0)) (pg_name (i := 3) scNe.nd rfl (.inl rfl))
        (pss_cons (ps_set (i := 1) scNe.nd rfl (.inl rfl) (pe_op op_add (pv 1) (pe_ix (r := rIxT K) ix_tup (pv 3) pe_int (fun _ _ => rfl))))
        (pss_one (ps_set (i := 2) scNe.nd rfl (.inl rfl) (pe_callB (call_min2 (by rfl)) (by rfl) hmin boot_min (pa_cons (pv 2) (pa_cons (pv 1) pa_nil)))))))
      (pss_one (ps_ret (pe_tup (pa_cons (pe_op op_sub pe_int (pv 2)) (pa_cons (pv 1) pa_nil)))))), ?_⟩
    have hul := sts_len hD
    refine ⟨by show 2 ≤ sizeLine; decide, fun T0 hT0 => ?_⟩
    have y0 := Ex.new (o := .tup [V.int 0, V.int 0]) hT0
    have f0 : upd H T0 (.tup [V.int 0, V.int 0]) T0 = some (.tup [V.int 0, V.int 0]) := upd_same
    have hp1 := ex_l y0 hp
    have hD1 := dpa_ex y0 _ _ hD
    generalize upd H T0 (.tup [V.int 0, V.int 0]) = H1 at y0 f0 hp1 hD1 ⊢
    refine ⟨T0, _, rfl, .inl (.inl f0), rfl, _, _, rfl, _, _, rfl, rfl, ?_⟩
    refine ⟨_, rfl, p, rfl, ⟨_, hp1⟩, ?_⟩
    refine for_list (K := K) (a := p) (xs := xs) (fun i σ G => ∃ (x3 : Option V), σ = [some (.ref p), some (.int (nf (0, 0) (L.take i)).1), some (.int (nf (0, 0) (L.take i)).2), x3] ∧ G = H1) ⟨none, rfl, rfl⟩ (fun i σ G _ ⟨_, _, e⟩ => by rw [e]; exact hp1) ?_ ?_
    · rintro i x σ G hx ⟨x3, rfl, rfl⟩
      obtain ⟨s, b, hs, rfl, hb⟩ := sts_get hD1 hx
      obtain ⟨_, u, ez, p1, _⟩ := stD_inv hb
      cases ez
      have e : nf (0, 0) (L.take (i + 1)) = ((nf (0, 0) (L.take i)).1 + s.change, min (nf (0, 0) (L.take i)).2 ((nf (0, 0) (L.take i)).1 + s.change)) := by
        rw [List.take_add_one, hs]
        unfold nf
        rw [List.foldl_append]
        rfl
      refine ⟨_, rfl, _, rfl, b, _, 4, .int s.change, rfl, rfl, p1, rfl, _, _, rfl, rfl, ?_⟩
      refine ⟨_, rfl, _, rfl, _, _, rfl, ?_⟩
      refine ⟨some (V.ref b), ?_, rfl⟩
      rw [e]
      generalize nf (0, 0) (L.take i) = a
      have : (if a.1 + s.change < a.2 then a.1 + s.change else a.2) = min a.2 (a.1 + s.change) := by
        split <;> omega
      show [some (V.ref p), some (V.int (a.1 + s.change)), some (V.int (if a.1 + s.change < a.2 then a.1 + s.change else a.2)), some (V.ref b)] = _
      rw [this]
    · rintro σ G ⟨x3, rfl, rfl⟩
      rw [hul, List.take_length]
      refine ⟨_, rfl, _, _, rfl, rfl, _, rfl, by show 2 ≤ sizeLine; decide, fun T hT => ?_⟩
      refine k _ T (y0.trans (Ex.new hT)) (fresh_back y0 hT) ?_
      rw [upd_same, nf_1]
      show some (HO.tup [V.int (0 - (nf (0, 0) L).2), V.int (0 + chg L)]) = _
      rw [Int.zero_add]
      rfl
end
end AA

set_option Elab.async false
set_option linter.all false
set_option maxRecDepth 100000
set_option maxHeartbeats 4000000
/-! _law_least. -/
namespace AA
open PySem PySem.Spec PyProof.Rows L2 Evl
/-- the least that the lassos tell -/
structure LsO (ss : List St5) (v : Int) (r : Option Int) : Prop where
  no : r = none → ∀ W R, Las ss v W R → chg R < 0
  yes : ∀ x, r = some x → (∃ W R, Las ss v W R ∧ 0 ≤ chg R ∧ x = ned (W ++ R)) ∧ ∀ W R, Las ss v W R → 0 ≤ chg R → x ≤ ned (W ++ R)
theorem for_lasso {ss : List St5} {U : List Int} {v N : Int} (hN : 0 ≤ N) (hv : v ∈ U) (hU : ∀ s ∈ ss, s.one ∈ U ∧ s.other ∈ U) (hc : ∀ s ∈ ss, s.change ≤ 9) (hf : For ss v N) (hno : ∀ W R, Las ss v W R → 0 ≤ chg R → gon N (W ++ R) = none) : False := by
  obtain ⟨L, u, y, h1, h2, h3, h4⟩ := hf ((U.length - 1) + U.length * (N + 9 * (U.length - 1)) + 1 : Int).toNat
  have h5 := far_lasso hN hv hU hc hno L.length L u y rfl h1 h2 h3
  have y0 := gon_nn L hN h3
  have h6 : (0 : Int) ≤ U.length * y := Int.mul_nonneg (by omega) y0
  omega
theorem LsO.eq {ss : List St5} {U : List Int} {nd : List (Int × Int)} {v : Int} {r : Option Int} (h : LsO ss v r) (k : NOk ss nd) (hv : v ∈ U) (hU : ∀ s ∈ ss, s.one ∈ U ∧ s.other ∈ U) (hc : ∀ s ∈ ss, s.change ≤ 9) : gt nd v = r := by
  cases r with
  | none =>
    cases hg : gt nd v with
    | none => rfl
    | some x =>
      obtain ⟨x0, hf⟩ := k.num v x hg
      refine (for_lasso x0 hv hU hc hf fun W R hl h0 => ?_).elim
      have := h.no rfl W R hl
      omega
  | some x =>
    obtain ⟨⟨W, R, hl, h0, rfl⟩, hle⟩ := h.yes x rfl
    have g := (ned_iff (ned_0 (W ++ R))).mp (Int.le_refl _)
    obtain ⟨y, hy⟩ := Option.isSome_iff_exists.mp g
    obtain ⟨p, L, z, g1, g2, g3, g4⟩ := las_bck hl h0 hy
    obtain ⟨x', hx', hle'⟩ := k.least v _ p L z (ned_0 _) g1 g2 g3 g4
    rw [hx']
    obtain ⟨x0, hf⟩ := k.num v x' hx'
    congr 1
    refine Int.le_antisymm hle' (Int.not_lt.mp fun lt => ?_)
    refine for_lasso x0 hv hU hc hf fun W2 R2 hl2 h02 => ?_
    cases hg : gon x' (W2 ++ R2) with
    | none => rfl
    | some q =>
      have := (ned_iff x0).mpr (by rw [hg]; rfl : (gon x' (W2 ++ R2)).isSome = true)
      have := hle W2 R2 hl2 h02
      omega
theorem Las.same {ss ss' : List St5} {v : Int} {W R : List St5} (e : ∀ s, s ∈ ss ↔ s ∈ ss') (h : Las ss v W R) : Las ss' v W R := ⟨h.walk, h.ne, fun s hs => (e s).mp (h.sub s hs), h.nd⟩
def lsi (fs : List (List St5 × List St5)) : List Int := (fs.filter fun f => decide (0 ≤ chg f.2)).map fun f => ned (f.1 ++ f.2)
theorem lsi_mem {fs : List (List St5 × List St5)} {x : Int} : x ∈ lsi fs ↔ ∃ f ∈ fs, 0 ≤ chg f.2 ∧ x = ned (f.1 ++ f.2) := by
  unfold lsi
  rw [List.mem_map]
  constructor
  · rintro ⟨f, h1, rfl⟩
    rw [List.mem_filter, decide_eq_true_eq] at h1
    exact ⟨f, h1.1, h1.2, rfl⟩
  · rintro ⟨f, h1, h2, rfl⟩
    exact ⟨f, List.mem_filter.mpr ⟨h1, by rw [decide_eq_true_eq]; exact h2⟩, rfl⟩
theorem lsi_len (fs : List (List St5 × List St5)) : (lsi fs).length ≤ fs.length := by
  unfold lsi
  rw [List.length_map]
  exact List.length_filter_le _ _
theorem lsi_take {fs : List (List St5 × List St5)} {i : Nat} {f : List St5 × List St5} (h : fs[i]? = some f) : lsi (fs.take (i + 1)) = lsi (fs.take i) ++ (if 0 ≤ chg f.2 then [ned (f.1 ++ f.2)] else []) := by
  rw [List.take_add_one, h]
  unfold lsi
  rw [List.filter_append, List.map_append]
  congr 1
  by_cases q : 0 ≤ chg f.2
  · rw [if_pos q]
    show (List.filter (fun f => decide (0 ≤ chg f.2)) [f]).map _ = _
    rw [List.filter_cons_of_pos (by simpa using q)]
    rfl
  · rw [if_neg q]
    show (List.filter (fun f => decide (0 ≤ chg f.2)) [f]).map _ = _
    rw [List.filter_cons_of_neg (by simpa using q)]
    rfl
theorem Las.short {ss : List St5} {v : Int} {W R : List St5} (h : Las ss v W R) : (W ++ R).length ≤ ss.length := by
  have hn : (W ++ R).Nodup := by
    have := h.nd
    unfold List.Nodup at this ⊢
    rw [List.pairwise_map] at this
    exact this.imp fun h e => h (by rw [e])
  exact nd_len (W ++ R) ss hn h.sub
section
variable {P : Program} {w : World} {K : PySem.W.Frag} {mg : Str → Option Value} {base : Heap}
def spLle (K : PySem.W.Frag) : Sp := fun vs H Q _ => ∃ (g : Addr) (v : Int) (us : List V) (ss : List St5) (U : List Int), vs = [.ref g, .int v] ∧ SqL K H g us ∧ DpAll K H us (ss.map stD) ∧ ss.length ≤ 14 ∧ v ∈ U ∧ (∀ s ∈ ss, s.other ∈ U) ∧ U.length ≤ 63 ∧
  ∀ (H' : Hp) (r : Option Int), Ex H H' → LsO ss v r → Q (oI r) H'
abbrev nmLl : List Str := ["_law_steps", "_law_place", "_law_ways", "_law_found", "_law_walk", "_law_ring"]
theorem scLl : FnScope nmLl ["_law_steps", "_law_place"] (defScope sLLeast) := ⟨rfl, rfl, rfl, by decide +kernel, rfl, by decide +kernel, by decide +kernel⟩
theorem ok_lle {f : Addr} {fd : FuncData} (F : L2.Fun K "_law_least" "_law_least" sLLeast f fd) (B : Bn mg) (hmin : mg "min" = none) (cA : C8.Cal P w K mg base 1 "_law_lassos" (spLla K) []) (cN : C8.Cal P w K mg base 1 "_law_need" (spLne K) []) : FnOk P w K mg base CX0 2 f fd ["_law_steps", "_law_place"] (spLle K) := by
  refine F.ok scLl (fun vs H Q E h => ?_) (fun cdv A outer s H vs Q E hr h => ?_)
  · obtain ⟨g, v, us, ss, U, rfl, _⟩ := h
    rfl
  · obtain ⟨g, v, us, ss, U, rfl, hg, hD, hsz, hvU, hOU, hU, k⟩ := h
    refine ⟨_, pss_cons (ps_set (i := 2) scLl.nd rfl (.inl rfl) (C8.pe_c cA hr (by decide) (by rfl) (pa_cons (pv 0) (pa_cons (pv 1) pa_nil))))
      (Evl.pss_cut (ps_setLc (i := 3) (own := [("_law_walk", 4), ("_law_ring", 5)]) (g := gTup K 2 (gCons (gName 4) (gCons (gName 5) gNil))) (by rfl) scLl.nd rfl rfl (sw_true rfl rfl rfl (by decide +kernel)) (pi_list (pv 2)) (blkOk_by (N := nmLl) (sc := defScope sLLeast) (by decide +kernel))
          (fun _ _ _ _ _ => pg_tup (n := 2) rfl (pgs_cons (pg_name (i := 4) scLl.nd rfl (Or.inl rfl)) (pgs_cons (pg_name (i := 5) scLl.nd rfl (Or.inl rfl)) pgs_nil)))
          (fun _ _ _ _ _ => pts_one (pt_cmpR op_ge (pe_ix (r := rIxT K) ix_tup (C8.pe_c cN hr (by decide) (by rfl) (pa_cons (pv 5) pa_nil)) pe_int (fun _ _ => rfl)) pe_int (nomark _)))
          (fun _ _ _ _ _ => pe_ix (r := rIxT K) ix_tup (C8.pe_c cN hr (by decide) (by rfl) (pa_cons (pe_op op_cat (pv 4) (pv 5)) pa_nil)) pe_int (fun _ _ => rfl)))
      (pss_one (ps_ret (pe_ifExp (pt_cmpR (op_neD hr.units) (pv 3) (pe_lst pa_nil) (nomark _)) (pe_callB (r := rMin K) (cr_min (by rfl)) (by rfl) hmin boot_min (pa_cons (pv 3) pa_nil)) pe_non)))), ?_⟩
    refine ⟨_, rfl, _, rfl, g, v, us, ss, U, rfl, hg, hD, hsz, hvU, hOU, hU, fun H1 F os fs e1 hF0 hF hla hall hfl => ?_⟩
    refine ⟨fun σ G => ∃ (D : Addr), σ = [some (.ref g), some (.int v), some (.ref F), some (.ref D), none, none] ∧ Ex H G ∧ G D = some (.lst ((lsi fs).map V.int)), ?_, ?_⟩
    · refine ⟨_, rfl, F, rfl, ⟨_, SqL.of hF⟩, fun D hD0 => ?_⟩
      refine lc_list (xs := os) (fun i G => Ex H1 G ∧ G D = some (.lst ((lsi (fs.take i)).map V.int))) ⟨Ex.new hD0, upd_same⟩ (fun i G _ q' => SqL.of (q'.1 _ _ hF)) ?_ ?_
      · rintro i x G hx ⟨q1, q2⟩
        obtain ⟨f, hf, ⟨t, a, b, xs, ys, rfl, tF, aF, bF, ht, ha, hb, hxs, hys⟩⟩ := hla.get hx
        have eG := e1.trans q1
        have hl := (hall f).mp (mem_of_get hf)
        have sh := hl.short
        rw [List.length_append] at sh
        have l1 := sts_len hxs
        have l2 := sts_len hys
        refine ⟨t, _, rfl, .inl (.inl (q1 _ _ ht)), rfl, _, _, rfl, _, _, rfl, rfl, rfl, ?_⟩
        refine ⟨_, rfl, b, ys, f.2, rfl, SqL.of (q1 _ _ hb), dpa_ex eG _ _ hys, fun G2 T e2 hT0 hT => ?_⟩
        refine ⟨T, _, 1, .int (chg f.2), rfl, rfl, .inl (.inl hT), rfl, _, _, rfl, rfl, _, rfl, ?_⟩
        have il := (List.getElem?_eq_some_iff.mp hf).1
        have q12 := q1.trans e2
        have q2' := e2 _ _ q2
        rw [lsi_take hf]
        by_cases h0 : 0 ≤ chg f.2
        · rw [decide_eq_true h0]
          refine iteT ?_
          refine ⟨_, rfl, _, rfl, a, b, xs, ys, rfl, rfl, q12 _ _ ha, q12 _ _ hb, sz_le (by omega), fun c hc => ?_⟩
          have z1 := Ex.new (o := .lst (xs ++ ys)) hc
          have g1 : upd G2 c (.lst (xs ++ ys)) c = some (.lst (xs ++ ys)) := upd_same
          generalize upd G2 c (.lst (xs ++ ys)) = G3 at z1 g1 ⊢
          refine ⟨c, xs ++ ys, f.1 ++ f.2, rfl, SqL.of g1, by rw [List.map_append]; exact dpa_app (dpa_ex (eG.trans (e2.trans z1)) _ _ hxs) (dpa_ex (eG.trans (e2.trans z1)) _ _ hys), fun G4 T2 e4 hT20 hT2 => ?_⟩
          refine ⟨T2, _, 0, .int (ned (f.1 ++ f.2)), rfl, rfl, .inl (.inl hT2), rfl, _, e4 _ _ (z1 _ _ q2'), ?_, (q12.trans (z1.trans e4)).mut hD0, ?_⟩
          · have := lsi_len (fs.take i)
            rw [List.length_take] at this
            rw [List.length_map]
            exact sz_m (by omega)
          · rw [upd_same, if_pos h0, List.map_append]
            rfl
        · rw [decide_eq_false h0, if_neg h0, List.append_nil]
          exact iteF ⟨q12, q2'⟩
      · rintro G ⟨q1, q2⟩
        rw [hla.len, List.take_length] at q2
        exact ⟨D, rfl, e1.trans q1, q2⟩
    · rintro σ G ⟨D, rfl, q1, q2⟩
      have gen : ∀ (r : Option Int) (G' : Hp), Ex G G' → (r = none → lsi fs = []) → (∀ x, r = some x → x ∈ lsi fs ∧ ∀ y ∈ lsi fs, x ≤ y) → Q (oI r) G' := fun r G' e h1 h2 => k G' r (q1.trans e) (by
        refine ⟨fun hr W R hl => ?_, fun x hx => ?_⟩
        · refine Int.not_le.mp fun z => ?_
          have : ned (W ++ R) ∈ lsi fs := lsi_mem.mpr ⟨(W, R), (hall _).mpr hl, z, rfl⟩
          rw [h1 hr] at this
          cases this
        · obtain ⟨h3, h4⟩ := h2 x hx
          obtain ⟨f, g1, g2, g3⟩ := lsi_mem.mp h3
          exact ⟨⟨f.1, f.2, (hall f).mp g1, g2, g3⟩, fun W R hl z => h4 _ (lsi_mem.mpr ⟨(W, R), (hall _).mpr hl, z, rfl⟩)⟩)
      refine ⟨_, rfl, Nat.zero_le _, fun l hl => ?_⟩
      have yl := Ex.new (o := .lst []) hl
      have fl : upd G l (.lst []) l = some (.lst []) := upd_same
      generalize upd G l (.lst []) = G2 at yl fl ⊢
      refine ⟨.list ((lsi fs).map PyData.int), .list [], .lst (SqL.of (yl _ _ q2)) (dp_ints _), .lst (SqL.of fl) .nil, shaped_ints _, rfl, _, rfl, ?_⟩
      rw [eqv_ints_nil]
      cases hs : lsi fs with
      | nil => exact iteF (gen none G2 yl (fun _ => hs) fun x h => nomatch h)
      | cons y r =>
        rw [hs] at q2
        refine iteT ⟨_, rfl, D, y :: r, rfl, SqL.of (yl _ _ q2), Nat.succ_pos _, fun m h1 h2 => ?_⟩
        exact gen (some m) G2 yl (fun h => nomatch h) fun x hx => by
          cases hx
          rw [hs]
          exact ⟨h1, h2⟩
end
end AA

set_option Elab.async false
set_option linter.all false
set_option maxRecDepth 100000
set_option maxHeartbeats 4000000
/-! Things that are no place; webs that are made; calls with keywords. -/
namespace AA
open PySem PySem.Spec PyProof.Rows L2 Evl
theorem valV_no {κ : Type} [DecidableEq κ] {k : κ} : ∀ {l : List (κ × V)}, k ∉ l.map (·.1) → valV l k = none
  | [], _ => rfl
  | e :: l, h => by
    rw [List.map_cons, List.mem_cons, not_or] at h
    rw [valV_neg (fun z => h.1 z.symm)]
    exact valV_no h.2
theorem mergeK_nd : ∀ (m acc : List (Key × V)), ((acc ++ m).map (·.1)).Nodup → mergeK acc m = acc ++ m
  | [], acc, _ => (List.append_nil acc).symm
  | e :: m, acc, h => by
    have h1 : e.1 ∉ acc.map (·.1) := by
      rw [List.map_append, List.nodup_append] at h
      exact fun z => h.2.2 _ z _ (List.mem_cons_self (l := m.map (·.1))) rfl
    show mergeK (putK acc e.1 e.2) m = _
    rw [putK_new e.2 (valV_no h1), mergeK_nd m (acc ++ [e]) (by rw [List.append_assoc]; exact h), List.append_assoc]
    rfl
/-- a function of the module -/
def FnV (K : PySem.W.Frag) (f : Addr) : Prop := ∃ (od : Option Addr) (fd : FuncData) (osl : Array (Option Value)), K.lookup f = some ⟨.type "function", od, .func fd, osl⟩
theorem lk_fnv {K : PySem.W.Frag} {F : Hp} {f : Addr} (h : FnV K f) : Lk K F (.ref f) false := by
  obtain ⟨od, fd, osl, h⟩ := h
  exact lk_fn h rfl
theorem ni_fnv {K : PySem.W.Frag} {F : Hp} {f : Addr} (h : FnV K f) : NotI K F (.ref f) := by
  obtain ⟨od, fd, osl, h⟩ := h
  exact ni_fn h rfl
section
variable {K : PySem.W.Frag}
/-- two webs that are one -/
def WbR (K : PySem.W.Frag) (C : Addr) (x y : Addr) (H : Hp) : Prop := x = y ∧ ∃ n ss, WebAt K C H x n ss
theorem wbR_ex {C : Addr} : ∀ a b H H', Ex H H' → WbR K C a b H → WbR K C a b H' := fun a b H H' e ⟨h, n, ss, q⟩ => ⟨h, n, ss, q.ex e⟩
/-- a thing that is itself, later too -/
def Self5 (K : PySem.W.Frag) (C : Addr) (F : Hp) (o : V) : Prop := ∀ G, Ex F G → Sm K C (WbR K C) G 5 o o
theorem self_dp {C : Addr} {F : Hp} {o : V} {d : PyData} (h : Dp K F o d) (ho : dOk d = true) (hd : d.depth < 5) : Self5 K C F o := fun G e => sm_two d o o 5 (dp_ex e _ _ h) (dp_ex e _ _ h) ho hd
theorem self_int {C : Addr} {F : Hp} {j : Int} : Self5 K C F (.int j) := fun G e => .inl ⟨rfl, rfl⟩
theorem self_fn {C : Addr} {F : Hp} {f : Addr} (h : FnV K f) : Self5 K C F (.ref f) := fun G e => by
  obtain ⟨od, fd, osl, h⟩ := h
  exact .inr (.inr (.inr (.inr (.inr ⟨f, _, rfl, rfl, h, rfl⟩))))
theorem self_dict {C : Addr} {F : Hp} {p : Addr} (h : F p = some (.dK [])) : Self5 K C F (.ref p) := fun G e => .inr (.inr (.inr (.inl ⟨p, p, [], rfl, rfl, e _ _ h, e _ _ h, Nat.zero_le _, .inl ⟨rfl, by decide⟩⟩)))
theorem self_web {C x lw : Addr} {n : Int} {F : Hp} {ts : List St5} (h : WebL K C F x lw n ts) : Self5 K C F (.ref x) := fun G e => by
  obtain ⟨dx, kd, ys, h1, h2, h3⟩ := id h
  exact .inr (.inr (.inr (.inr (.inl ⟨x, dx, _, rfl, rfl, e _ _ h1, rfl, n, ts, (h.ex e).at⟩))))
/-- an instance is no int, no list -/
theorem ni_ins {C x dx : Addr} {F : Hp} {fs : List (Str × V)} (IC : InsK K C) (hi : PySem.W.kitOne K (.ref C) (.type "int") = some false) (h : F x = some (.ins C dx fs)) : NotI K F (.ref x) :=
  ⟨.ref C, false, false, fun H' e => .inl (.base (.ins (e _ _ (nt_of h fun ps z => nomatch z)) IC.cl IC.ha IC.hn IC.ht IC.hm)), hi, IC.n3, rfl⟩
theorem lk_ins {C x dx : Addr} {F : Hp} {fs : List (Str × V)} (IC : InsK K C) (h : F x = some (.ins C dx fs)) : Lk K F (.ref x) false :=
  ⟨.ref C, fun H' e => .inl (.base (.ins (e _ _ (nt_of h fun ps z => nomatch z)) IC.cl IC.ha IC.hn IC.ht IC.hm)), IC.n1⟩
/-- what Web is asked without a fault -/
def spWebI0 (K : PySem.W.Frag) (C CP CS : Addr) : Sp := fun vs H Q _ => spWebInit K C CP CS vs H Q E0
/-- a web made of good steps; what is known of it is nothing -/
theorem web_goodK {C CP CS x dx : Addr} {G : Hp} {n : Int} {u : V} {ss : List St5} {xs : List V} {a : Addr} {Q : VK} (nx : G x = none) (ndx : G dx = none) (hn : 1 ≤ n) (hu : u = .ref a) (hs : SqA K G a xs) (hr : RdAll K n G xs ss) (nd : ss.Nodup) (hz : ss.length ≤ 1000000)
    (k : ∀ (G' : Hp) (kd : Addr) (ts : List St5), Ex G G' → WebK K C G' x kd n ts → (∀ a b m, SAt G a b m → WebK K C (hid a b G') x kd n ts) → G kd = none → G' kd = some (.dK []) → ts.Perm ss → SrS ts → Q .non G') :
    spWebI0 K C CP CS [.ref x, .int n, u] (upd (upd G dx (.own x)) x (.ins C dx [])) Q E0 := by
  have me := made_ex (o := .ins C dx []) nx ndx
  refine ⟨x, dx, .int n, u, rfl, upd_same, .inr ⟨n, rfl, hn, .inr ⟨a, xs, ss, hu, hs.ex me, nd, hz, .inl ⟨hr.ex me, fun G' ts dy lw kd ys e fx fl0 fl hys fk0 fk p so => ?_⟩⟩⟩⟩
  have back : ∀ {z : Addr}, upd (upd G dx (.own x)) x (.ins C dx []) z = none → G z = none := fun {z} h => by
    by_cases q1 : z = x
    · rw [q1]
      exact nx
    · by_cases q2 : z = dx
      · rw [q2]
        exact ndx
      · rw [upd_ne q1, upd_ne q2] at h
        exact h
  have e' := me.trans e
  refine k G' kd ts e' ⟨dy, lw, ys, fx, fl, hys⟩ (fun a b m S => ⟨dy, lw, ys, ?_, ?_, sts_hid (S.ex e') hys⟩) (back fk0) fk p so
  · rw [hid_ne (S.nea nx) (S.neb nx)]
    exact fx
  · rw [hid_ne (S.nea (back fl0)) (S.neb (back fl0))]
    exact fl
theorem sts_tup {G G' : Hp} (e : ∀ z o, ((∃ xs, o = .tup xs) ∨ ∃ u xs, o = .frz u (.tup xs)) → G z = some o → G' z = some o) : ∀ {vs : List V} {ss : List St5}, DpAll K G vs (ss.map stD) → DpAll K G' vs (ss.map stD) := by
  have key : ∀ {a : Addr} {xs : List V}, SqT K G a xs → SqT K G' a xs := fun {a xs} h => by
    rcases h with h | h
    · rcases h with h | ⟨u, h⟩
      · exact .inl (.inl (e _ _ (.inl ⟨_, rfl⟩) h))
      · exact .inl (.inr ⟨u, e _ _ (.inr ⟨_, _, rfl⟩) h⟩)
    · exact .inr h
  intro vs
  induction vs with
  | nil =>
    intro ss h
    cases ss with
    | nil => exact .nil
    | cons => cases h
  | cons v vs ih =>
    intro ss h
    cases ss with
    | nil => cases h
    | cons s ss =>
      cases h with
      | cons h1 h2 =>
        obtain ⟨t, u, rfl, h3, h4⟩ := stD_inv h1
        exact .cons (stD_mk (key h3) (key h4)) (ih h2)
theorem hid_dk {H : Hp} {k1 k2 : Addr} {l1 l2 : List (Key × V)} (h1 : H k1 = some (.dK l1)) (h2 : H k2 = some (.dK l2)) {z : Addr} {o : HO} (h : H z = some o) (n : ∀ l, o ≠ .dK l) : hid k1 k2 H z = some o := by
  rw [hid_ne (fun q => by rw [q, h1] at h; cases h; exact n _ rfl) (fun q => by rw [q, h2] at h; cases h; exact n _ rfl)]
  exact h
theorem sts_dk {H : Hp} {k1 k2 : Addr} {l1 l2 : List (Key × V)} (h1 : H k1 = some (.dK l1)) (h2 : H k2 = some (.dK l2)) {vs : List V} {ss : List St5} (h : DpAll K H vs (ss.map stD)) : DpAll K (hid k1 k2 H) vs (ss.map stD) :=
  sts_tup (fun z o ho hz => hid_dk h1 h2 hz fun l q => by
    subst q
    rcases ho with ⟨_, q⟩ | ⟨_, _, q⟩ <;> cases q) h
theorem WebK.dk {C x kd : Addr} {n : Int} {H : Hp} {ts : List St5} {k1 k2 : Addr} {l1 l2 : List (Key × V)} (h : WebK K C H x kd n ts) (h1 : H k1 = some (.dK l1)) (h2 : H k2 = some (.dK l2)) : WebK K C (AA.hid k1 k2 H) x kd n ts := by
  obtain ⟨dx, l, ys, g1, g2, g3⟩ := h
  exact ⟨dx, l, ys, hid_dk h1 h2 g1 (fun l z => nomatch z), hid_dk h1 h2 g2 (fun l z => nomatch z), sts_dk h1 h2 g3⟩
/-- two webs' known things, beside what stands for good -/
structure Two (ts : List St5) (Z : Hp) (km ko : Addr) (G : Hp) : Prop where
  e : Ex Z G
  m : KnX (fun z => z = ko) ts G km
  o : KnX (fun z => z = km) ts G ko
theorem Two.flip {ts : List St5} {Z G : Hp} {km ko : Addr} (h : Two ts Z km ko G) : Two ts Z ko km G := ⟨h.e, h.o, h.m⟩
theorem Two.ex {ts : List St5} {Z G G' : Hp} {km ko : Addr} (h : Two ts Z km ko G) (ne : km ≠ ko) (e : Ex G G') : Two ts Z km ko G' := ⟨h.e.trans e, h.m.go ne fun z o _ hz => e _ _ hz, h.o.go ne.symm fun z o _ hz => e _ _ hz⟩
theorem Two.call {ts : List St5} {Z G G' : Hp} {km ko : Addr} (h : Two ts Z km ko G) (ne : km ≠ ko) (hZ : Z km = none) (e : Ex (hid km km G) G') (k : KnX (fun z => z = ko) ts G' km) : Two ts Z km ko G' :=
  ⟨fun z o hz => e _ _ (by
    have n : z ≠ km := ne_of_none hz hZ
    rw [hid_ne n n]
    exact h.e _ _ hz), k, h.o.go ne.symm fun z o hz hz2 => e _ _ (by rw [hid_ne hz hz]; exact hz2)⟩
theorem KnX.lst {X : Addr → Prop} {ts : List St5} {G : Hp} {kd p : Addr} {xs : List V} {o : HO} (h : KnX X ts G kd) (hp : G p = some (.lst xs)) : KnX X ts (upd G p o) kd := by
  have n : ∀ {z : Addr} {l : List (Key × V)}, G z = some (.dK l) → upd G p o z = some (.dK l) := fun {z l} hz => by
    rw [upd_ne (fun q => by rw [q, hp] at hz; cases hz)]
    exact hz
  rcases h with h | ⟨F, N, nd, h1, h2, h3, h4, h5⟩
  · exact .inl (n h)
  · exact .inr ⟨F, N, nd, h1, h2, n h3, n h4, h5⟩
theorem Two.lst {ts : List St5} {Z G : Hp} {km ko p : Addr} {xs : List V} {o : HO} (h : Two ts Z km ko G) (hp : G p = some (.lst xs)) (hZ : Z p = none) : Two ts Z km ko (upd G p o) :=
  ⟨fun z ob hz => by
    rw [upd_ne (ne_of_none hz hZ)]
    exact h.e _ _ hz, h.m.lst hp, h.o.lst hp⟩
theorem leaf_oI (r : Option Int) : leaf (oI r) = true := by cases r <;> rfl
theorem sm_leaves {C : Addr} {R : Addr → Addr → Hp → Prop} {H : Hp} {n : Nat} : ∀ l : List V, (∀ v ∈ l, leaf v = true) → Paired (Sm K C R H (n + 1)) l l
  | [], _ => .nil
  | v :: l, h => .cons (.inl ⟨rfl, h v List.mem_cons_self⟩) (sm_leaves l fun u hu => h u (List.mem_cons_of_mem _ hu))
theorem Two.told {ts : List St5} {Z G G' G2 : Hp} {km ko t : Addr} {ob : HO} (h : Two ts Z km ko G) (ne : km ≠ ko) (hZ : Z km = none) (e : Ex (hid km km G) G') (ht : G t = none) (k : KnX (fun z => z = ko ∨ z = t) ts G' km) (e2 : Ex G' G2) : Two ts Z km ko (upd G2 t ob) := by
  obtain ⟨l1, d1⟩ := h.m.dk
  obtain ⟨l2, d2⟩ := h.o.dk
  have n1 : km ≠ t := ne_of_none d1 ht
  have n2 : ko ≠ t := ne_of_none d2 ht
  have c := h.call ne hZ e (k.less fun z => .inl)
  have up : ∀ z o, z ≠ t → G' z = some o → upd G2 t ob z = some o := fun z o hz hz2 => by
    rw [upd_ne hz]
    exact e2 _ _ hz2
  refine ⟨fun z o hz => up _ _ (ne_of_none (h.e _ _ hz) ht) (c.e _ _ hz), ?_, ?_⟩
  · exact (k.go (fun z => z.elim ne n1) fun z o hz hz2 => up _ _ (fun q => hz (.inr q)) hz2).less fun z => .inl
  · have k2 := (h.o.more ht).go (H' := G') (fun z => z.elim ne.symm n2) fun z o hz hz2 => e _ _ (by
      have n : z ≠ km := fun q => hz (.inl q)
      rw [hid_ne n n]
      exact hz2)
    exact (k2.go (fun z => z.elim ne.symm n2) fun z o hz hz2 => up _ _ (fun q => hz (.inr q)) hz2).less fun z => .inl
theorem self_webK {C x kd : Addr} {n : Int} {F : Hp} {ts : List St5} (h : WebK K C F x kd n ts) : Self5 K C F (.ref x) := fun G e => by
  obtain ⟨dx, l, ys, h1, h2, h3⟩ := id h
  exact .inr (.inr (.inr (.inr (.inl ⟨x, dx, _, rfl, rfl, e _ _ h1, rfl, n, ts, (h.ex e).at⟩))))
/-- what the law tells to be due -/
def DuOk (ss : List St5) (n : Int) (du : List (Int × Option Int)) : Prop := du.length = n.toNat ∧ ∀ (i : Nat) (e : Int × Option Int), du[i]? = some e → e.1 = i ∧ LsO ss i e.2
theorem LsO.same {ss ts : List St5} {v : Int} {r : Option Int} (e : ∀ s, s ∈ ts ↔ s ∈ ss) (h : LsO ss v r) : LsO ts v r :=
  ⟨fun hr W R hl => h.no hr W R (hl.same e), fun x hx => let ⟨⟨W, R, h1, h2, h3⟩, h4⟩ := h.yes x hx; ⟨⟨W, R, h1.same fun s => (e s).symm, h2, h3⟩, fun W R hl => h4 W R (hl.same e)⟩⟩
theorem DuOk.eq {ss ts : List St5} {n : Int} {du : List (Int × Option Int)} {nd : List (Int × Int)} {U : List Int} (h : DuOk ss n du) (em : ∀ s, s ∈ ts ↔ s ∈ ss) (k : NOk ts nd) (hv : ∀ i : Nat, i < n.toNat → (i : Int) ∈ U) (hU : ∀ s ∈ ts, s.one ∈ U ∧ s.other ∈ U) (hc : ∀ s ∈ ts, s.change ≤ 9) : nds n nd = du := by
  refine List.ext_getElem? fun i => ?_
  by_cases hi : i < n.toNat
  · have h1 : (nds n nd)[i]? = some ((i : Int), gt nd (i : Int)) := by
      unfold nds
      rw [List.getElem?_map, List.getElem?_range hi]
      rfl
    have h2 : du[i]? = some (du[i]'(by rw [h.1]; exact hi)) := List.getElem?_eq_getElem _
    obtain ⟨e1, e2⟩ := h.2 i _ h2
    rw [h1, h2]
    generalize du[i]'(by rw [h.1]; exact hi) = e at e1 e2
    obtain ⟨p, r⟩ := e
    have e1' : p = i := e1
    subst e1'
    rw [(LsO.same em e2).eq k (hv i hi) hU hc]
  · rw [List.getElem?_eq_none (by rw [nds_len]; omega), List.getElem?_eq_none (by rw [h.1]; omega)]
end
end AA

set_option Elab.async false
set_option linter.all false
set_option maxRecDepth 100000
set_option maxHeartbeats 4000000
/-! Defs that show things: they are called where nothing is being shown. -/
namespace AA
open PySem PySem.Spec PyProof.Rows L2 Evl
structure GOk (P : Program) (w : World) (K : PySem.W.Frag) (mg : Str → Option Value) (base : Heap)
    (k : Nat) (f : Addr) (fd : FuncData) (ps : List Str) (sp : Sp) : Prop where
  len : ∀ vs H Q E, sp vs H Q E → vs.length = ps.length
  run : ∀ (A : Around) (outer : List Env) (s : Shared) (H : Hp) (args : Args) (us : List Value) (vs : List V) (Q : VK),
    A.guards = some [] → Room k A → Env0 P w K mg base A outer s H → BindsTo s fd args (ps.zip us) → Vals vs us →
    sp vs H Q E0 → codeAny (model P w) A (.call (.ref f) args) (CR CX0 outer P w H s Q E0) s
section
variable {P : Program} {w : World} {K : PySem.W.Frag} {mg : Str → Option Value} {base : Heap}
theorem gok_of {x qual : Str} {st : Stmt} {f : Addr} {fd : FuncData} {N ps : List Str} {k : Nat} {sp : Sp}
    (F : L2.Fun K x qual st f fd) (S : FnScope N ps (defScope st)) (len : ∀ vs H Q E, sp vs H Q E → vs.length = ps.length)
    (body : ∀ (cdv : Value) (A : Around) (outer : List Env) (s : Shared) (H : Hp) (vs : List V) (Q : VK),
      A.guards = some [] → Room k (A.deeper (envOfC qual (defScope st) s.heap.objs.size f cdv)) → sp vs H Q E0 →
      ∃ t, PSs (cxOf CX0 P w K mg base N qual (defScope st) f cdv A outer s H E0) (defBody st) t ∧
        t { nx := fun _ H' => Q .non H', rt := Q } (start N vs) H) : GOk P w K mg base (k + 1) f fd ps sp := by
  obtain ⟨oc, od, kV, doc, pm, an, cdv, ct, osl, rfl, lk, hcd⟩ := F.ex
  refine ⟨len, fun A outer s H args us vs Q hg hr e0 hb r hs => ?_⟩
  exact LamX.run_ofS lk hcd S hr e0 hb r (len _ _ _ _ hs) fun hr' => body cdv A outer s H vs Q hg hr' hs
/-- what may be called so by its name -/
structure GCal (P : Program) (w : World) (K : PySem.W.Frag) (mg : Str → Option Value) (base : Heap) (k : Nat) (x : Str) (sp : Sp) : Prop where
  ex : ∃ (f : Addr) (fd : FuncData) (ps : List Str), GOk P w K mg base k f fd ps sp ∧ mg x = some (.ref f) ∧
    PySem.W.keepIn K (.ref f) = true ∧ Binds K fd ps []
end
section
variable {X : Cx} {k j : Nat} {x : Str} {sp : Sp} {p pos : Pos} {e : Expr} {es : List Expr} {t : TA}
theorem pe_g (c : GCal X.prog X.w X.K X.mg X.base k x sp) (hgd : X.A.guards = some []) (hr : Room j X.A) (hk : k ≤ j) (hg : Gl X x)
    (ha : PA X (e :: es) t) (hdb : (x == ("__debug__" : Str)) = false := by decide)
    (he : starEach (e :: es) X.env = (false, eval e X.env) :: starEach es X.env := by rfl)
    (hpl : (backTo pos (starEach es X.env)).any (·.1) = false := by rfl) :
    PE X (.Call (.Name x p) (e :: es) [] pos) (tCall sp [] E0 t) := by
  obtain ⟨f, fd, ps, G, hm, kp, b⟩ := c.ex
  refine ⟨fun pins s σ H Q I h => wpAny_Call_Name_kw (ld_glob I hg hm ?_ hdb)⟩
  refine PySem.W.callWith_K (h₀ := X.base) I.ok.mod.kin kp (thn (ha.run pos pins s σ H _ I h) fun us s1 z => ?_) he hpl
  obtain ⟨vs, H1, I1, r, q⟩ := z
  refine ⟨I1.kIn, ?_⟩
  rw [List.append_nil] at q
  have hl : us.length = ps.length := r.length.symm.trans (G.len _ _ _ _ q)
  have bb : BindsTo s1 fd ⟨us, []⟩ (ps.zip us) := by
    have z := b s1 us I1.kIn (by rw [List.append_nil]; exact hl)
    rw [List.append_nil] at z
    exact z
  refine wpAny_call (codeAny_mono (G.run X.A X.stack s1 H1 _ us vs Q hgd (hr.mono hk) I1.env0 bb r q) fun r' s' hq => ?_)
  cases r' with
  | error e => exact False.elim hq
  | ok fl =>
    cases fl with
    | ret u => exact I1.after hq
    | next => exact False.elim hq
    | brk => exact False.elim hq
    | cont => exact False.elim hq
/-- repr of data without dicts -/
def rRep (K : PySem.W.Frag) : List V → Hp → VK → Prop := fun xs H Q => ∃ (a : Addr) (d : PyData), xs = [.ref a] ∧ Dp K H (.ref a) d ∧
  d.showable = true ∧ d.hasDict = false ∧ d.depth ≤ 60 ∧ d.shown.length ≤ sizeLine ∧ Q (.str d.shown) H
theorem call_rep (hgd : X.A.guards = some []) (hr : Room j X.A) : CallR X (.builtin "repr") (rRep X.K) := by
  intro pins s σ H xs us Q I r h
  obtain ⟨a, d, rfl, hd, h1, h2, h3, h4, q⟩ := h
  obtain ⟨u, rfl, rx⟩ := vals1 r
  obtain ⟨as, rd⟩ := Dp.reads I d _ u hd rx
  obtain rfl : u = Value.ref a := rx
  have := hr.un
  refine repr_of_reads' rd h1 (PyData.noDict_hsm h2) hgd (by omega) (fun _ _ e => e) (fun h' v tk kp => ?_) h4
  exact ⟨.str d.shown, H, I.kept kp, ⟨v, rfl⟩, q⟩
end
/-! ### the law's own call -/
section
variable {P : Program} {w : World} {K : PySem.W.Frag} {mg mb : Str → Option Value} {k : Nat} {fa a : Addr} {fd : FuncData} {x : Str} {sp : Sp}
theorem g_core {s₁ : Shared} {vs : List Value} {H : Hp} (KX : K.In s₁.heap) (hns : s₁.heap.Ns mainGlobals mg) (hb : s₁.heap.Ns builtinsNs mb)
    (hbb : ∀ y : Str, y ≠ "__name__" → mb y = bootBuiltins y) (hlim : s₁.heap.NoLimit) (hg : s₁.gens = #[])
    (ha : s₁.heap.get? a = some { cls := .type "list", data := .seq vs.toArray }) (hr : Room k callerA)
    (F : ∀ bs : Heap, K.In bs → bs.Ns mainGlobals mg → GOk P w K mg bs k fa fd [x] sp)
    (hbind : ∀ (s : Shared) (u : Value), BindsTo s fd ⟨[u], []⟩ [(x, u)])
    (hO : Only H) (hok : HOk P w H s₁.heap) (hA : ∀ b, H b ≠ none → b = a) (hK : H a ≠ none → K.lookup a = none)
    (hsp : sp [.ref a] H (fun v _ => v = .bl true) E0) :
    codeAny (model P w) callerA (.call (.ref fa) ⟨[.ref a], []⟩)
      (fun r s' => r = .ok (.ret (.bool true)) ∧ OldK s₁.heap s'.heap ∧ s'.os = s₁.os ∧ AllBare s'.gens) s₁ := by
  have free : ∀ {b : Addr} {o : Obj}, s₁.heap.get? b = some o → o ≠ { cls := .type "list", data := .seq vs.toArray } → H b = none := by
    intro b o e ne
    cases q : H b with
    | none => rfl
    | some u =>
      have e' := hA b (by rw [q]; exact fun z => nomatch z)
      rw [e', ha] at e
      exact absurd (Option.some.inj e).symm ne
  have kin : K.In (hidT s₁.heap H) := by
    intro b o e
    refine hidT_get (KX b o e) ?_
    cases q : H b with
    | none => rfl
    | some u =>
      have e' := hA b (by rw [q]; exact fun z => nomatch z)
      rw [e', hK (by rw [← e', q]; exact fun z => nomatch z)] at e
      cases e
  have nsK : ∀ {b : Addr} {m : Str → Option Value}, s₁.heap.Ns b m → (hidT s₁.heap H).Ns b m := by
    rintro b m ⟨o, es, ep, e, d, r⟩
    refine ⟨o, es, ep, hidT_get e (free e fun z => ?_), d, r⟩
    rw [z] at d
    cases d
  have hM : Mod K mg (hidT s₁.heap H) := by
    obtain ⟨mc, h1, h2⟩ := hlim
    exact ⟨kin, nsK hns, ⟨mb, nsK hb, hbb⟩, ⟨mc, nsK h1, h2⟩⟩
  have none_in : ∀ b : Addr, b ∉ ([] : List Addr) := fun b z => nomatch z
  have e0 : Env0 P w K mg (hidT s₁.heap H) callerA [] s₁ H :=
    ⟨rfl, hM, fun b o e => of_hidT e, Nat.le_of_eq (hidT_size _ _), trivial, fun b z => absurd z (none_in b), hok, .of_eq hg⟩
  have G := F _ kin (nsK hns)
  refine codeAny_mono (G.run callerA [] s₁ H ⟨[.ref a], []⟩ [.ref a] [.ref a] _ rfl hr e0 (hbind s₁ (.ref a)) (.cons rfl .nil) hsp) ?_
  intro r s' h
  cases r with
  | error e => exact False.elim h
  | ok fl =>
    cases fl with
    | next => exact False.elim h
    | brk => exact False.elim h
    | cont => exact False.elim h
    | ret u =>
      obtain ⟨v, H', os, bare, un, hok', r', q⟩ := h
      cases (show v = .bl true from q)
      cases (show u = Value.bool true from r')
      refine ⟨rfl, OldK.of_keep fun b o e => ?_, os, bare⟩
      cases q : H b with
      | none => exact un.keep b o e q (none_in b) (none_in b)
      | some u =>
        rcases hO b with z | ⟨ob, xs, z⟩
        · rw [q] at z
          cases z
        · have e1 := (hok b _ z).1
          have e2 := (hok' b _ (un.frzs b ob _ z)).1
          rw [e] at e1
          cases e1
          exact e2
theorem g_call {s₁ : Shared} {vs : List Value} {ns : List Int} (KX : K.In s₁.heap) (hns : s₁.heap.Ns mainGlobals mg) (hb : s₁.heap.Ns builtinsNs mb)
    (hbb : ∀ y : Str, y ≠ "__name__" → mb y = bootBuiltins y) (hlim : s₁.heap.NoLimit) (hg : s₁.gens = #[])
    (ha : s₁.heap.get? a = some { cls := .type "list", data := .seq vs.toArray }) (hi : IntsAre vs ns) (hl : ns.length ≤ sizeLine) (hr : Room k callerA)
    (F : ∀ bs : Heap, K.In bs → bs.Ns mainGlobals mg → GOk P w K mg bs k fa fd [x] sp)
    (hbind : ∀ (s : Shared) (u : Value), BindsTo s fd ⟨[u], []⟩ [(x, u)])
    (hsp : ∀ H : Hp, Only H → SqL K H a (ns.map V.int) → sp [.ref a] H (fun v _ => v = .bl true) E0) :
    codeAny (model P w) callerA (.call (.ref fa) ⟨[.ref a], []⟩)
      (fun r s' => r = .ok (.ret (.bool true)) ∧ OldK s₁.heap s'.heap ∧ s'.os = s₁.os ∧ AllBare s'.gens) s₁ := by
  have rv := vals_ints hi
  have lv := hi.length
  have lm : (ns.map V.int).length ≤ sizeLine := by
    rw [List.length_map]
    exact hl
  cases hk : K.lookup a with
  | some o =>
    have e := KX a o hk
    rw [ha] at e
    cases e
    have hO : Only fun _ => none := fun _ => .inl rfl
    refine g_core (H := fun _ => none) KX hns hb hbb hlim hg ha hr F hbind hO (fun b u z => nomatch (show (none : Option HO) = some u from z)) (fun b z => absurd rfl z) (fun z => absurd rfl z) (hsp _ hO (.inr ?_))
    exact ⟨_, vs.toArray, _, hk, rfl, rfl, rfl, by rw [List.size_toArray, lv]; exact hl, by simpa using rv⟩
  | none =>
    let H1 : Hp := fun b => if b = a then some (.frz { cls := .type "list", data := .seq vs.toArray } (.lst (ns.map V.int))) else none
    have at1 : H1 a = some (.frz { cls := .type "list", data := .seq vs.toArray } (.lst (ns.map V.int))) := if_pos rfl
    have at2 : ∀ b, b ≠ a → H1 b = none := fun b h => if_neg h
    have hO : Only H1 := fun b => by
      by_cases h : b = a
      · exact .inr ⟨_, _, by rw [h]; exact at1⟩
      · exact .inl (at2 b h)
    refine g_core (H := H1) KX hns hb hbb hlim hg ha hr F hbind hO (fun b u z => ?_) (fun b z => ?_) (fun _ => hk) (hsp _ hO (.inl (.inr ⟨_, at1⟩)))
    · by_cases h : b = a
      · rw [h, at1] at z
        cases z
        rw [h]
        exact ⟨ha, lm, vs, _, rv, ha⟩
      · rw [at2 b h] at z
        cases z
    · by_cases h : b = a
      · exact h
      · exact absurd (at2 b h) z
theorem g_walk {l : PySem.W.OpenLaw} {n : Nat} {q : Program} {loose : List Str} {XP : (Str → Option Value) → Heap → Prop} {YP : World → Heap → Prop} {d : DefRec}
    {KK : Params → PySem.W.Frag} {spk : PySem.W.Frag → Sp} (hn : l.most = some n) (hn2 : n ≤ sizeLine) (hdf : d.params.defaults = []) (hr : Room k callerA)
    (hY : ∀ (w : World) (h : Heap), YP w h → (KK w.params).In h)
    (F : ∀ (w : World) (mg : Str → Option Value) (fa : Addr) (h : Heap), (KK w.params).In h → h.Ns mainGlobals mg → mg d.name = some (.ref fa) →
      ∃ fd : FuncData, (∀ (s : Shared) (u : Value), BindsTo s fd ⟨[u], []⟩ [(x, u)]) ∧
        ∀ bs : Heap, (KK w.params).In bs → bs.Ns mainGlobals mg → GOk l.prog w (KK w.params) mg bs k fa fd [x] (spk (KK w.params)))
    (hsp : ∀ (K : PySem.W.Frag) (H : Hp) (a : Addr) (ns : List Int), ns.length ≤ n → Only H → SqL K H a (ns.map V.int) → spk K [.ref a] H (fun v _ => v = .bl true) E0) :
    PySem.W.WalkO q loose XP YP l.row.toRowW d [] (fun f vs => PySem.call f vs) := by
  refine Att.attach_call hn hdf fun w s₀ s₁ mg mb fa o pm cd doc a vs ns G Y ho hd hcd hmg hobj hints hlen hg => ?_
  have KX := hY w _ Y
  obtain ⟨fd, hb, hF⟩ := F w mg fa _ KX G.T.g hmg
  exact g_call KX G.T.g G.T.b G.T.builtins G.T.nolimit hg hobj hints (Nat.le_trans hlen hn2) hr hF hb fun H hO hS => hsp _ H a ns hlen hO hS
end
end AA

set_option Elab.async false
set_option linter.all false
set_option maxRecDepth 100000
set_option maxHeartbeats 4000000
/-! How long a walk is when it is shown. -/
namespace AA
open PySem PySem.Spec PyProof.Rows L2 Evl
mutual
/-- small integers in lists and tuples alone -/
def smD : PyData → Bool
  | .int i => decide (i.natAbs < 1024)
  | .list xs => smDA xs
  | .tuple xs => smDA xs
  | _ => false
def smDA : List PyData → Bool
  | [] => true
  | x :: xs => smD x && smDA xs
end
theorem log_lt {n : Nat} (h : n < 1024) : n.log2 < 10 := by
  by_cases z : n = 0
  · subst z
    decide
  · exact (Nat.log2_lt z).mpr h
mutual
theorem sm_facts : ∀ d : PyData, smD d = true → d.canLay0 = true ∧ d.showable = true ∧ d.hasDict = false ∧ d.intsShort 13 = true ∧ d.weight + 1 ≤ 12 * cnt d
  | .int i, h => by
    have h1 : i.natAbs < 1024 := of_decide_eq_true h
    have h2 := log_lt h1
    refine ⟨rfl, ?_, rfl, ?_, ?_⟩
    · exact decide_eq_true (by omega)
    · exact decide_eq_true (PyData.shown_int_le (Nat.lt_trans h1 (by decide)))
    · show (if i == 0 then 0 else i.natAbs.log2 + 1) + 1 ≤ 12 * 1
      split <;> omega
  | .list xs, h => by
    obtain ⟨h1, h2, h3, h4, h5⟩ := sm_factsA xs h
    refine ⟨h1, h2, h3, h4, ?_⟩
    show PyData.weightAll xs + 1 ≤ 12 * (cntA xs + 1)
    omega
  | .tuple xs, h => by
    obtain ⟨h1, h2, h3, h4, h5⟩ := sm_factsA xs h
    refine ⟨h1, h2, h3, h4, ?_⟩
    show PyData.weightAll xs + 1 ≤ 12 * (cntA xs + 1)
    omega
  | .none, h => by cases h
  | .bool _, h => by cases h
  | .str _, h => by cases h
  | .dict _, h => by cases h
theorem sm_factsA : ∀ ds : List PyData, smDA ds = true → PyData.canLayAll0 ds = true ∧ PyData.showableAll ds = true ∧ PyData.hasDictAll ds = false ∧ PyData.intsShortAll 13 ds = true ∧ PyData.weightAll ds ≤ 12 * cntA ds
  | [], _ => ⟨rfl, rfl, rfl, rfl, Nat.le_refl _⟩
  | d :: ds, h => by
    have h' : (smD d && smDA ds) = true := h
    rw [Bool.and_eq_true] at h'
    obtain ⟨a1, a2, a3, a4, a5⟩ := sm_facts d h'.1
    obtain ⟨b1, b2, b3, b4, b5⟩ := sm_factsA ds h'.2
    have hc := cnt_pos d
    refine ⟨?_, ?_, ?_, ?_, ?_⟩
    · show (PyData.canLay0 d && PyData.canLayAll0 ds) = true
      rw [a1, b1]
      rfl
    · show (PyData.showable d && PyData.showableAll ds) = true
      rw [a2, b2]
      rfl
    · show (PyData.hasDict d || PyData.hasDictAll ds) = false
      rw [a3, b3]
      rfl
    · show (PyData.intsShort 13 d && PyData.intsShortAll 13 ds) = true
      rw [a4, b4]
      rfl
    · show PyData.weight d + 1 + PyData.weightAll ds ≤ 12 * (cnt d + cntA ds)
      omega
end
theorem st_sm {n : Int} {s : St5} (hn : n ≤ 100) (o : StOk n s) (m : StSm s) : smD (stD s) = true := by
  have h1 := o.o0
  have h2 := o.o1
  have h3 := o.t0
  have h4 := o.t1
  have h5 := o.k
  have h6 := m.p0
  have h7 := m.p1
  have h8 := m.q0
  have h9 := m.q1
  have h10 := m.k1
  have h11 := m.c0
  have h12 := m.c1
  show (decide (s.one.natAbs < 1024) && (decide (s.other.natAbs < 1024) && ((decide (s.p.natAbs < 1024) && (decide (s.q.natAbs < 1024) && true)) && (decide (s.ticks.natAbs < 1024) && (decide (s.change.natAbs < 1024) && true))))) = true
  rw [decide_eq_true (by omega : s.one.natAbs < 1024), decide_eq_true (by omega : s.other.natAbs < 1024), decide_eq_true (by omega : s.p.natAbs < 1024), decide_eq_true (by omega : s.q.natAbs < 1024), decide_eq_true (by omega : s.ticks.natAbs < 1024), decide_eq_true (by omega : s.change.natAbs < 1024)]
  rfl
theorem sts_sm {n : Int} (hn : n ≤ 100) : ∀ {ws : List St5}, (∀ s ∈ ws, StOk n s ∧ StSm s) → smDA (ws.map stD) = true ∧ cntA (ws.map stD) = 8 * ws.length
  | [], _ => ⟨rfl, rfl⟩
  | s :: ws, h => by
    obtain ⟨h1, h2⟩ := sts_sm hn (ws := ws) fun t ht => h t (List.mem_cons_of_mem _ ht)
    have h3 := h s List.mem_cons_self
    refine ⟨?_, ?_⟩
    · show (smD (stD s) && smDA (ws.map stD)) = true
      rw [st_sm hn h3.1 h3.2, h1]
      rfl
    · show cnt (stD s) + cntA (ws.map stD) = 8 * (ws.length + 1)
      have e : cnt (stD s) = 8 := rfl
      rw [e, h2]
      omega
/-- what repr needs of a walk and a ring -/
theorem way_shown {n : Int} {W R : List St5} (hn : n ≤ 100) (h : ∀ s ∈ W ++ R, StOk n s ∧ StSm s) (hl : (W ++ R).length ≤ 63) : (PyData.tuple [.list (W.map stD), .list (R.map stD)]).showable = true ∧ (PyData.tuple [.list (W.map stD), .list (R.map stD)]).hasDict = false ∧ (PyData.tuple [.list (W.map stD), .list (R.map stD)]).depth ≤ 60 ∧ (PyData.tuple [.list (W.map stD), .list (R.map stD)]).shown.length ≤ sizeLine := by
  obtain ⟨a1, a2⟩ := sts_sm hn (ws := W) fun s hs => h s (List.mem_append_left _ hs)
  obtain ⟨b1, b2⟩ := sts_sm hn (ws := R) fun s hs => h s (List.mem_append_right _ hs)
  rw [List.length_append] at hl
  have sm : smD (PyData.tuple [.list (W.map stD), .list (R.map stD)]) = true := by
    show (smDA (W.map stD) && (smDA (R.map stD) && true)) = true
    rw [a1, b1]
    rfl
  obtain ⟨f1, f2, f3, f4, f5⟩ := sm_facts _ sm
  have hc : cnt (PyData.tuple [.list (W.map stD), .list (R.map stD)]) = 8 * W.length + 8 * R.length + 3 := by
    show ((cntA (W.map stD) + 1) + ((cntA (R.map stD) + 1) + 0)) + 1 = _
    rw [a2, b2]
    omega
  have hd : PyData.depth (PyData.tuple [.list (W.map stD), .list (R.map stD)]) ≤ 4 := by
    have h1 := stDs_depth W
    have h2 := stDs_depth R
    show max (PyData.depthAll (W.map stD) + 1) (max (PyData.depthAll (R.map stD) + 1) 0) + 1 ≤ 4
    omega
  have hlay : PyData.layable0 (PyData.tuple [.list (W.map stD), .list (R.map stD)]) = true := by
    show (PyData.canLay0 (PyData.tuple [.list (W.map stD), .list (R.map stD)]) && decide (PyData.depth (PyData.tuple [.list (W.map stD), .list (R.map stD)]) ≤ 64) && decide (PyData.weight (PyData.tuple [.list (W.map stD), .list (R.map stD)]) ≤ 2 ^ 20)) = true
    have e20 : (2 : Nat) ^ 20 = 1048576 := by decide
    rw [f1, decide_eq_true (by omega : PyData.depth (PyData.tuple [.list (W.map stD), .list (R.map stD)]) ≤ 64), decide_eq_true (by omega : PyData.weight (PyData.tuple [.list (W.map stD), .list (R.map stD)]) ≤ 2 ^ 20)]
    rfl
  exact ⟨f2, f3, by omega, PyData.shown_fits_of_layable0 (B := 13) (by decide) (by decide) hlay f4⟩
end AA

set_option Elab.async false
set_option linter.all false
set_option maxRecDepth 100000
set_option maxHeartbeats 4000000
/-! len(set(xs)), _law_sum, _law_is_ring. -/
namespace AA
open PySem PySem.Spec PyProof.Rows L2 Evl
theorem met_len (ns : List Int) : ∀ i, i ≤ ns.length → (firstMet (fun i => ns.getD i 0) i).length ≤ i ∧ (∀ v, v ∈ firstMet (fun i => ns.getD i 0) i ↔ v ∈ ns.take i) ∧ ((firstMet (fun i => ns.getD i 0) i).length = i ↔ (ns.take i).Nodup)
  | 0, _ => ⟨Nat.le_refl _, fun v => by rw [List.take_zero]; exact Iff.rfl, by rw [List.take_zero]; exact ⟨fun _ => List.nodup_nil, fun _ => rfl⟩⟩
  | i + 1, hi => by
    have hlt : i < ns.length := hi
    have e1 : ns.getD i 0 = ns[i] := by
      rw [List.getD_eq_getElem?_getD, List.getElem?_eq_getElem hlt] <;> rfl
    have e2 : ns.take (i + 1) = ns.take i ++ [ns[i]] := by
      rw [List.take_add_one, List.getElem?_eq_getElem hlt] <;> rfl
    obtain ⟨h1, h2, h3⟩ := met_len ns i (Nat.le_of_lt hlt)
    rw [firstMet_succ, e2]
    generalize firstMet (fun i => ns.getD i 0) i = F at h1 h2 h3 ⊢
    show (if F.any (· == ns.getD i 0) then F else F ++ [ns.getD i 0]).length ≤ i + 1 ∧ (∀ v, v ∈ (if F.any (· == ns.getD i 0) then F else F ++ [ns.getD i 0]) ↔ _) ∧ ((if F.any (· == ns.getD i 0) then F else F ++ [ns.getD i 0]).length = i + 1 ↔ _)
    rw [e1]
    by_cases hin : ns[i] ∈ F
    · have ha : F.any (· == ns[i]) = true := List.any_eq_true.mpr ⟨_, hin, by simp⟩
      rw [if_pos ha]
      refine ⟨by omega, fun v => ?_, ⟨fun z => by omega, fun z => ?_⟩⟩
      · rw [h2 v, List.mem_append, List.mem_singleton]
        exact ⟨.inl, fun z => z.elim id fun e => by rw [e]; exact (h2 _).mp hin⟩
      · exact absurd rfl ((List.nodup_append.mp z).2.2 _ ((h2 _).mp hin) _ (by simp))
    · have ha : ¬ (F.any (· == ns[i]) = true) := fun z => by
        obtain ⟨y, hy, ey⟩ := List.any_eq_true.mp z
        exact hin ((eq_of_beq ey : y = ns[i]) ▸ hy)
      rw [if_neg ha, List.length_append, List.length_singleton]
      refine ⟨by omega, fun v => by rw [List.mem_append, List.mem_append, h2 v], ⟨fun z => ?_, fun z => ?_⟩⟩
      · exact List.nodup_append.mpr ⟨h3.mp (by omega), by simp, fun x hx y hy e => hin ((h2 _).mpr (by rw [List.mem_singleton.mp hy] at e; exact e ▸ hx))⟩
      · have := h3.mpr (List.nodup_append.mp z).1
        omega
theorem intsAre_vs : ∀ {ns : List Int} {us : List Value}, Vals (ns.map V.int) us → PyProof.Rows.IntsAre us ns
  | [], _, .nil => .nil
  | n :: ns, _, .cons r t => by
    obtain ⟨k, rfl⟩ := r
    exact .cons n k (intsAre_vs t)
def tLenSetA (K : PySem.W.Frag) (ta : TE) : TE := fun σ H Q => ta σ H fun x H1 => ∃ (l : Addr) (ns : List Int), x = .ref l ∧ SqL K H1 l (ns.map V.int) ∧ ns.length ≤ 4000 ∧ ∀ m : Nat, (m = ns.length ↔ ns.Nodup) → Q (.int m) H1
theorem pe_lenSetA {X : Cx} {a : Expr} {ta : TE} {p p2 q pos : Pos} (hg : Gl X "len") (hm : X.mg "len" = none) (hg2 : Gl X "set") (hm2 : X.mg "set" = none) (ha : PE X a ta) (hc : X.calm = true := by rfl)
    (na : starEach [a] X.env = (false, eval a X.env) :: starEach [] X.env := by rfl) : PE X (.Call (.Name "len" p) [.Call (.Name "set" p2) [a] [] q] [] pos) (tLenSetA X.K ta) := by
  refine ⟨fun pins s σ H Q I h => ?_⟩
  refine Call_ (ld_blt I hg hm PySem.boot_len ?_)
  refine PyProof.Rows.callWith_builtin1 (PyProof.Rows.args_cons ?_ rfl) rfl rfl
  refine Call_ (ld_blt I hg2 hm2 PyProof.Rows.boot_set ?_)
  refine PyProof.Rows.callWith_type1 (PyProof.Rows.args_cons (thn (ha.run pins s σ H _ I h) fun v s1 ⟨x, H1, I1, r1, q1⟩ => PyProof.Rows.args_nil ?_) na) na rfl
  obtain ⟨l, ns, rfl, hq, hl, q1⟩ := q1
  cases r1
  obtain ⟨its, r, pl, hz⟩ := I1.list hq
  have hlen : its.toArray.size = ns.length := by rw [List.size_toArray, ← r.length, List.length_map]
  refine call_set_list (I1.ok.hd hc) pl.isList (by simpa using intsAre_vs r) (by rw [hlen]; unfold scanBound; omega) fun h' tk hS hk => ?_
  refine PyProof.Rows.args_nil ?_
  rw [hlen] at hS
  obtain ⟨m1, m2, m3⟩ := met_len ns ns.length (Nat.le_refl _)
  rw [List.take_length] at m3
  obtain ⟨o, es, ep, t, ho, hex, hd, _, _, _, hf, hn⟩ := hS
  have I2 : Inv X pins σ H1 { s1 with heap := h', toks := tk } := I1.kept fun b o e => hk b o (Heap.lt_size e) e
  exact call_len_set ho hex hd hf (by rw [hn] <;> omega) ⟨.int ((firstMet (fun i => ns.getD i 0) ns.length).length : Nat), H1, I2.tok _, ⟨_, by rw [hn]⟩, q1 _ m3⟩
theorem cut_1 (xs : List V) : cutV xs (some 1) none = xs.drop 1 := cut_from xs 1
theorem cut_t1 (xs : List V) : cutV xs none (some 1) = xs.take 1 := cut_to xs 1
theorem cut_init (xs : List V) : cutV xs none (some (-1)) = xs.take (xs.length - 1) := by
  unfold cutV
  have h : HT.sIx xs.length xs.length (some (-1)) = xs.length - 1 := by
    show (if (-1 : Int) < 0 then ((-1 : Int) + (xs.length : Int)).toNat else min (-1 : Int).toNat xs.length) = xs.length - 1
    rw [if_pos (by decide)]
    omega
  rw [h, HT.sIx_none, List.drop_zero, Nat.sub_zero]
end AA

set_option Elab.async false
set_option linter.all false
set_option maxRecDepth 100000
set_option maxHeartbeats 4000000
/-! _law_can_go, _law_is_way. -/
namespace AA
open PySem PySem.Spec PyProof.Rows L2 Evl
theorem eqv_ints_self (ns : List Int) : PyData.eqv (.list (ns.map PyData.int)) (.list (ns.map PyData.int)) = true := by
  show PyData.eqvAll (ns.map PyData.int) (ns.map PyData.int) = true
  induction ns with
  | nil => rfl
  | cons n ns ih =>
    show (PyData.eqv (.int n) (.int n) && PyData.eqvAll (ns.map PyData.int) (ns.map PyData.int)) = true
    rw [ih, show PyData.eqv (.int n) (.int n) = (n == n) from rfl, beq_self_eq_true]
    rfl
section
variable {P : Program} {w : World} {K : PySem.W.Frag} {mg : Str → Option Value} {base : Heap}
def spLcg (K : PySem.W.Frag) : Sp := fun vs H Q _ => ∃ (p : Addr) (xs : List V) (L : List St5) (N : Int), vs = [.ref p, .int N] ∧ SqL K H p xs ∧ DpAll K H xs (L.map stD) ∧ Q (.bl (gon N L).isSome) H
abbrev nmCg : List Str := ["_law_walk", "_law_stock", "_law_step_here"]
theorem scCg : FnScope nmCg ["_law_walk", "_law_stock"] (defScope sLCanGo) := ⟨rfl, rfl, rfl, by decide +kernel, rfl, by decide +kernel, by decide +kernel⟩
theorem ok_lcg {f : Addr} {fd : FuncData} (F : L2.Fun K "_law_can_go" "_law_can_go" sLCanGo f fd) : FnOk P w K mg base CX0 1 f fd ["_law_walk", "_law_stock"] (spLcg K) := by
  refine F.ok scCg (fun vs H Q E h => ?_) (fun cdv A outer s H vs Q E hr h => ?_)
  · obtain ⟨p, xs, L, N, rfl, _⟩ := h
    rfl
  · obtain ⟨p, xs, L, N, rfl, hp, hD, k⟩ := h
    refine ⟨_, pss_cons (ps_for PassesOwn.never rfl (pi_list (pv 0)) (pg_name (i := 2) scCg.nd rfl (.inl rfl))
        (pss_cons (ps_set (i := 1) scCg.nd rfl (.inl rfl) (pe_op op_add (pv 1) (pe_ix (r := rIxT K) ix_tup (pv 2) pe_int (fun _ _ => rfl))))
        (pss_one (ps_if (pt_cmpR op_lt (pv 1) pe_int (nomark _)) (pss_one (ps_ret pe_bl)) pss_nil))))
      (pss_one (ps_ret pe_bl)), ?_⟩
    have hul := sts_len hD
    refine ⟨_, rfl, p, rfl, ⟨_, hp⟩, ?_⟩
    refine for_list (K := K) (a := p) (xs := xs) (fun i σ G => ∃ (x2 : Option V) (y : Int), σ = [some (.ref p), some (.int y), x2] ∧ G = H ∧ gon N (L.take i) = some y) ⟨none, N, rfl, rfl, rfl⟩ (fun i σ G _ ⟨_, _, _, e, _⟩ => by rw [e]; exact hp) ?_ ?_
    · rintro i x σ G hx ⟨x2, y, rfl, rfl, hy⟩
      obtain ⟨s, b, hs, rfl, hb⟩ := sts_get hD hx
      obtain ⟨_, u, ez, p1, _⟩ := stD_inv hb
      cases ez
      have tk : L.take (i + 1) = L.take i ++ [s] := by rw [List.take_add_one, hs]; rfl
      have g1 : gon N (L.take (i + 1)) = if y + s.change < 0 then none else some (y + s.change) := by
        rw [tk, gon_app, hy]
        rfl
      refine ⟨_, rfl, _, rfl, b, _, 4, .int s.change, rfl, rfl, p1, rfl, _, _, rfl, rfl, ?_⟩
      refine ⟨_, rfl, _, _, rfl, rfl, _, rfl, ?_⟩
      by_cases q : y + s.change < 0
      · rw [decide_eq_true q]
        refine iteT ?_
        rw [if_pos q] at g1
        have e : gon N L = none := by
          rw [← List.take_append_drop (i + 1) L, gon_app, g1]
          rfl
        rw [e] at k
        exact k
      · rw [decide_eq_false q]
        rw [if_neg q] at g1
        exact iteF ⟨_, _, rfl, rfl, g1⟩
    · rintro σ G ⟨x2, y, rfl, rfl, hy⟩
      rw [hul, List.take_length] at hy
      rw [hy] at k
      exact k
/-- what is told as a way -/
structure ToldW (K : PySem.W.Frag) (G : Hp) (T a b : Addr) (xs ys : List V) (W R : List St5) : Prop where
  ht : G T = some (.tup [.ref a, .ref b])
  ha : G a = some (.lst xs)
  hb : G b = some (.lst ys)
  dx : DpAll K G xs (W.map stD)
  dy : DpAll K G ys (R.map stD)
theorem ToldW.ex {G G' : Hp} {T a b : Addr} {xs ys : List V} {W R : List St5} (h : ToldW K G T a b xs ys W R) (e : Ex G G') : ToldW K G' T a b xs ys W R := ⟨e _ _ h.ht, e _ _ h.ha, e _ _ h.hb, dpa_ex e _ _ h.dx, dpa_ex e _ _ h.dy⟩
def spLiw (K : PySem.W.Frag) : Sp := fun vs H Q _ => ∃ (g : Addr) (us : List V) (ss : List St5) (v N : Int) (T a b : Addr) (xs ys : List V) (W R : List St5), vs = [.ref g, .int v, .int N, .ref T] ∧ SqL K H g us ∧ DpAll K H us (ss.map stD) ∧ ss.length ≤ 1000 ∧ ToldW K H T a b xs ys W R ∧ Way ss v N W R ∧ ∀ H', Ex H H' → Q (.bl true) H'
abbrev nmIw : List Str := ["_law_steps", "_law_place", "_law_stock", "_law_told", "_law_walk", "_law_ring", "_law_begins", "_law_ends", "_law_part", "_law_step_here"]
theorem scIw : FnScope nmIw ["_law_steps", "_law_place", "_law_stock", "_law_told"] (defScope sLIsWay) := ⟨rfl, rfl, rfl, by decide +kernel, rfl, by decide +kernel, by decide +kernel⟩
theorem ok_liw {f : Addr} {fd : FuncData} (F : L2.Fun K "_law_is_way" "_law_is_way" sLIsWay f fd) (B : Bn mg) (hset : mg "set" = none) (cN : C8.Cal P w K mg base 1 "_law_need" (spLne K) []) (cG : C8.Cal P w K mg base 1 "_law_can_go" (spLcg K) []) : FnOk P w K mg base CX0 2 f fd ["_law_steps", "_law_place", "_law_stock", "_law_told"] (spLiw K) := by
  refine F.ok scIw (fun vs H Q E h => ?_) (fun cdv A outer s H vs Q E hr h => ?_)
  · obtain ⟨g, us, ss, v, N, T, a, b, xs, ys, W, R, rfl, _⟩ := h
    rfl
  · obtain ⟨g, us, ss, v, N, T, a, b, xs, ys, W, R, rfl, hg, hD, hsz, hT, hW, k⟩ := h
    refine ⟨_, pss_cons (ps_if (PW.pt (pw_or (pt_not (pt_val (pe_callB call_is1 (by rfl) B.isinstance boot_isinstance (pa_cons (pv 3) (pa_cons (pe_bltn (v := .ty "tuple") (by rfl) B.tuple boot_tuple rfl) pa_nil)))))
          (pw_or (pt_cmpR op_ne (pe_callB call_len_seq (by rfl) B.len PySem.boot_len (pa_cons (pv 3) pa_nil)) pe_int (nomark _))
          (pw_or1 (pt_not (pt_val (pe_callB (r := rAll K) (cr_all (by rfl)) (by rfl) B.all boot_all (pa_cons (pe_lc (own := [("_law_part", 8)]) (g := gName 8) (tt := tYes) (by rfl) scIw.nd (pi_tup (pv 3)) (blkOk_by (N := nmIw) (sc := defScope sLIsWay) (by decide +kernel))
              (fun _ _ _ _ _ => pg_name (i := 8) scIw.nd rfl (Or.inl rfl)) (fun _ _ _ _ _ => pts_nil) (fun _ _ _ _ _ => pe_callB (r := rIs1 K) call_is1 (by rfl) B.isinstance boot_isinstance (pa_cons (pv 8) (pa_cons (pe_bltn (v := .ty "list") (by rfl) B.list boot_list rfl) pa_nil)))) pa_nil)))))))) (pss_one (ps_ret pe_bl)) pss_nil)
      (pss_cons (ps_asg (pv 3) (pg_tup (n := 2) rfl (pgs_cons (pg_name (i := 4) scIw.nd rfl (.inl rfl)) (pgs_cons (pg_name (i := 5) scIw.nd rfl (.inl rfl)) pgs_nil))))
      (pss_cons (ps_if (PW.pt (pw_or (pt_cmpR (op_eqD hr.units) (pv 5) (pe_lst pa_nil) (nomark _))
          (pw_or1 (pt_not (pt_val (pe_callB (r := rAll K) (cr_all (by rfl)) (by rfl) B.all boot_all (pa_cons (pe_lc (own := [("_law_step_here", 9)]) (g := gName 9) (tt := tYes) (by rfl) scIw.nd (pi_list (pe_op op_cat (pv 4) (pv 5))) (blkOk_by (N := nmIw) (sc := defScope sLIsWay) (by decide +kernel))
              (fun _ _ _ _ _ => pg_name (i := 9) scIw.nd rfl (Or.inl rfl)) (fun _ _ _ _ _ => pts_nil) (fun _ _ _ _ _ => pe_and (pe_cmpR (r := rInD K) (op_inD (Room.u65 hr)) (pv 9) (pv 0) (by rfl)) (pe_one (pe_callB (r := rIs1 K) call_is1 (by rfl) B.isinstance boot_isinstance (pa_cons (pv 9) (pa_cons (pe_bltn (v := .ty "tuple") (by rfl) B.tuple boot_tuple rfl) pa_nil)))))) pa_nil))))))) (pss_one (ps_ret pe_bl)) pss_nil)
      (pss_cons (ps_setLc (i := 6) (own := [("_law_step_here", 9)]) (g := gName 9) (tt := tYes) (by rfl) scIw.nd rfl rfl (sw_true rfl rfl rfl (by decide +kernel)) (pi_list (pe_op op_cat (pv 4) (pv 5))) (blkOk_by (N := nmIw) (sc := defScope sLIsWay) (by decide +kernel))
          (fun _ _ _ _ _ => pg_name (i := 9) scIw.nd rfl (Or.inl rfl)) (fun _ _ _ _ _ => pts_nil) (fun _ _ _ _ _ => pe_ix (r := rIxT K) ix_tup (pv 9) pe_int (fun _ _ => rfl)))
      (pss_cons (ps_set (i := 7) scIw.nd rfl (Or.inl rfl) (pe_op op_cat (pe_lst (pa_cons (pv 1) pa_nil)) (pe_lc (own := [("_law_step_here", 9)]) (g := gName 9) (tt := tYes) (by rfl) scIw.nd (pi_list (pe_op op_cat (pv 4) (pv 5))) (blkOk_by (N := nmIw) (sc := defScope sLIsWay) (by decide +kernel))
          (fun _ _ _ _ _ => pg_name (i := 9) scIw.nd rfl (Or.inl rfl)) (fun _ _ _ _ _ => pts_nil) (fun _ _ _ _ _ => pe_ix (r := rIxT K) ix_tup (pv 9) pe_int (fun _ _ => rfl)))))
      (pss_cons (ps_if (PW.pt (pw_or (pt_cmpR (op_neD hr.units) (pv 6) (pe_slice (r := rSlL K) sl_list (pv 7) po_none (po_some (pe_un un_neg pe_int))) (nomark _))
          (pw_or (pt_cmpR op_ne (pe_ix (r := rIxL K) ix_list (pv 7) (pe_un un_neg pe_int) (fun _ _ => rfl)) (pe_ix (r := rIxT K) ix_tup (pe_ix (r := rIxL K) ix_list (pv 5) pe_int (fun _ _ => rfl)) pe_int (fun _ _ => rfl)) (nomark _))
          (pw_or1 (pt_cmpR op_ne (pe_lenSetA (by rfl) B.len (by rfl) hset (pe_lc (own := [("_law_step_here", 9)]) (g := gName 9) (tt := tYes) (by rfl) scIw.nd (pi_list (pv 5)) (blkOk_by (N := nmIw) (sc := defScope sLIsWay) (by decide +kernel))
              (fun _ _ _ _ _ => pg_name (i := 9) scIw.nd rfl (Or.inl rfl)) (fun _ _ _ _ _ => pts_nil) (fun _ _ _ _ _ => pe_ix (r := rIxT K) ix_tup (pv 9) pe_int (fun _ _ => rfl)))) (pe_callB call_len_seq (by rfl) B.len PySem.boot_len (pa_cons (pv 5) pa_nil)) (nomark _)))))) (pss_one (ps_ret pe_bl)) pss_nil)
      (pss_one (ps_ret (pe_and (pe_cmpR op_ge (pe_ix (r := rIxT K) ix_tup (C8.pe_c cN hr (by decide) (by rfl) (pa_cons (pv 5) pa_nil)) pe_int (fun _ _ => rfl)) pe_int (nomark _)) (pe_one (C8.pe_c cG hr (by decide) (by rfl) (pa_cons (pe_op op_cat (pe_op op_cat (pv 4) (pv 5)) (pv 5)) (pa_cons (pv 2) pa_nil)))))))))))), ?_⟩
    have kTT : PySem.W.kitOne K (.type "tuple") (.type "tuple") = some true := kit_ty (show kitB "tuple" "tuple" = some true by decide +kernel)
    have kLL : PySem.W.kitOne K (.type "list") (.type "list") = some true := kit_ty (show kitB "list" "list" = some true by decide +kernel)
    refine ⟨_, rfl, .ref T, _, _, .type "tuple", _, rfl, .ty _, .inl (ty_t (SqT.of hT.ht)), kTT, _, rfl, iteF ?_⟩
    refine ⟨_, rfl, T, _, rfl, .inr (SqT.of hT.ht), rfl, _, rfl, iteF ?_⟩
    refine ⟨_, rfl, T, rfl, ⟨_, SqT.of hT.ht⟩, fun D hD0 => ?_⟩
    refine lc_tup (xs := [V.ref a, V.ref b]) (fun i G => Ex H G ∧ G D = some (.lst ((List.replicate i true).map V.bl))) ⟨Ex.new hD0, upd_same⟩ (fun i G _ q => SqT.of (q.1 _ _ hT.ht)) ?_ ?_
    · rintro i x G hx ⟨q1, q2⟩
      have il : i < 2 := (List.getElem?_eq_some_iff.mp hx).1
      obtain ⟨p, zs, rfl, hp⟩ : ∃ p zs, x = V.ref p ∧ G p = some (.lst zs) := by
        match i, hx with
        | 0, hx => exact ⟨a, xs, (Option.some.inj hx).symm, q1 _ _ hT.ha⟩
        | 1, hx => exact ⟨b, ys, (Option.some.inj hx).symm, q1 _ _ hT.hb⟩
      refine ⟨rfl, _, rfl, .ref p, _, _, .type "list", _, rfl, .ty _, .inl (ty_l (SqL.of hp)), kLL, _, q2, by rw [List.length_map, List.length_replicate]; exact sz_m (by omega), q1.mut hD0, ?_⟩
      rw [upd_same, List.replicate_succ', List.map_append]
      rfl
    rintro G1 ⟨e1, hD1⟩
    refine ⟨D, _, rfl, SqL.of hD1, _, rfl, iteF ?_⟩
    have hT1 := hT.ex e1
    refine ⟨_, rfl, T, _, rfl, .inl (.inl hT1.ht), rfl, _, _, rfl, _, _, rfl, rfl, ?_⟩
    obtain ⟨p0, wW, wR⟩ := hW.wk
    have hsh := hW.sh
    have hxl := sts_len hT.dx
    have hyl := sts_len hT.dy
    rw [List.length_append] at hsh
    have hgl := ex_l e1 hg
    have hD1s := dpa_ex e1 _ _ hD
    -- no ring
    refine ⟨_, rfl, Nat.zero_le _, fun l hl => ?_⟩
    have y2 := Ex.new (o := .lst []) hl
    have j2 : upd G1 l (.lst []) l = some (.lst []) := upd_same
    generalize upd G1 l (.lst []) = G2 at y2 j2 ⊢
    have hT2 := hT1.ex y2
    have e2 := e1.trans y2
    refine ⟨.list (R.map stD), .list [], .lst (SqL.of hT2.hb) hT2.dy, .lst (SqL.of j2) .nil, stDs_shaped R, rfl, _, rfl, ?_⟩
    have hne : PyData.eqv (.list (R.map stD)) (.list []) = false := by
      cases hR : R with
      | nil => exact absurd hR hW.ne
      | cons => rfl
    rw [hne]
    refine iteF ?_
    -- all are steps
    have cat : ∀ {G : Hp}, ToldW K G T a b xs ys W R → ∀ c, DpAll K (upd G c (.lst (xs ++ ys))) (xs ++ ys) ((W ++ R).map stD) ∨ True := fun _ _ => .inr trivial
    refine ⟨_, rfl, _, rfl, a, b, xs, ys, rfl, rfl, hT2.ha, hT2.hb, sz_le (by omega), fun c hc => ?_⟩
    have y3 := Ex.new (o := .lst (xs ++ ys)) hc
    have j3 : upd G2 c (.lst (xs ++ ys)) c = some (.lst (xs ++ ys)) := upd_same
    generalize upd G2 c (.lst (xs ++ ys)) = G3 at y3 j3 ⊢
    have e3 := e2.trans y3
    have hT3 := hT2.ex y3
    have hz3 : DpAll K G3 (xs ++ ys) ((W ++ R).map stD) := by rw [List.map_append]; exact dpa_app hT3.dx hT3.dy
    have hzl : (xs ++ ys).length = (W ++ R).length := sts_len hz3
    have hzl2 : (W ++ R).length ≤ 63 := hW.sh
    refine ⟨c, rfl, ⟨_, SqL.of j3⟩, fun D2 hD20 => ?_⟩
    refine lc_list (xs := xs ++ ys) (fun i G => Ex G3 G ∧ G D2 = some (.lst ((List.replicate i true).map V.bl))) ⟨Ex.new hD20, upd_same⟩ (fun i G _ q => SqL.of (q.1 _ _ j3)) ?_ ?_
    · rintro i x G hx ⟨q1, q2⟩
      have il := (List.getElem?_eq_some_iff.mp hx).1
      obtain ⟨s, t, hs, rfl, ht⟩ := sts_get hz3 hx
      obtain ⟨_, u, ez, p1, _⟩ := stD_inv (dp_ex q1 _ _ ht)
      cases ez
      refine ⟨rfl, _, rfl, _, rfl, stD s, ss.map stD, dp_ex q1 _ _ ht, .lst (ex_l (e3.trans q1) hg) (dpa_ex (e3.trans q1) _ _ hD), stD_shaped s, stDs_shaped ss, _, rfl, ?_⟩
      rw [any_eqv, decide_eq_true (hW.sub s (mem_of_get hs))]
      refine iteT ⟨_, rfl, .ref t, _, _, .type "tuple", _, rfl, .ty _, .inl (ty_t p1), kTT, _, q2, by rw [List.length_map, List.length_replicate]; exact sz_m (by omega), q1.mut hD20, ?_⟩
      rw [upd_same, List.replicate_succ', List.map_append]
      rfl
    rintro G4 ⟨y4, hD24⟩
    refine ⟨D2, _, rfl, SqL.of hD24, _, rfl, ?_⟩
    rw [show (List.replicate (xs ++ ys).length true).all id = true by rw [List.all_eq_true]; exact fun b hb => (List.mem_replicate.mp hb).2]
    refine iteF ?_
    have e4 := e3.trans y4
    have hT4 := hT3.ex y4
    have wWR : Wlk5 v (W ++ R) p0 := (wlk5_app _ _ _ _).mpr ⟨p0, wW, wR⟩
    have hz : DpAll K H (xs ++ ys) ((W ++ R).map stD) := by rw [List.map_append]; exact dpa_app hT.dx hT.dy
    have tkm : ∀ (f : St5 → Int) (L : List St5) (i : Nat) (s : St5), L[i]? = some s → ((L.take i).map f).map V.int ++ [V.int (f s)] = ((L.take (i + 1)).map f).map V.int := fun f L i s hs => by
      rw [List.take_add_one, hs, List.map_append, List.map_append]
      rfl
    have szm : ∀ (f : St5 → Int) (L : List St5) (i : Nat), i < 1000 → (((L.take i).map f).map V.int).length < sizeLine := fun f L i hi => by
      rw [List.length_map, List.length_map, List.length_take]
      exact sz_m (by omega)
    -- where the steps begin
    refine ⟨_, rfl, _, rfl, a, b, xs, ys, rfl, rfl, hT4.ha, hT4.hb, sz_le (by omega), fun c2 hc2 => ?_⟩
    have y5 := Ex.new (o := .lst (xs ++ ys)) hc2
    have j5 : upd G4 c2 (.lst (xs ++ ys)) c2 = some (.lst (xs ++ ys)) := upd_same
    generalize upd G4 c2 (.lst (xs ++ ys)) = G5 at y5 j5 ⊢
    have e5 := e4.trans y5
    refine ⟨c2, rfl, ⟨_, SqL.of j5⟩, fun D3 hD30 => ?_⟩
    refine lc_list (xs := xs ++ ys) (fun i G => Ex G5 G ∧ G D3 = some (.lst ((((W ++ R).take i).map (·.one)).map V.int))) ⟨Ex.new hD30, upd_same⟩ (fun i G _ q => SqL.of (q.1 _ _ j5)) ?_ ?_
    · rintro i x G hx ⟨q1, q2⟩
      have il := (List.getElem?_eq_some_iff.mp hx).1
      obtain ⟨s, t, hs, rfl, ht⟩ := sts_get hz hx
      obtain ⟨_, u, ez, p1, _⟩ := stD_inv (dp_ex (e5.trans q1) _ _ ht)
      cases ez
      refine ⟨rfl, _, rfl, t, _, 0, .int s.one, rfl, rfl, p1, rfl, _, q2, szm _ _ i (by omega), q1.mut hD30, ?_⟩
      rw [upd_same, tkm (·.one) _ i s hs]
    rintro G6 ⟨y6, hD36⟩
    rw [hzl, List.take_length] at hD36
    have e6 := e5.trans y6
    -- where they end
    refine ⟨_, rfl, by show 1 ≤ sizeLine; decide, fun l1 hl1 => ?_⟩
    have y7 := Ex.new (o := .lst [V.int v]) hl1
    have j7 : upd G6 l1 (.lst [V.int v]) l1 = some (.lst [V.int v]) := upd_same
    generalize upd G6 l1 (.lst [V.int v]) = G7 at y7 j7 ⊢
    have e7 := e6.trans y7
    have hT7 := hT.ex e7
    refine ⟨_, rfl, _, rfl, a, b, xs, ys, rfl, rfl, hT7.ha, hT7.hb, sz_le (by omega), fun c3 hc3 => ?_⟩
    have y8 := Ex.new (o := .lst (xs ++ ys)) hc3
    have j8 : upd G7 c3 (.lst (xs ++ ys)) c3 = some (.lst (xs ++ ys)) := upd_same
    generalize upd G7 c3 (.lst (xs ++ ys)) = G8 at y8 j8 ⊢
    have e8 := e7.trans y8
    refine ⟨c3, rfl, ⟨_, SqL.of j8⟩, fun D4 hD40 => ?_⟩
    refine lc_list (xs := xs ++ ys) (fun i G => Ex G8 G ∧ G D4 = some (.lst ((((W ++ R).take i).map (·.other)).map V.int))) ⟨Ex.new hD40, upd_same⟩ (fun i G _ q => SqL.of (q.1 _ _ j8)) ?_ ?_
    · rintro i x G hx ⟨q1, q2⟩
      have il := (List.getElem?_eq_some_iff.mp hx).1
      obtain ⟨s, t, hs, rfl, ht⟩ := sts_get hz hx
      obtain ⟨_, u, ez, p1, _⟩ := stD_inv (dp_ex (e8.trans q1) _ _ ht)
      cases ez
      refine ⟨rfl, _, rfl, t, _, 1, .int s.other, rfl, rfl, p1, rfl, _, q2, szm _ _ i (by omega), q1.mut hD40, ?_⟩
      rw [upd_same, tkm (·.other) _ i s hs]
    rintro G9 ⟨y9, hD49⟩
    rw [hzl, List.take_length] at hD49
    refine ⟨l1, D4, _, _, rfl, rfl, (y8.trans y9) _ _ j7, hD49, sz_le (by rw [List.length_map, List.length_map]; show 1 + _ ≤ _; omega), fun M hM => ?_⟩
    have em : [V.int v] ++ ((W ++ R).map (·.other)).map V.int = (((W ++ R).map (·.one)) ++ [p0]).map V.int := by
      rw [wlk_ones wWR]
      rfl
    rw [em]
    have y10 := Ex.new (o := .lst ((((W ++ R).map (·.one)) ++ [p0]).map V.int)) hM
    have j10 : upd G9 M (.lst ((((W ++ R).map (·.one)) ++ [p0]).map V.int)) M = some (.lst ((((W ++ R).map (·.one)) ++ [p0]).map V.int)) := upd_same
    generalize upd G9 M (.lst ((((W ++ R).map (·.one)) ++ [p0]).map V.int)) = G10 at y10 j10 ⊢
    have e610 := ((y7.trans y8).trans y9).trans y10
    have e10 := e6.trans e610
    have hB10 := e610 _ _ hD36
    refine ⟨_, rfl, _, rfl, _, rfl, _, rfl, M, _, rfl, SqL.of j10, fun S hS => ?_⟩
    rw [cut_init, show ((((W ++ R).map (·.one)) ++ [p0]).map V.int).take (((((W ++ R).map (·.one)) ++ [p0]).map V.int).length - 1) = ((W ++ R).map (·.one)).map V.int by
      rw [List.map_append, List.length_append]
      exact List.take_left' rfl]
    have y11 := Ex.new (o := .lst (((W ++ R).map (·.one)).map V.int)) hS
    have j11 : upd G10 S (.lst (((W ++ R).map (·.one)).map V.int)) S = some (.lst (((W ++ R).map (·.one)).map V.int)) := upd_same
    generalize upd G10 S (.lst (((W ++ R).map (·.one)).map V.int)) = G11 at y11 j11 ⊢
    have e11 := e10.trans y11
    have hT11 := hT.ex e11
    refine ⟨.list (((W ++ R).map (·.one)).map PyData.int), .list (((W ++ R).map (·.one)).map PyData.int), .lst (SqL.of (y11 _ _ hB10)) (dp_ints _), .lst (SqL.of j11) (dp_ints _), shaped_ints _, shaped_ints _, _, rfl, ?_⟩
    rw [eqv_ints_self]
    refine iteF ?_
    -- it comes back
    obtain ⟨r0, R', hR⟩ : ∃ r0 R', R = r0 :: R' := by
      cases hR : R with
      | nil => exact absurd hR hW.ne
      | cons r0 R' => exact ⟨r0, R', rfl⟩
    have hr0 : r0.one = p0 := by
      rw [hR] at wR
      exact wR.1
    obtain ⟨tb, yt, hys, hdb⟩ : ∃ tb yt, ys = V.ref tb :: yt ∧ Dp K H (.ref tb) (stD r0) := by
      have hy := hT.dy
      rw [hR] at hy
      cases hy with
      | cons h1 h2 =>
        obtain ⟨t, u, rfl, _⟩ := stD_inv h1
        exact ⟨t, _, rfl, h1⟩
    obtain ⟨_, u0, ez0, pb, _⟩ := stD_inv (dp_ex e11 _ _ hdb)
    cases ez0
    have hlast : atI ((((W ++ R).map (·.one)) ++ [p0]).map V.int) (-1) = some (.int p0) := by
      rw [List.map_append]
      exact atI_last
    refine ⟨_, rfl, _, rfl, M, _, (-1 : Int), _, rfl, rfl, SqL.of (y11 _ _ j10), hlast, _, rfl, b, _, 0, .ref tb, rfl, rfl, SqL.of hT11.hb, by rw [hys]; exact atI_nat (j := 0) rfl, tb, _, 0, .int r0.one, rfl, rfl, pb, rfl, rfl, _, rfl, ?_⟩
    rw [hr0]
    rw [decide_eq_true (rfl : V.int p0 = V.int p0)]
    refine iteF ?_
    -- into no place twice
    refine ⟨_, rfl, b, rfl, ⟨_, SqL.of hT11.hb⟩, fun D5 hD50 => ?_⟩
    refine lc_list (xs := ys) (fun i G => Ex G11 G ∧ G D5 = some (.lst (((R.take i).map (·.one)).map V.int))) ⟨Ex.new hD50, upd_same⟩ (fun i G _ q => SqL.of (q.1 _ _ hT11.hb)) ?_ ?_
    · rintro i x G hx ⟨q1, q2⟩
      have il := (List.getElem?_eq_some_iff.mp hx).1
      obtain ⟨s, t, hs, rfl, ht⟩ := sts_get hT.dy hx
      obtain ⟨_, u, ez, p1, _⟩ := stD_inv (dp_ex (e11.trans q1) _ _ ht)
      cases ez
      refine ⟨rfl, _, rfl, t, _, 0, .int s.one, rfl, rfl, p1, rfl, _, q2, szm _ _ i (by omega), q1.mut hD50, ?_⟩
      rw [upd_same, tkm (·.one) _ i s hs]
    rintro G12 ⟨y12, hD512⟩
    rw [hyl, List.take_length] at hD512
    have e12 := e11.trans y12
    have hT12 := hT.ex e12
    refine ⟨D5, R.map (·.one), rfl, SqL.of hD512, by rw [List.length_map]; omega, fun m hm => ?_⟩
    have hm' := hm.mpr hW.nd
    rw [List.length_map, ← hyl] at hm'
    subst hm'
    refine ⟨_, rfl, b, _, rfl, .inl (SqL.of hT12.hb), rfl, _, rfl, ?_⟩
    rw [decide_eq_true (rfl : V.int (ys.length : Nat) = V.int (ys.length : Nat))]
    refine iteF ?_
    -- it loses nothing
    refine ⟨_, rfl, b, ys, R, rfl, SqL.of hT12.hb, hT12.dy, fun G13 T2 y13 T20 hT2 => ?_⟩
    have e13 := e12.trans y13
    have hT13 := hT.ex e13
    refine ⟨T2, _, 1, .int (chg R), rfl, rfl, .inl (.inl hT2), rfl, _, _, rfl, rfl, _, rfl, ?_⟩
    rw [decide_eq_true hW.g]
    refine iteT ?_
    refine ⟨_, rfl, _, rfl, a, b, xs, ys, rfl, rfl, hT13.ha, hT13.hb, sz_le (by omega), fun c5 hc5 => ?_⟩
    have y14 := Ex.new (o := .lst (xs ++ ys)) hc5
    have j14 : upd G13 c5 (.lst (xs ++ ys)) c5 = some (.lst (xs ++ ys)) := upd_same
    generalize upd G13 c5 (.lst (xs ++ ys)) = G14 at y14 j14 ⊢
    have hT14 := hT13.ex y14
    refine ⟨_, rfl, c5, b, xs ++ ys, ys, rfl, rfl, j14, hT14.hb, sz_le (by omega), fun c6 hc6 => ?_⟩
    have y15 := Ex.new (o := .lst (xs ++ ys ++ ys)) hc6
    have j15 : upd G14 c6 (.lst (xs ++ ys ++ ys)) c6 = some (.lst (xs ++ ys ++ ys)) := upd_same
    generalize upd G14 c6 (.lst (xs ++ ys ++ ys)) = G15 at y15 j15 ⊢
    have e15 := e13.trans (y14.trans y15)
    refine ⟨_, rfl, c6, _, W ++ R ++ R, N, rfl, SqL.of j15, ?_, ?_⟩
    · rw [List.map_append]
      exact dpa_app (dpa_ex e15 _ _ hz) (dpa_ex e15 _ _ hT.dy)
    · rw [hW.go]
      exact k _ e15
end
end AA

set_option Elab.async false
set_option linter.all false
set_option maxRecDepth 100000
set_option maxHeartbeats 4000000
/-! _law_stock_right. -/
namespace AA
open PySem PySem.Spec PyProof.Rows L2 Evl
theorem Way.same {ss ts : List St5} {v N : Int} {W R : List St5} (e : ∀ s, s ∈ ss ↔ s ∈ ts) (h : Way ss v N W R) : Way ts v N W R := ⟨fun s hs => (e s).mp (h.sub s hs), h.ne, h.wk, h.nd, h.g, h.go, h.sh⟩
section
variable {P : Program} {w : World} {K : PySem.W.Frag} {mg : Str → Option Value} {base : Heap}
def spWon0 (K : PySem.W.Frag) (C CB CK : Addr) : Sp := fun vs H Q _ => spWon K C CB CK vs H Q E0
def spLsr (K : PySem.W.Frag) (C : Addr) : Sp := fun vs H Q _ => ∃ (x y g k1 k2 : Addr) (i N n : Int) (r : Option Int) (us : List V) (ss ts : List St5) (U : List Int), vs = [.ref x, .ref y, .ref g, .int i, .int N, oI r] ∧
  WebK K C H x k1 n ts ∧ WebK K C H y k2 n ts ∧ k1 ≠ k2 ∧ KnX (fun z => z = k2) ts H k1 ∧ KnX (fun z => z = k1) ts H k2 ∧ StB U ts ∧ (∀ s ∈ ts, s.change ≤ 9) ∧ (∀ s ∈ ts, StOk n s ∧ StSm s) ∧ n ≤ 63 ∧
  SqL K (hid k1 k2 H) g us ∧ DpAll K (hid k1 k2 H) us (ss.map stD) ∧ ss.length ≤ 1000 ∧ (∀ s, s ∈ ts ↔ s ∈ ss) ∧ 0 ≤ i ∧ i < n ∧ i ∈ U ∧ 0 ≤ N ∧ LsO ss i r ∧
  ∀ H', Two ts (hid k1 k2 H) k1 k2 H' → Q (.bl true) H'
abbrev nmSr : List Str := ["_law_web_here", "_law_twin", "_law_steps", "_law_place", "_law_stock", "_law_least_here", "_law_told", "_law_kept"]
theorem scSr : FnScope nmSr ["_law_web_here", "_law_twin", "_law_steps", "_law_place", "_law_stock", "_law_least_here"] (defScope sLStockRight) := ⟨rfl, rfl, rfl, by decide +kernel, rfl, by decide +kernel, by decide +kernel⟩
theorem ok_lsr {f fW C CB CK : Addr} {fd fdW : FuncData} (F : L2.Fun K "_law_stock_right" "_law_stock_right" sLStockRight f fd) (B : Bn mg)
    (GW : FnOk P w K mg base CX0 7 fW fdW ["web", "place", "stock"] (spWon0 K C CB CK)) (mW : mg "way_on" = some (.ref fW)) (kW : PySem.W.keepIn K (.ref fW) = true) (kbW : KBinds K fdW ["web", "place", "stock"] ["stock", "place", "web"] revK revK)
    (cW : C8.Cal P w K mg base 7 "way_on" (spWon0 K C CB CK) []) (cI : C8.Cal P w K mg base 2 "_law_is_way" (spLiw K) []) :
    GOk P w K mg base 8 f fd ["_law_web_here", "_law_twin", "_law_steps", "_law_place", "_law_stock", "_law_least_here"] (spLsr K C) := by
  refine gok_of F scSr (fun vs H Q E h => ?_) (fun cdv A outer s H vs Q hgd hr h => ?_)
  · obtain ⟨x, y, g, k1, k2, i, N, n, r, us, ss, ts, U, rfl, _⟩ := h
    rfl
  · obtain ⟨x, y, g, k1, k2, i, N, n, r, us, ss, ts, U, rfl, hw1, hw2, nk, kn1, kn2, hB, hc9, hsm, hn63, hg, hD, hsz, htm, i0, i1, hiU, N0, hr0, k⟩ := h
    have hr7 : Room 7 (A.deeper (envOfC "_law_stock_right" (defScope sLStockRight) s.heap.objs.size f cdv)) := hr
    refine ⟨_, pss_cons (ps_set (i := 6) scSr.nd rfl (Or.inl rfl) (C8.pe_c cW hr (by decide) (by rfl) (pa_cons (pv 0) (pa_cons (pv 3) (pa_cons (pv 4) pa_nil)))))
      (pss_cons (ps_if (pt_cmpR op_ne (pe_cmp (pc_isN (pv 6))) (pe_or (pe_cmp (pc_isN (pv 5))) (pe_one (pe_cmpR op_lt (pv 4) (pv 5) (nomark _)))) (by rfl)) (pss_one (ps_ret pe_bl)) pss_nil)
      (pss_cons (ps_if (pt_cmp (pc_isN (pv 6))) (pss_one (ps_ret (pe_cmp (pc_isN (C8.pe_c cW hr (by decide) (by rfl) (pa_cons (pv 1) (pa_cons (pv 3) (pa_cons (pv 4) pa_nil)))))))) pss_nil)
      (pss_cons (ps_if (pt_not (pt_val (C8.pe_c cI hr (by decide) (by rfl) (pa_cons (pv 2) (pa_cons (pv 3) (pa_cons (pv 4) (pa_cons (pv 6) pa_nil))))))) (pss_one (ps_ret pe_bl)) pss_nil)
      (pss_cons (ps_set (i := 7) scSr.nd rfl (Or.inl rfl) (pe_callB (call_rep hgd hr) (by rfl) B.repr boot_repr (pa_cons (pv 6) pa_nil)))
      (pss_cons (ps_expr (pe_bm PySem.F.plainAttrs_list PySem.F.slot_list_append PySem.F.type_list_append mt_append (pe_ix (r := rIxT K) ix_tup (pv 6) pe_int (fun _ _ => rfl)) (pa_cons pe_str pa_nil)))
      (pss_cons (ps_expr (pe_bm0 PySem.F.plainAttrs_list PySem.F.slot_list_clear PySem.F.type_list_clear mt_clear (pe_ix (r := rIxT K) ix_tup (pv 6) pe_int (fun _ _ => rfl))))
      (pss_one (ps_ret (pe_and (pe_cmpR op_eq (pe_callB (call_rep hgd hr) (by rfl) B.repr boot_repr (pa_cons (pe_callK0 GW hr7 (by rfl) mW kW kbW pass0 (pk_cons (pv 4) (pk_cons (pv 3) (pk_cons (pv 0) pk_nil)))) pa_nil)) (pv 7) (nomark _))
        (pe_one (pe_cmpR op_eq (pe_callB (call_rep hgd hr) (by rfl) B.repr boot_repr (pa_cons (C8.pe_c cW hr (by decide) (by rfl) (pa_cons (pv 1) (pa_cons (pv 3) (pa_cons (pv 4) pa_nil)))) pa_nil)) (pv 7) (nomark _)))))))))))), ?_⟩
    obtain ⟨l1, d1⟩ := kn1.dk
    obtain ⟨l2, d2⟩ := kn2.dk
    obtain ⟨Z, hZ⟩ : ∃ Z, Z = hid k1 k2 H := ⟨_, rfl⟩
    rw [← hZ] at hg hD k
    have Z1 : Z k1 = none := by rw [hZ]; unfold hid; rw [if_pos (.inl rfl)]
    have Z2 : Z k2 = none := by rw [hZ]; unfold hid; rw [if_pos (.inr rfl)]
    have wx : WebK K C Z x k1 n ts := by rw [hZ]; exact hw1.dk d1 d2
    have wy : WebK K C Z y k2 n ts := by rw [hZ]; exact hw2.dk d1 d2
    have t0 : Two ts Z k1 k2 H := ⟨by rw [hZ]; exact hid_ex, kn1, kn2⟩
    have hrt : LsO ts i r := hr0.same htm
    -- the two calls
    have ask1 : ∀ {G : Hp} {Q : VK}, Two ts Z k1 k2 G → WonOk K (fun z => z = k2) ts i N G k1 Q → spWon0 K C CB CK [.ref x, .int i, .int N] G Q E0 := fun {G Q} t h => by
      obtain ⟨l2', d2'⟩ := t.o.dk
      exact ⟨x, _, _, rfl, .inr (.inr ⟨k1, n, ts, U, _, i, N, wx.ex t.e, hB, hc9, t.m, fun z hz => ⟨.dK l2', by rw [show z = k2 from hz]; exact d2'⟩, nk, rfl, i0, i1, hiU, rfl, N0, h⟩)⟩
    have ask2 : ∀ {G : Hp} {Q : VK}, Two ts Z k1 k2 G → WonOk K (fun z => z = k1) ts i N G k2 Q → spWon0 K C CB CK [.ref y, .int i, .int N] G Q E0 := fun {G Q} t h => by
      obtain ⟨l1', d1'⟩ := t.m.dk
      exact ⟨y, _, _, rfl, .inr (.inr ⟨k2, n, ts, U, _, i, N, wy.ex t.e, hB, hc9, t.o, fun z hz => ⟨.dK l1', by rw [show z = k1 from hz]; exact d1'⟩, nk.symm, rfl, i0, i1, hiU, rfl, N0, h⟩)⟩
    refine ⟨_, rfl, _, rfl, _, rfl, ask1 t0 fun H1 nd e1 kn1' nok => ?_⟩
    have hgr : gt nd i = r := hrt.eq nok hiU hB.2.1 hc9
    have t1 := t0.call nk Z1 e1 kn1'
    refine ⟨fun hno => ?_, fun x0 T a b xs ys W R hx0 hxN T0 a0 b0 nab hT ha hb hxs hys hway hW => ?_⟩
    · have two : ∀ H1, Two ts Z k1 k2 H1 → spWon0 K C CB CK [.ref y, .int i, .int N] H1 (fun v G => Q (.bl (decide (v = .non))) G) E0 := fun H1 t1 => ask2 t1 fun H2 nd2 e2 kn2' nok2 => by
        have hgr2 : gt nd2 i = r := hrt.eq nok2 hiU hB.2.1 hc9
        refine ⟨fun _ => ?_, fun x0 T a b xs ys W R hx0 hxN T0 a0 b0 nab hT ha hb hxs hys hway hW => ?_⟩
        · rw [decide_eq_true rfl]
          exact k H2 (t1.flip.call nk.symm Z2 e2 kn2').flip
        · rw [hgr2, ← hgr] at hx0
          have := hno x0 hx0
          omega
      cases hr : r with
      | none =>
        refine ⟨_, rfl, _, rfl, _, rfl, iteT ⟨rfl, _, rfl, iteF ?_⟩⟩
        exact ⟨_, rfl, _, rfl, iteT ⟨_, rfl, _, rfl, _, rfl, two H1 t1⟩⟩
      | some x0 =>
        have hlt := hno x0 (hgr.trans hr)
        refine ⟨_, rfl, _, rfl, _, rfl, iteF ⟨_, rfl, _, rfl, _, _, rfl, rfl, ?_⟩⟩
        show rNe (.bl (decide (V.non = V.non))) (.bl (decide (N < x0))) _ _
        rw [decide_eq_true hlt]
        refine ⟨rfl, _, rfl, iteF ?_⟩
        exact ⟨_, rfl, _, rfl, iteT ⟨_, rfl, _, rfl, _, rfl, two H1 t1⟩⟩
    · rw [hgr] at hx0
      subst hx0
      refine ⟨_, rfl, _, rfl, _, rfl, iteF ⟨_, rfl, _, rfl, _, _, rfl, rfl, ?_⟩⟩
      show rNe (.bl (decide (V.ref T = V.non))) (.bl (decide (N < x0))) _ _
      rw [decide_eq_false (by omega : ¬ N < x0)]
      refine ⟨rfl, _, rfl, iteF ?_⟩
      refine ⟨_, rfl, _, rfl, iteF ?_⟩
      have Za : Z a = none := by rw [hZ]; exact hid_none a0
      have Zb : Z b = none := by rw [hZ]; exact hid_none b0
      have ZT : Z T = none := by rw [hZ]; exact hid_none T0
      have hTW : ToldW K H1 T a b xs ys W R := ⟨hT, ha, hb, hxs, hys⟩
      refine ⟨_, rfl, _, rfl, _, rfl, _, rfl, g, us, ss, i, N, T, a, b, xs, ys, W, R, rfl, ex_l t1.e hg, dpa_ex t1.e _ _ hD, hsz, hTW, hW.same htm, fun H2 e2 => ⟨_, rfl, iteF ?_⟩⟩
      have hT2 := hTW.ex e2
      have hsh := hW.sh
      rw [List.length_append] at hsh
      have hxl := sts_len hxs
      have hyl := sts_len hys
      have t2 := t1.ex nk e2
      obtain ⟨s1, s2, s3, s4⟩ := way_shown (n := n) (by omega) (fun s hs => hsm s (hW.sub s hs)) hW.sh
      have dpw : ∀ {G : Hp} {T a b : Addr} {xs ys : List V}, ToldW K G T a b xs ys W R → Dp K G (.ref T) (.tuple [.list (W.map stD), .list (R.map stD)]) := fun h => .tup (SqT.of h.ht) (.cons (.lst (SqL.of h.ha) h.dx) (.cons (.lst (SqL.of h.hb) h.dy) .nil))
      refine ⟨_, rfl, T, _, rfl, dpw hT2, s1, s2, s3, s4, ?_⟩
      refine ⟨_, rfl, T, _, 0, .ref a, rfl, rfl, .inl (.inl hT2.ht), rfl, .inl ⟨rfl, _, SqL.of hT2.ha⟩, a, xs, _, rfl, rfl, hT2.ha, sz_m (by omega), ?_⟩
      have Ta : T ≠ a := fun z => by
        have := hT
        rw [z, ha] at this
        cases this
      have t3 := t2.lst (o := .lst (xs ++ [.str "late"])) hT2.ha Za
      have hT3 : upd H2 a (.lst (xs ++ [.str "late"])) T = some (.tup [.ref a, .ref b]) := by rw [upd_ne Ta]; exact hT2.ht
      have hb3 : upd H2 a (.lst (xs ++ [.str "late"])) b = some (.lst ys) := by rw [upd_ne nab.symm]; exact hT2.hb
      generalize upd H2 a (.lst (xs ++ [.str "late"])) = H3 at t3 hT3 hb3 ⊢
      refine ⟨_, rfl, T, _, 1, .ref b, rfl, rfl, .inl (.inl hT3), rfl, .inl ⟨rfl, _, SqL.of hb3⟩, b, ys, rfl, rfl, hb3, ?_⟩
      have t4 := t3.lst (o := .lst []) hb3 Zb
      generalize upd H3 b (.lst []) = H4 at t4 ⊢
      have uq : ∀ {nd' : List (Int × Int)} {W' R' : List St5}, NOk ts nd' → wayOf (nxt ts (gt nd')) i = (W', R') → W' = W ∧ R' = R := fun {nd' W' R'} nok' h => by
        rw [nok'.uniq nok hB.2.1 hc9, hway] at h
        cases h
        exact ⟨rfl, rfl⟩
      have is : ∀ {nd' : List (Int × Int)}, NOk ts nd' → gt nd' i = some x0 := fun nok' => hrt.eq nok' hiU hB.2.1 hc9
      refine ⟨_, rfl, _, rfl, _, rfl, ask1 t4 fun H5 nd5 e5 kn5 nok5 => ⟨fun hno => ?_, fun x5 T5 a5 b5 xs5 ys5 W5 R5 hx5 hxN5 T50 a50 b50 nab5 hT5 ha5 hb5 hxs5 hys5 hway5 hW5 => ?_⟩⟩
      · have := hno x0 (is nok5)
        omega
      obtain ⟨rfl, rfl⟩ := uq nok5 hway5
      have t5 := t4.call nk Z1 e5 kn5
      refine ⟨T5, _, rfl, dpw ⟨hT5, ha5, hb5, hxs5, hys5⟩, s1, s2, s3, s4, _, rfl, rfl, _, rfl, ?_⟩
      rw [decide_eq_true rfl]
      refine iteT ?_
      refine ⟨_, rfl, _, rfl, _, rfl, ask2 t5 fun H6 nd6 e6 kn6 nok6 => ⟨fun hno => ?_, fun x6 T6 a6 b6 xs6 ys6 W6 R6 hx6 hxN6 T60 a60 b60 nab6 hT6 ha6 hb6 hxs6 hys6 hway6 hW6 => ?_⟩⟩
      · have := hno x0 (is nok6)
        omega
      obtain ⟨rfl, rfl⟩ := uq nok6 hway6
      refine ⟨T6, _, rfl, dpw ⟨hT6, ha6, hb6, hxs6, hys6⟩, s1, s2, s3, s4, _, rfl, rfl, ?_⟩
      have kk := k H6 (t5.flip.call nk.symm Z2 e6 kn6).flip
      rw [decide_eq_true rfl]
      exact kk
end
end AA

set_option Elab.async false
set_option linter.all false
set_option maxRecDepth 100000
set_option maxHeartbeats 4000000
/-! What the law wants of heaps. -/
namespace AA
open PySem PySem.Spec PyProof.Rows L2 Evl
section
variable {P : Program} {w : World} {K : PySem.W.Frag} {mg : Str → Option Value} {base : Heap}
theorem gok_ofC {x : Str} {st : Stmt} {f c : Addr} {fd : FuncData} {N ps : List Str} {k : Nat} {sp : Sp} (F : FunC K x st f fd c) (S : FnScope N ps (defScope st)) (len : ∀ vs H Q E, sp vs H Q E → vs.length = ps.length)
    (body : ∀ (A : Around) (outer : List Env) (s : Shared) (H : Hp) (vs : List V) (Q : VK), A.guards = some [] → Room k (A.deeper (envOfC x (defScope st) s.heap.objs.size f (.ref c))) → sp vs H Q E0 →
      ∃ t, PSs (cxOf CX0 P w K mg base N x (defScope st) f (.ref c) A outer s H E0) (defBody st) t ∧ t { nx := fun _ H' => Q .non H', rt := Q } (L2.start N vs) H) : GOk P w K mg base (k + 1) f fd ps sp := by
  obtain ⟨oc, od, kV, doc, pm, an, ct, osl, rfl, lk, hcd⟩ := F.ex
  exact ⟨len, fun A outer s H args us vs Q hg hr e0 hb r hs => LamX.run_ofS lk hcd S hr e0 hb r (len _ _ _ _ hs) fun hr' => body A outer s H vs Q hg hr' hs⟩
end
theorem dk_S {a b z : Addr} {n : Nat} {H H' : Hp} {l : List (Key × V)} (S : SAt H a b n) (e : ExS a b H H') (h : H z = some (.dK l)) : H' z = some (.dK l) := by
  obtain ⟨ns, c1, c2, c3, h1, h2, _⟩ := S
  exact e.at h (fun q => by rw [q, h1] at h; cases h) (fun q => by rw [q, h2] at h; cases h)
theorem KnX.S {X : Addr → Prop} {ss : List St5} {H H' : Hp} {kd a b : Addr} {n : Nat} (h : KnX X ss H kd) (S : SAt H a b n) (e : ExS a b H H') : KnX X ss H' kd := by
  rcases h with h | ⟨F, N, nd, h1, h2, h3, h4, h5⟩
  · exact .inl (dk_S S e h)
  · exact .inr ⟨F, N, nd, h1, h2, dk_S S e h3, dk_S S e h4, h5⟩
theorem Two.S {ts : List St5} {Z G G' : Hp} {km ko a b : Addr} {n : Nat} (h : Two ts Z km ko G) (S : SAt G a b n) (Za : Z a = none) (Zb : Z b = none) (e : ExS a b G G') : Two ts Z km ko G' :=
  ⟨fun z o hz => e.at (h.e _ _ hz) (ne_of_none hz Za) (ne_of_none hz Zb), h.m.S S e, h.o.S S e⟩
theorem Two.comp {ts : List St5} {Z G G' : Hp} {km ko : Addr} (h : Two ts Z km ko G) (Z1 : Z km = none) (Z2 : Z ko = none) (k : Two ts (hid km ko G) km ko G') : Two ts Z km ko G' :=
  ⟨fun z o hz => k.e _ _ (by rw [hid_ne (ne_of_none hz Z1) (ne_of_none hz Z2)]; exact h.e _ _ hz), k.m, k.o⟩
theorem Two.in {ts : List St5} {Z G : Hp} {km ko : Addr} (h : Two ts Z km ko G) (Z1 : Z km = none) (Z2 : Z ko = none) : Ex Z (hid km ko G) := fun z o hz => by
  rw [hid_ne (ne_of_none hz Z1) (ne_of_none hz Z2)]
  exact h.e _ _ hz
theorem Two.base {ts : List St5} {Z G : Hp} {km ko : Addr} (h : Two ts Z km ko G) : Two ts (hid km ko G) km ko G := ⟨hid_ex, h.m, h.o⟩
theorem hid_l {km ko : Addr} {G : Hp} : hid km ko G km = none := by
  unfold hid
  rw [if_pos (.inl rfl)]
theorem hid_r {km ko : Addr} {G : Hp} : hid km ko G ko = none := by
  unfold hid
  rw [if_pos (.inr rfl)]
theorem SAt.dk {G : Hp} {a b km ko : Addr} {n : Nat} {l1 l2 : List (Key × V)} (S : SAt G a b n) (h1 : G km = some (.dK l1)) (h2 : G ko = some (.dK l2)) : SAt (hid km ko G) a b n := by
  obtain ⟨ns, c1, c2, c3, g1, g2, r⟩ := S
  exact ⟨ns, c1, c2, c3, hid_dk h1 h2 g1 (fun l z => nomatch z), hid_dk h1 h2 g2 (fun l z => nomatch z), r⟩
theorem Two.sat {ts : List St5} {G G' : Hp} {km ko a b : Addr} {n : Nat} (k : Two ts (hid km ko G) km ko G') (S : SAt G a b n) {l1 l2 : List (Key × V)} (h1 : G km = some (.dK l1)) (h2 : G ko = some (.dK l2)) : SAt G' a b n := (S.dk h1 h2).ex k.e
theorem Two.tabs {T : List (Addr × Str)} {ts : List St5} {G G' : Hp} {km ko : Addr} (k : Two ts (hid km ko G) km ko G') (t : LamX.Tabs T G) {l1 l2 : List (Key × V)} (h1 : G km = some (.dK l1)) (h2 : G ko = some (.dK l2)) : LamX.Tabs T G' := fun p hp => by
  obtain ⟨ps, g1, g2, g3⟩ := t p hp
  refine ⟨ps, k.e _ _ (hid_dk h1 h2 g1 fun l z => nomatch z), g2, fun pos cv hc => ?_⟩
  obtain ⟨c, e1, e2⟩ := g3 pos cv hc
  exact ⟨c, e1, k.e _ _ (hid_dk h1 h2 e2 fun l z => by
    unfold LamX.CodeO at z
    cases z)⟩
/-- a thing that is no place, no stock, and is itself -/
def OddS (K : PySem.W.Frag) (C : Addr) (n : Int) (F : Hp) (o : V) : Prop := NoPlc K F n o ∧ NoStk K F o ∧ Self5 K C F o
theorem odds_dp {K : PySem.W.Frag} {C : Addr} {n : Int} {F : Hp} {o : V} {d : PyData} (h : Dp K F o d) (hi : isIntD d = false) (ho : dOk d = true) (hd : d.depth < 5) : OddS K C n F o := ⟨.inl (ni_dp h hi), .inl (ni_dp h hi), self_dp h ho hd⟩
theorem odds_ni {K : PySem.W.Frag} {C : Addr} {n : Int} {F : Hp} {o : V} (h : NotI K F o) (hs : Self5 K C F o) : OddS K C n F o := ⟨.inl h, .inl h, hs⟩
end AA

set_option Elab.async false
set_option linter.all false
set_option maxRecDepth 100000
set_option maxHeartbeats 4000000
/-! law. -/
namespace AA
open PySem PySem.Spec PyProof.Rows L2 Evl
theorem dp_seqA {K : PySem.W.Frag} {H : Hp} {v : V} {d : PyData} (h : Dp K H v d) (hl : isListD d = true) : ∃ (q : Addr) (xs : List V), v = .ref q ∧ SqA K H q xs ∧ DpAll K H xs (itemsD d) := by
  cases h with
  | lst h1 h2 => exact ⟨_, _, rfl, .inl h1, h2⟩
  | tup h1 h2 => exact ⟨_, _, rfl, .inr h1, h2⟩
  | _ => cases hl
section
variable {P : Program} {w : World} {K : PySem.W.Frag} {mg : Str → Option Value} {base : Heap}
def spLaw24 (K : PySem.W.Frag) (T : List (Addr × Str)) : Sp := fun vs H Q _ => ∃ (s : Addr) (ns : List Int), vs = [.ref s] ∧ SqL K H s (ns.map V.int) ∧ ns.length ≤ 63 ∧ LamX.Tabs T H ∧ ∀ H', Q (.bl true) H'
abbrev nmL : List Str := ["_law_script", "_law_stream_here", "_law_turn", "_law_places", "_law_steps", "_law_web_here", "_law_twin", "_law_place", "_law_least_here", "_law_some", "_law_stock", "_law_odd", "_law_found", "_law_held"]
theorem scL : FnScope nmL ["_law_script"] (defScope sLaw) := ⟨rfl, rfl, rfl, by decide +kernel, rfl, by decide +kernel, by decide +kernel⟩
theorem ok_law24 {f fP fI fW C CP CS CD CY g fd_ fy_ c PT : Addr} {fd fdI fdW fdg : FuncData} {T : List (Addr × Str)} (F : FunC K "law" sLaw f fd c) (B : Bn mg) (TB : LamX.TabB base mg c PT) (hT : (PT, (("law" : Str) ++ ".<locals>.") ++ "<lambda>") ∈ T) (hu : ∀ p ∈ T, p.1 = PT → p.2 = (("law" : Str) ++ ".<locals>.") ++ "<lambda>")
    (TR : TrP K mg CD CY g fd_ fy_ fdg) (TW : WebTxt K mg C) (M : Mk K C fI) (GI : FnOk P w K mg base CX0 5 fI fdI ["self", "places", "steps"] (spWebI0 K C CP CS)) (bI : Binds K fdI ["self", "places", "steps"] [])
    (IC : InsK K C) (hCi : PySem.W.kitOne K (.ref C) (.type "int") = some false) (mP : mg "_law_pick" = some (.ref fP)) (vP : FnV K fP)
    (GW : FnOk P w K mg base (L2.CX P w) 7 fW fdW ["web", "place", "stock"] (spWon K C CD CY)) (mW : mg "way_on" = some (.ref fW)) (kW : PySem.W.keepIn K (.ref fW) = true) (bW : Binds K fdW ["web", "place", "stock"] [])
    (cSt : C8.Cal P w K mg base 1 "_law_stream" (spStream K) []) (cD : C8.Cal P w K mg base 1 "_law_draw" spDraw []) (cPk : C8.Cal P w K mg base 2 "_law_pick" (spPick K) []) (cWb : C8.Cal P w K mg base 5 "_law_web" (spWeb K) []) (cM : C8.Cal P w K mg base 2 "_law_mixed" (spMixed K) []) (cLs : C8.Cal P w K mg base 6 "_law_loose" (spLoose K 4) [])
    (cLe : C8.Cal P w K mg base 2 "_law_least" (spLle K) []) (gSr : GCal P w K mg base 8 "_law_stock_right" (spLsr K C)) (cS : C8.Cal P w K mg base 10 "_law_same" (spSame K C (WbR K C) 7) []) :
    GOk P w K mg base 12 f fd ["_law_script"] (spLaw24 K T) := by
  refine gok_ofC F scL (fun vs H Q E h => ?_) fun A outer s H vs Q hgd hr h => ?_
  · obtain ⟨s, ns, rfl, _⟩ := h
    rfl
  suffices go : ∃ t, PSs (cxOf CX0 P w K mg base nmL "law" (defScope sLaw) f (.ref c) A outer s H E0).nox (defBody sLaw) t ∧ t { nx := fun _ H' => Q .non H', rt := Q } (L2.start nmL vs) H from let ⟨t, h1, h2⟩ := go; ⟨t, h1.nox, h2⟩
  · obtain ⟨s0, ns, rfl, hS0, hns, hT0, k⟩ := h
    have hr6 : Room 6 (A.deeper (envOfC "law" (defScope sLaw) s.heap.objs.size f (.ref c))) := hr.mono (by decide)
    have hr9 : Room 9 (A.deeper (envOfC "law" (defScope sLaw) s.heap.objs.size f (.ref c))) := hr.mono (by decide)
    have hgd2 : (cxOf CX0 P w K mg base nmL "law" (defScope sLaw) f (.ref c) A outer s H E0).nox.A.guards = some [] := hgd
    refine ⟨_, pss_cons (ps_set (i := 1) scL.nd rfl (Or.inl rfl) (C8.pe_c cSt hr (by decide) (by rfl) (pa_cons (pv 0) pa_nil)))
      (pss_cons (ps_for PassesOwn.never rfl (pi_range1 (by rfl) B.range (pa_cons pe_int pa_nil)) (pg_name (i := 2) scL.nd rfl (Or.inl rfl))
        (pss_cons (ps_asg (C8.pe_c cWb hr (by decide) (by rfl) (pa_cons (pv 1) (pa_cons pe_int (pa_cons pe_int pa_nil)))) (pg_tup (n := 2) rfl (pgs_cons (pg_name (i := 3) scL.nd rfl (Or.inr rfl)) (pgs_cons (pg_name (i := 4) scL.nd rfl (Or.inl rfl)) pgs_nil))))
        (pss_cons (ps_asg (pe_tup (pa_cons (pe_make M GI hr6 (by rfl) TW.mgC bI .nil pass0 (pa_cons (pv 3) (pa_cons (pv 4) pa_nil))) (pa_cons (pe_make M GI hr6 (by rfl) TW.mgC bI .nil pass0 (pa_cons (pv 3) (pa_cons (C8.pe_c cLs hr (by decide) (by rfl) (pa_cons (pv 1) (pa_cons (C8.pe_c cM hr (by decide) (by rfl) (pa_cons (pv 1) (pa_cons (pv 4) pa_nil))) pa_nil))) pa_nil))) pa_nil))) (pg_tup (n := 2) rfl (pgs_cons (pg_name (i := 5) scL.nd rfl (Or.inr rfl)) (pgs_cons (pg_name (i := 6) scL.nd rfl (Or.inl rfl)) pgs_nil))))
        (Evl.pss_cut (ps_for PassesOwn.never rfl (pi_range1 (by rfl) B.range (pa_cons (pv 3) pa_nil)) (pg_name (i := 7) scL.nd rfl (Or.inl rfl))
            (pss_cons (ps_set (i := 8) scL.nd rfl (Or.inl rfl) (C8.pe_c cLe hr (by decide) (by rfl) (pa_cons (pv 4) (pa_cons (pv 7) pa_nil))))
            (pss_cons (ps_set (i := 9) scL.nd rfl (Or.inl rfl) (pe_lst (pa_cons pe_int (pa_cons (C8.pe_c cD hr (by decide) (by rfl) (pa_cons (pv 1) (pa_cons pe_int pa_nil))) (pa_cons (C8.pe_c cPk hr (by decide) (by rfl) (pa_cons (pv 1) (pa_cons (pe_lst (pa_cons pe_int (pa_cons pe_int pa_nil))) pa_nil))) pa_nil)))))
            (Evl.pss_cut (ps_expr (pe_bm PySem.F.plainAttrs_list PySem.F.slot_list_extend PySem.F.type_list_extend mt_extend (pv 9) (pa_cons (pe_ifExp (pt_cmp (pc_isN (pv 8))) (pe_lst pa_nil) (pe_lst (pa_cons (pv 8) (pa_cons (pe_op op_add (pv 8) (C8.pe_c cD hr (by decide) (by rfl) (pa_cons (pv 1) (pa_cons pe_int pa_nil)))) (pa_cons (pe_callB (call_max2 (by rfl)) (by rfl) B.max boot_max (pa_cons pe_int (pa_cons (pe_op op_sub (pv 8) pe_int) pa_nil))) pa_nil))))) pa_nil)))
            (pss_one (ps_for PassesOwn.never rfl (pi_list (pv 9)) (pg_name (i := 10) scL.nd rfl (Or.inl rfl))
              (pss_one (ps_if (pt_not (pt_val (pe_g gSr hgd2 hr (by decide) (by rfl) (pa_cons (pv 5) (pa_cons (pv 6) (pa_cons (pv 4) (pa_cons (pv 7) (pa_cons (pv 10) (pa_cons (pv 8) pa_nil))))))))) (pss_one (ps_ret pe_bl)) pss_nil))))))))
        (Evl.pss_cut (ps_for PassesOwn.never rfl (pi_list (pe_lst (pa_cons pe_non (pa_cons (pe_un un_neg pe_int) (pa_cons pe_bl (pa_cons pe_str (pa_cons (pe_tup (pa_cons pe_int pa_nil)) (pa_cons (pe_lst pa_nil) (pa_cons pe_dnewK (pa_cons (pv 5) (pa_cons (pe_glob (v := .ref fP) (by rfl) mP rfl) pa_nil))))))))))) (pg_name (i := 11) scL.nd rfl (Or.inr rfl))
            (pss_cons (ps_set (i := 12) scL.nd rfl (Or.inl rfl) (pe_lst (pa_cons (pe_triedB (q0 := ("law" : Str) ++ ".<locals>.") (k := 7) rfl rfl rfl TR TB hT hu (by rfl) rfl rfl hr9 (LamX.lamS_by (by rfl)) rfl (fun _ _ _ _ _ => rfl) (fun _ _ _ _ _ _ _ hr' => pe_call GW hr' (by rfl) mW kW bW .nil (passes_call (takes_of rfl rfl rfl rfl) fun _ _ _ _ z => z) (pa_cons (pv 5) (pa_cons (pv 11) (pa_cons pe_non pa_nil))))) pa_nil)))
            (pss_cons (ps_expr (pe_bm PySem.F.plainAttrs_list PySem.F.slot_list_append PySem.F.type_list_append mt_append (pv 12) (pa_cons (pe_triedB (q0 := ("law" : Str) ++ ".<locals>.") (k := 7) rfl rfl rfl TR TB hT hu (by rfl) rfl rfl hr9 (LamX.lamS_by (by rfl)) rfl (fun _ _ _ _ _ => rfl) (fun _ _ _ _ _ _ _ hr' => pe_call GW hr' (by rfl) mW kW bW .nil (passes_call (takes_of rfl rfl rfl rfl) fun _ _ _ _ z => z) (pa_cons (pv 5) (pa_cons pe_int (pa_cons (pv 11) pa_nil))))) pa_nil)))
            (pss_one (ps_if (pt_not (pt_val (C8.pe_c cS hr (by decide) (by rfl) (pa_cons (pv 12) (pa_cons (pe_lst (pa_cons (pe_tup (pa_cons pe_str (pa_cons (pv 11) pa_nil))) (pa_cons (pe_tup (pa_cons pe_str (pa_cons (pv 11) pa_nil))) pa_nil))) pa_nil))))) (pss_one (ps_ret pe_bl)) pss_nil)))))
        (Evl.pss_cut (ps_if (pt_not (pt_val (C8.pe_c cS hr (by decide) (by rfl) (pa_cons (pe_triedB (q0 := ("law" : Str) ++ ".<locals>.") (k := 7) rfl rfl rfl TR TB hT hu (by rfl) rfl rfl hr9 (LamX.lamS_by (by rfl)) rfl (fun _ _ _ _ _ => rfl) (fun _ _ _ _ _ _ _ hr' => pe_call GW hr' (by rfl) mW kW bW .nil (passes_call (takes_of rfl rfl rfl rfl) fun _ _ _ _ z => z) (pa_cons (pv 5) (pa_cons (pv 3) (pa_cons pe_int pa_nil))))) (pa_cons (pe_tup (pa_cons pe_str (pa_cons (pv 3) pa_nil))) pa_nil))))) (pss_one (ps_ret pe_bl)) pss_nil)
        (Evl.pss_cut (ps_set (i := 13) scL.nd rfl (Or.inr rfl) (pe_lst (pa_cons pe_int pa_nil)))
        (pss_cons (ps_set (i := 12) scL.nd rfl (Or.inl rfl) (pe_triedB (q0 := ("law" : Str) ++ ".<locals>.") (k := 7) rfl rfl rfl TR TB hT hu (by rfl) rfl rfl hr9 (LamX.lamS_by (by rfl)) rfl (fun _ _ _ _ _ => rfl) (fun _ _ _ _ _ _ _ hr' => pe_call GW hr' (by rfl) mW kW bW .nil (passes_call (takes_of rfl rfl rfl rfl) fun _ _ _ _ z => z) (pa_cons (pv 5) (pa_cons pe_int (pa_cons (pv 13) pa_nil))))))
        (pss_cons (ps_expr (pe_bm PySem.F.plainAttrs_list PySem.F.slot_list_append PySem.F.type_list_append mt_append (pv 13) (pa_cons pe_str pa_nil)))
        (pss_one (ps_if (pt_not (pt_val (C8.pe_c cS hr (by decide) (by rfl) (pa_cons (pv 12) (pa_cons (pe_tup (pa_cons pe_str (pa_cons (pe_lst (pa_cons pe_int (pa_cons pe_str pa_nil))) pa_nil))) pa_nil))))) (pss_one (ps_ret pe_bl)) pss_nil)))))))))))
      (pss_one (ps_ret pe_bl))), ?_⟩
    refine ⟨_, rfl, s0, ns, rfl, hS0, hns, fun H0 a b e0 ha hb hst => ?_⟩
    refine ⟨(5 : Int), rfl, by decide, by decide, for_range (lo := 0) (n := ((5 : Int)).toNat) (fun i σ G => ∃ (x2 x3 x4 x5 x6 x7 x8 x9 x10 x11 x12 x13 : Option V), σ = [some (.ref s0), some (.ref a), x2, x3, x4, x5, x6, x7, x8, x9, x10, x11, x12, x13] ∧ ∃ m, m ≤ 1000000 * i ∧ SAt G a b m ∧ LamX.Tabs T G) ?_ ?_ ?_⟩
    · exact ⟨none, none, none, none, none, none, none, none, none, none, none, none, rfl, 0, Nat.le_refl _, hst, hT0.ext e0⟩
    case refine_3 =>
      rintro σ G ⟨x2, x3, x4, x5, x6, x7, x8, x9, x10, x11, x12, x13, rfl, m, hm, hSG, hTG⟩
      exact k G
    rintro i σ G hi ⟨x2, x3, x4, x5, x6, x7, x8, x9, x10, x11, x12, x13, rfl, m, hm, hSG, hTG⟩
    have hi5 : i < 5 := hi
    -- the web's steps
    refine ⟨_, rfl, a, b, m, 6, 14, rfl, hSG, by omega, by decide, by decide, by decide, by decide, fun H2 p l kk vs ss e2 s2 hp0 hl0 hp hl hD hWb hk6 hlen => ?_⟩
    refine ⟨p, _, rfl, SqT.of hp, rfl, _, _, rfl, _, _, rfl, rfl, ?_⟩
    have t2 := tabs_S hTG hSG e2
    have hsz : ss.length ≤ 14 := by omega
    have hvl : vs.length = ss.length := sts_len (dpa_ex tps_le _ _ hD)
    -- the web
    refine ⟨_, rfl, _, rfl, fun x dx x0 dx0 ne => web_goodK x0 dx0 hWb.n1 rfl (.inl (SqL.of hl)) (rdall_st (dpa_ex tps_le _ _ hD) hWb.ok) hWb.nd (by omega) fun H3 k1 ts e3 hW3 hWS k10 hk1 pm srs => ⟨rfl, ?_⟩⟩
    have s3 := s2.ex e3
    have t3 := t2.ext e3
    have hW := hWS a b _ s2
    have lA : l ≠ a := hSG.nea hl0
    have lB : l ≠ b := hSG.neb hl0
    have l3 : hid a b H3 l = some (.lst vs) := by rw [hid_ne lA lB]; exact e3 _ _ hl
    have k1A := s2.nea k10
    have k1B := s2.neb k10
    have k13 : hid a b H3 k1 = some (.dK []) := by rw [hid_ne k1A k1B]; exact hk1
    -- its twin
    refine ⟨_, rfl, _, rfl, _, rfl, _, rfl, a, b, m + 20000, l, vs, rfl, s3, SqL.of l3, by omega, by omega, fun H4 p4 ys e4 s4 p40 hp4 pmv => ?_⟩
    have t4 := tabs_S t3 s3 e4
    obtain ⟨ss', pms, hD'⟩ := dpa_perm pmv (dpa_ex ((tps_mono e3).trans (tps_hid e4 s3)) _ _ hD)
    have p4A := s3.nea p40
    have p4B := s3.neb p40
    have hl' : ss'.length = ss.length := pms.length_eq
    refine ⟨a, b, m + 20000 + vs.length, .ref p4, .list (ss'.map stD), rfl, s4, .lst (SqL.of (by rw [hid_ne p4A p4B]; exact hp4)) (dpa_ex (tps_in s4) _ _ hD'), all_sts ss', ?_, ?_, ?_, fun H5 v' d' e5 s5 hd' hls => ?_⟩
    · have := stDs_depth ss'
      show PyData.depthAll (ss'.map stD) + 1 < 4
      omega
    · show m + 20000 + vs.length + (cntA (ss'.map stD) + 1) < 900000000
      rw [cnt_sts]
      omega
    · show cntA (ss'.map stD) + 1 < 1000000
      rw [cnt_sts]
      omega
    have t5 := tabs_S t4 s4 e5
    have hcn : cnt (.list (ss'.map stD)) ≤ 200 := by
      show cntA (ss'.map stD) + 1 ≤ 200
      rw [cnt_sts]
      omega
    obtain ⟨li, lb⟩ := ls_items (.inr hls)
    obtain ⟨q5, xs5, rfl, hq5, hd5⟩ := dp_seqA (dp_ex nw_le _ _ hd') lb
    have hok' : ∀ s ∈ ss', StOk kk s := fun s hs => hWb.ok s (pms.mem_iff.mp hs)
    refine fun y dy y0 dy0 ne2 => web_goodK y0 dy0 hWb.n1 rfl hq5 (rdall_of hd5 (ls_steps li hok')) (pms.symm.nodup hWb.nd) (by omega) fun H6 k2 ts' e6 hW6 hWS6 k20 hk2 pm' srs' => ⟨rfl, ?_⟩
    obtain rfl : ts = ts' := srs_uniq srs srs' (pm.trans (pms.symm.trans pm'.symm))
    have s6 := s5.ex e6
    have t6 := t5.ext e6
    refine ⟨by show 2 ≤ sizeLine; decide, fun T0 hT0' => ⟨T0, _, rfl, SqT.of upd_same, rfl, _, _, rfl, _, _, rfl, rfl, ?_⟩⟩
    have e7 := Ex.new (o := .tup [V.ref x, V.ref y]) hT0'
    generalize upd H6 T0 (.tup [V.ref x, V.ref y]) = H7 at e7 ⊢
    have s7 := s6.ex e7
    have t7 := t6.ext e7
    -- what stands now
    have k1H6 : H6 k1 = some (.dK []) := by
      have z := (hid_mono e6) _ _ (e5 _ _ (e4 _ _ k13))
      rw [hid_ne k1A k1B] at z
      exact z
    have bX : WebK K C H7 x k1 kk ts := ((((hW.ex e4).ex e5).ex (hid_mono e6)).ex hid_ex).ex e7
    have bY : WebK K C H7 y k2 kk ts := hW6.ex e7
    have k12 : k1 ≠ k2 := by
      have z := e5 _ _ (e4 _ _ k13)
      rw [hid_ne k1A k1B] at z
      exact ne_of_none z k20
    have l7 : H7 l = some (.lst vs) := by
      have z := (hid_mono e6) _ _ (e5 _ _ (e4 _ _ l3))
      rw [hid_ne lA lB] at z
      exact e7 _ _ z
    have D7 : DpAll K (tps H7) vs (ss.map stD) := dpa_ex ((tps_mono e3).trans ((tps_hid e4 s3).trans ((tps_hid e5 s4).trans ((tps_mono e6).trans (tps_mono e7))))) _ _ hD
    have k17 := e7 _ _ k1H6
    have k27 := e7 _ _ hk2
    have tmem : ∀ s, s ∈ ts ↔ s ∈ ss := fun s => pm.mem_iff
    have htz : ts.length ≤ 14 := by rw [pm.length_eq]; exact hsz
    have hk1' := hWb.n1
    obtain ⟨U, hUdef⟩ : ∃ U : List Int, U = (List.range kk.toNat).map fun i : Nat => (i : Int) := ⟨_, rfl⟩
    have hUm : ∀ j : Int, 0 ≤ j → j < kk → j ∈ U := fun j h1 h2 => by
      rw [hUdef]
      exact List.mem_map.mpr ⟨j.toNat, List.mem_range.mpr (by omega), by omega⟩
    have hUl : U.length ≤ 6 := by
      rw [hUdef, List.length_map, List.length_range]
      omega
    have sU : ∀ s ∈ ss, s.one ∈ U ∧ s.other ∈ U := fun s hs => let o := hWb.ok s hs; ⟨hUm _ o.o0 o.o1, hUm _ o.t0 o.t1⟩
    have tU : ∀ s ∈ ts, s.one ∈ U ∧ s.other ∈ U := fun s hs => sU s ((tmem s).mp hs)
    have tc9 : ∀ s ∈ ts, s.change ≤ 9 := fun s hs => (hWb.sm s ((tmem s).mp hs)).c1
    have hStB : StB U ts := ⟨by omega, tU, by omega, fun s hs => (hWb.sm s ((tmem s).mp hs)).c0⟩
    have hsm : ∀ s ∈ ts, StOk kk s ∧ StSm s := fun s hs => ⟨hWb.ok s ((tmem s).mp hs), hWb.sm s ((tmem s).mp hs)⟩
    -- all but the stream and what is known of the webs
    obtain ⟨Z, hZ⟩ : ∃ Z, Z = hid k1 k2 (hid a b H7) := ⟨_, rfl⟩
    have Zk1 : Z k1 = none := by rw [hZ]; exact hid_l
    have Zk2 : Z k2 = none := by rw [hZ]; exact hid_r
    have Za : Z a = none := by rw [hZ]; exact hid_none hid_l
    have Zb : Z b = none := by rw [hZ]; exact hid_none hid_r
    have Zle : Ex Z H7 := by rw [hZ]; exact hid_ex.trans hid_ex
    have k2A := s5.nea k20
    have k2B := s5.neb k20
    have hk1s : hid a b H7 k1 = some (.dK []) := by rw [hid_ne k1A k1B]; exact k17
    have hk2s : hid a b H7 k2 = some (.dK []) := by rw [hid_ne k2A k2B]; exact k27
    have Zx : WebK K C Z x k1 kk ts := by
      rw [hZ]
      exact ((((hW.ex e4).ex e5).ex (hid_mono e6)).ex (hid_mono e7)).dk hk1s hk2s
    have Zy : WebK K C Z y k2 kk ts := by
      rw [hZ]
      exact ((hWS6 a b _ s5).ex (hid_mono e7)).dk hk1s hk2s
    have Zl : Z l = some (.lst vs) := by
      rw [hZ]
      exact hid_dk hk1s hk2s (by rw [hid_ne lA lB]; exact l7) fun l z => nomatch z
    have ZD : DpAll K Z vs (ss.map stD) := by
      rw [hZ]
      exact sts_dk hk1s hk2s (dpa_ex (tps_in s7) _ _ D7)
    have tw7 : Two ts Z k1 k2 H7 := ⟨Zle, .inl k17, .inl k27⟩
    refine ⟨fun σ G => ∃ (x7 x8 x9 x10 : Option V), σ = [some (.ref s0), some (.ref a), some (.int (0 + (i : Int))), some (.int kk), some (.ref l), some (.ref x), some (.ref y), x7, x8, x9, x10, x11, x12, x13] ∧ ∃ m', m' ≤ m + 21000 ∧ SAt G a b m' ∧ LamX.Tabs T G ∧ Ex Z G, ?_, ?_⟩
    · refine ⟨_, rfl, kk, rfl, by omega, by omega, for_range (lo := 0) (n := kk.toNat) (fun j σ G => ∃ (x7 x8 x9 x10 : Option V), σ = [some (.ref s0), some (.ref a), some (.int (0 + (i : Int))), some (.int kk), some (.ref l), some (.ref x), some (.ref y), x7, x8, x9, x10, x11, x12, x13] ∧ ∃ m', m' ≤ m + 20500 + 5 * j ∧ SAt G a b m' ∧ LamX.Tabs T G ∧ Two ts Z k1 k2 G) ⟨_, _, _, _, rfl, _, by omega, s7, t7, tw7⟩ ?_ ?_⟩
      case refine_2 =>
        rintro σ G ⟨x7, x8, x9, x10, rfl, m', hm', sG, tG, tw⟩
        exact ⟨_, _, _, _, rfl, m', by omega, sG, tG, tw.e⟩
      rintro j σ G hj ⟨x7, x8, x9, x10, rfl, m', hm', sG, tG, tw⟩
      have hjU := hUm (0 + (j : Int)) (by omega) (by omega)
      refine ⟨_, rfl, _, rfl, l, 0 + (j : Int), vs, ss, U, rfl, SqL.of (tw.e _ _ Zl), dpa_ex tw.e _ _ ZD, hsz, hjU, fun s hs => (sU s hs).2, by omega, fun G1 r y1 hr => ?_⟩
      refine ⟨_, rfl, a, b, m', 20, rfl, sG.ex y1, by omega, by decide, by decide, fun G2 d1 y2 sG2 d10 d11 => ?_⟩
      have tw2 := (tw.ex k12 y1).S (sG.ex y1) Za Zb y2
      have tG2 := tabs_S (tG.ext y1) (sG.ex y1) y2
      refine ⟨_, rfl, by show 2 ≤ sizeLine; decide, fun tp htp => ?_⟩
      have y3 := Ex.new (o := .lst [V.int 60, V.int 1000]) htp
      have j3 : upd G2 tp (.lst [V.int 60, V.int 1000]) tp = some (.lst [V.int 60, V.int 1000]) := upd_same
      have tpa := sG2.nea htp
      have tpb := sG2.neb htp
      generalize upd G2 tp (.lst [V.int 60, V.int 1000]) = G3 at y3 j3 ⊢
      have sG3 := sG2.ex y3
      refine ⟨a, b, m' + 1, tp, [V.int 60, V.int 1000], rfl, sG3, by omega, SqL.of (by rw [hid_ne tpa tpb]; exact j3), by decide, by decide, fun G4 pi px y4 sG4 hpx => ?_⟩
      have tw4 := (tw2.ex k12 y3).S sG3 Za Zb y4
      have tG4 := tabs_S (tG2.ext y3) sG3 y4
      obtain ⟨d2, rfl, d20⟩ : ∃ d2 : Int, px = .int d2 ∧ 0 ≤ d2 := by
        match pi, hpx with
        | 0, h => exact ⟨60, (Option.some.inj h).symm, by decide⟩
        | 1, h => exact ⟨1000, (Option.some.inj h).symm, by decide⟩
      refine ⟨by show 3 ≤ sizeLine; decide, fun So hSo => ?_⟩
      have y5 := Ex.new (o := .lst [V.int 0, V.int d1, V.int d2]) hSo
      have j5 : upd G4 So (.lst [V.int 0, V.int d1, V.int d2]) So = some (.lst [V.int 0, V.int d1, V.int d2]) := upd_same
      have Soa := sG4.nea hSo
      have Sob := sG4.neb hSo
      have ZSo : Z So = none := by
        cases q : Z So with
        | none => rfl
        | some o =>
          rw [tw4.e _ _ q] at hSo
          cases hSo
      generalize upd G4 So (.lst [V.int 0, V.int d1, V.int d2]) = G5 at y5 j5 ⊢
      have sG5 := sG4.ex y5
      have tG5 := tG4.ext y5
      have tw5 := tw4.ex k12 y5
      refine ⟨fun σ G' => ∃ (so : List Int), σ = [some (.ref s0), some (.ref a), some (.int (0 + (i : Int))), some (.int kk), some (.ref l), some (.ref x), some (.ref y), some (.int (0 + (j : Int))), some (oI r), some (.ref So), x10, x11, x12, x13] ∧ G' So = some (.lst (so.map V.int)) ∧ (∀ N ∈ so, 0 ≤ N) ∧ SAt G' a b (m' + 3) ∧ LamX.Tabs T G' ∧ Two ts Z k1 k2 G', ?_, ?_⟩
      · refine ⟨_, rfl, .inl ⟨rfl, _, SqL.of j5⟩, ?_⟩
        cases hrr : r with
        | none =>
          refine ⟨_, rfl, _, rfl, iteT ⟨Nat.zero_le _, fun e he => ?_⟩⟩
          have y6 := Ex.new (o := .lst []) he
          have j6 : upd G5 e (.lst []) e = some (.lst []) := upd_same
          generalize upd G5 e (.lst []) = G6 at y6 j6 ⊢
          refine ⟨So, e, _, [], rfl, rfl, y6 _ _ j5, j6, by show 3 ≤ sizeLine; decide, [0, d1, d2], rfl, upd_same, ?_, ((sG5.ex y6).upd Soa Sob).mono (by omega), tabs_upd (tG5.ext y6) (y6 _ _ j5), (tw5.ex k12 y6).lst (y6 _ _ j5) ZSo⟩
          intro N hN
          simp only [List.mem_cons, List.not_mem_nil, or_false] at hN
          rcases hN with rfl | rfl | rfl <;> omega
        | some x0 =>
          have hx0 : 0 ≤ x0 := by
            obtain ⟨⟨W, R, _, _, e⟩, _⟩ := hr.yes x0 hrr
            rw [e]
            exact ned_0 _
          refine ⟨_, rfl, _, rfl, iteF ?_⟩
          refine ⟨_, rfl, _, rfl, _, rfl, a, b, m' + 2, 5, rfl, sG5, by omega, by decide, by decide, fun G6 d3 y6 sG6 d30 d31 => ?_⟩
          have tw6 := tw5.S sG5 Za Zb y6
          have tG6 := tabs_S tG5 sG5 y6
          have j56 := y6.at j5 Soa Sob
          refine ⟨_, _, rfl, rfl, _, rfl, _, _, rfl, rfl, _, _, rfl, by show 3 ≤ sizeLine; decide, fun e he => ?_⟩
          have y7 : ∀ {ob : HO}, Ex G6 (upd G6 e ob) := Ex.new he
          refine ⟨So, e, _, _, rfl, rfl, y7 _ _ j56, upd_same, by show 6 ≤ sizeLine; decide, [0, d1, d2, x0, x0 + d3, if 0 < x0 - 1 then x0 - 1 else 0], rfl, upd_same, ?_, ((sG6.ex y7).upd Soa Sob).mono (by omega), tabs_upd (tG6.ext y7) (y7 _ _ j56), (tw6.ex k12 y7).lst (y7 _ _ j56) ZSo⟩
          intro N hN
          simp only [List.mem_cons, List.not_mem_nil, or_false] at hN
          rcases hN with rfl | rfl | rfl | rfl | rfl | rfl <;> first | omega | (split <;> omega)
      rintro σ G6 ⟨so, rfl, hSo6, hso, sG6, tG6, tw6⟩
      obtain ⟨l1, dk1⟩ := tw6.m.dk
      obtain ⟨l2, dk2⟩ := tw6.o.dk
      have hSoh : hid k1 k2 G6 So = some (.lst (so.map V.int)) := hid_dk dk1 dk2 hSo6 fun l z => nomatch z
      refine ⟨_, rfl, So, rfl, ⟨_, SqL.of hSo6⟩, for_list (K := K) (a := So) (xs := so.map V.int) (fun q σ G' => ∃ (x10 : Option V), σ = [some (.ref s0), some (.ref a), some (.int (0 + (i : Int))), some (.int kk), some (.ref l), some (.ref x), some (.ref y), some (.int (0 + (j : Int))), some (oI r), some (.ref So), x10, x11, x12, x13] ∧ Two ts (hid k1 k2 G6) k1 k2 G') ⟨_, rfl, tw6.base⟩ (fun q σ G' _ ⟨_, _, t⟩ => SqL.of (t.e _ _ hSoh)) ?_ ?_⟩
      · rintro q v σ G' hv ⟨x10', rfl, tw'⟩
        obtain ⟨N, hN, rfl⟩ := get_ints hv
        have twZ := tw6.comp Zk1 Zk2 tw'
        refine ⟨_, rfl, _, rfl, _, rfl, _, rfl, _, rfl, _, rfl, x, y, l, k1, k2, 0 + (j : Int), N, kk, r, vs, ss, ts, U, rfl, Zx.ex twZ.e, Zy.ex twZ.e, k12, tw'.m, tw'.o, hStB, tc9, hsm, by omega, SqL.of ((twZ.in Zk1 Zk2) _ _ Zl), dpa_ex (twZ.in Zk1 Zk2) _ _ ZD, by omega, tmem, by omega, by omega, hjU, hso N (mem_of_get hN), hr, fun G'' tw'' => ⟨_, rfl, iteF ?_⟩⟩
        exact ⟨_, rfl, tw'.comp hid_l hid_r tw''⟩
      · rintro σ G' ⟨x10', rfl, tw'⟩
        exact ⟨_, _, _, _, rfl, m' + 3, by omega, tw'.sat sG6 dk1 dk2, tw'.tabs tG6 dk1 dk2, tw6.comp Zk1 Zk2 tw'⟩
    rintro σ G1 ⟨x7', x8', x9', x10', rfl, m1, hm1, s1, t1, eZ⟩
    have ZG : ∀ {G : Hp}, Ex Z G → Ex Z (hid a b G) := fun e z o hz => by
      rw [hid_ne (ne_of_none hz Za) (ne_of_none hz Zb)]
      exact e _ _ hz
    have ntW : ∀ {F : Hp}, WebK K C F x k1 kk ts → WebK K C (nt F) x k1 kk ts := fun ⟨dx, l, ys, h1, h2, h3⟩ => ⟨dx, l, ys, nt_of h1 (fun ps z => nomatch z), nt_of h2 (fun ps z => nomatch z), dpa_nt _ _ h3⟩
    have Wn : WebK K C (nt Z) x k1 kk ts := ntW Zx
    -- what is no place, and no stock
    refine ⟨fun σ G => ∃ (x11 x12 : Option V), σ = [some (.ref s0), some (.ref a), some (.int (0 + (i : Int))), some (.int kk), some (.ref l), some (.ref x), some (.ref y), x7', x8', x9', x10', x11, x12, x13] ∧ SAt G a b m1 ∧ LamX.Tabs T G ∧ Ex (nt Z) G, ?_, ?_⟩
    · refine ⟨_, rfl, by show 1 ≤ sizeLine; decide, fun t5 ht5 => ⟨Nat.zero_le _, fun l5 hl5 => fun d5 hd5 => ⟨_, rfl, by show 9 ≤ sizeLine; decide, fun u5 hu5 => ?_⟩⟩⟩
      have y1 := Ex.new (o := .tup [V.int 1]) ht5
      have j1 : upd G1 t5 (.tup [V.int 1]) t5 = some (.tup [V.int 1]) := upd_same
      generalize upd G1 t5 (.tup [V.int 1]) = A1 at y1 j1 hl5 hd5 hu5 ⊢
      have y2 := Ex.new (o := .lst []) hl5
      have j2 : upd A1 l5 (.lst []) l5 = some (.lst []) := upd_same
      generalize upd A1 l5 (.lst []) = A2 at y2 j2 hd5 hu5 ⊢
      have y3 := Ex.new (o := .dK []) hd5
      have j3 : upd A2 d5 (.dK []) d5 = some (.dK []) := upd_same
      generalize upd A2 d5 (.dK []) = A3 at y3 j3 hu5 ⊢
      generalize hLs : ([V.non, V.int (-1), V.bl true, V.str "1", V.ref t5, V.ref l5, V.ref d5, V.ref x, V.ref fP] : List V) = Ls
      have y4 := Ex.new (o := .lst Ls) hu5
      have j4 : upd A3 u5 (.lst Ls) u5 = some (.lst Ls) := upd_same
      refine ⟨u5, rfl, ⟨_, SqL.of j4⟩, ?_⟩
      generalize upd A3 u5 (.lst Ls) = A4 at y4 j4 ⊢
      have y14 := y1.trans (y2.trans (y3.trans y4))
      have r4 : RS T a b A4 m1 A4 := ⟨Ex.refl _, s1.ex y14, t1.ext y14⟩
      have put : ∀ {p : Addr} {o : HO}, G1 p = none → A4 p = some o → (∀ ps, o ≠ .tbl ps) → nt (hid a b A4) p = some o := fun h0 h nn => nt_of (by rw [hid_ne (s1.nea h0) (s1.neb h0)]; exact h) nn
      have bu5 := put (fresh_back (y1.trans (y2.trans y3)) hu5) j4 fun ps z => nomatch z
      have ZA : Ex Z (hid a b A4) := ZG (eZ.trans y14)
      have bW : WebK K C (nt (hid a b A4)) x k1 kk ts := ntW (Zx.ex ZA)
      obtain ⟨dxw, lw, ysw, hxw, _, _⟩ := id bW
      have odd5 : ∀ o ∈ Ls, OddS K C kk (nt (hid a b A4)) o := fun o ho => by
        rw [← hLs] at ho
        simp only [List.mem_cons, List.not_mem_nil, or_false] at ho
        rcases ho with rfl | rfl | rfl | rfl | rfl | rfl | rfl | rfl | rfl
        · exact odds_dp (d := .none) .non rfl rfl (by decide)
        · exact ⟨.inr ⟨-1, rfl, .inl (by decide)⟩, .inr ⟨-1, rfl, by decide⟩, self_int⟩
        · exact odds_dp (d := .bool true) (.bl true) rfl rfl (by decide)
        · exact odds_dp (d := .str _) (.str _) rfl (by decide +kernel) (by show 0 < 5; decide)
        · exact odds_dp (d := .tuple [.int 1]) (.tup (SqT.of (put ht5 ((y2.trans (y3.trans y4)) _ _ j1) fun ps z => nomatch z)) (.cons (.int 1) .nil)) rfl rfl (by decide)
        · exact odds_dp (d := .list []) (.lst (SqL.of (put (fresh_back y1 hl5) ((y3.trans y4) _ _ j2) fun ps z => nomatch z)) .nil) rfl rfl (by decide)
        · have h := put (fresh_back (y1.trans y2) hd5) (y4 _ _ j3) fun ps z => nomatch z
          exact odds_ni (ni_dict h) (self_dict h)
        · exact odds_ni (ni_ins IC hCi hxw) (self_webK bW)
        · exact odds_ni (ni_fnv vP) (self_fn vP)
      refine for_list (K := K) (a := u5) (xs := Ls) (fun j σ G => ∃ (x11 x12 : Option V), σ = [some (.ref s0), some (.ref a), some (.int (0 + (i : Int))), some (.int kk), some (.ref l), some (.ref x), some (.ref y), x7', x8', x9', x10', x11, x12, x13] ∧ RS T a b A4 m1 G) ⟨_, _, rfl, r4⟩ (fun j σ G _ ⟨_, _, _, r⟩ => SqL.of (r.at _ _ bu5)) ?_ ?_
      · rintro j o σ G ho ⟨x11', x12', rfl, rG⟩
        obtain ⟨ob1, ob2, oS⟩ := odd5 o (mem_of_get ho)
        refine ⟨rG.t, fun A6 eN t6 => ?_⟩
        have r6 := rG.N eN t6
        refine ⟨_, rfl, _, rfl, x, o, .non, rfl, .inl ⟨kk, ts, (bW.ex r6.at).at, ob1.ex r6.at, fun A8 dd e8 h0 h1 => .inl ⟨rfl, dd, o, rfl, h1, fun p8 hp8 => ?_⟩⟩⟩
        have v2 := Ex.new (o := .tup [V.str "place", o]) hp8
        have i2 : upd A8 p8 (.tup [V.str "place", o]) p8 = some (.tup [V.str "place", o]) := upd_same
        generalize upd A8 p8 (.tup [V.str "place", o]) = A9 at v2 i2 ⊢
        have r9 := r6.ex (e8.trans v2)
        refine ⟨by show 1 ≤ sizeLine; decide, fun Fl hFl => ?_⟩
        have v3 := Ex.new (o := .lst [V.ref p8]) hFl
        have i3 : upd A9 Fl (.lst [V.ref p8]) Fl = some (.lst [V.ref p8]) := upd_same
        have frF : ∀ z o, nt (hid a b A4) z = some o → z ≠ Fl := fun z o hz e => by
          have := r9.at _ _ hz
          rw [e, hFl] at this
          cases this
        have Fla := r9.s.nea hFl
        have Flb := r9.s.neb hFl
        have p8F : p8 ≠ Fl := ne_of_none i2 hFl
        have i23 := v3 _ _ i2
        generalize upd A9 Fl (.lst [V.ref p8]) = A10 at v3 i3 i23 ⊢
        have r10 := r9.ex v3
        refine ⟨_, rfl, .inl ⟨rfl, _, SqL.of i3⟩, r10.t, fun A11 eN2 t11 => ?_⟩
        have r11 := r10.N eN2 t11
        have i311 := eN2 _ _ i3 fun ps z => nomatch z
        have i211 := eN2 _ _ i23 fun ps z => nomatch z
        refine ⟨_, rfl, _, rfl, x, .int 0, o, rfl, .inr (.inl ⟨kk, ts, 0, (bW.ex r11.at).at, rfl, by omega, by omega, ob2.ex r11.at, fun A12 dd2 e12 h02 h12 => .inr ⟨rfl, dd2, o, rfl, h12, fun p12 hp12 => ?_⟩⟩)⟩
        have v4 := Ex.new (o := .tup [V.str "stock", o]) hp12
        have i4 : upd A12 p12 (.tup [V.str "stock", o]) p12 = some (.tup [V.str "stock", o]) := upd_same
        have i312 := e12 _ _ i311
        have p12F : p12 ≠ Fl := (ne_of_none i312 hp12).symm
        generalize upd A12 p12 (.tup [V.str "stock", o]) = A13 at v4 i4 ⊢
        have r13 := r11.ex (e12.trans v4)
        have i313 := v4 _ _ i312
        have i213 := v4 _ _ (e12 _ _ i211)
        refine ⟨Fl, _, _, rfl, rfl, i313, by show 1 < sizeLine; decide, ?_⟩
        have r14 := r13.mut (ys := [V.ref p8] ++ [V.ref p12]) i313 frF Fla Flb
        have k1' : upd A13 Fl (.lst ([V.ref p8] ++ [V.ref p12])) Fl = some (.lst [V.ref p8, V.ref p12]) := upd_same
        have k2' : upd A13 Fl (.lst ([V.ref p8] ++ [V.ref p12])) p8 = some (.tup [V.str "place", o]) := by rw [upd_ne p8F]; exact i213
        have k3' : upd A13 Fl (.lst ([V.ref p8] ++ [V.ref p12])) p12 = some (.tup [V.str "stock", o]) := by rw [upd_ne p12F]; exact i4
        generalize upd A13 Fl (.lst ([V.ref p8] ++ [V.ref p12])) = A14 at r14 k1' k2' k3' ⊢
        refine ⟨_, rfl, _, rfl, by show 2 ≤ sizeLine; decide, fun q1 hq1 => ⟨_, rfl, by show 2 ≤ sizeLine; decide, fun q2 hq2 => ⟨by show 2 ≤ sizeLine; decide, fun q3 hq3 => ?_⟩⟩⟩
        have w1 := Ex.new (o := .tup [V.str "place", o]) hq1
        have g1 : upd A14 q1 (.tup [V.str "place", o]) q1 = some (.tup [V.str "place", o]) := upd_same
        generalize upd A14 q1 (.tup [V.str "place", o]) = A15 at w1 g1 hq2 hq3 ⊢
        have w2 := Ex.new (o := .tup [V.str "stock", o]) hq2
        have g2 : upd A15 q2 (.tup [V.str "stock", o]) q2 = some (.tup [V.str "stock", o]) := upd_same
        generalize upd A15 q2 (.tup [V.str "stock", o]) = A16 at w2 g2 hq3 ⊢
        have w3 := Ex.new (o := .lst [V.ref q1, V.ref q2]) hq3
        have g3 : upd A16 q3 (.lst [V.ref q1, V.ref q2]) q3 = some (.lst [V.ref q1, V.ref q2]) := upd_same
        generalize upd A16 q3 (.lst [V.ref q1, V.ref q2]) = A17 at w3 g3 ⊢
        have w13 := w1.trans (w2.trans w3)
        have r17 := r14.ex w13
        have sP : Sm K C (WbR K C) A17 5 (.str "place") (.str "place") := .inl ⟨rfl, by decide +kernel⟩
        have sK : Sm K C (WbR K C) A17 5 (.str "stock") (.str "stock") := .inl ⟨rfl, by decide +kernel⟩
        have sO := oS _ r17.at
        refine ⟨.ref Fl, .ref q3, rfl, .inr (.inl ⟨Fl, q3, _, _, rfl, rfl, SqL.of (w13 _ _ k1'), SqL.of g3, .cons (.inr (.inr (.inl ⟨p8, q1, _, _, rfl, rfl, SqT.of (w13 _ _ k2'), SqT.of ((w2.trans w3) _ _ g1), .cons sP (.cons sO .nil), by show 2 ≤ 1000000; decide⟩))) (.cons (.inr (.inr (.inl ⟨p12, q2, _, _, rfl, rfl, SqT.of (w13 _ _ k3'), SqT.of (w3 _ _ g2), .cons sK (.cons sO .nil), by show 2 ≤ 1000000; decide⟩))) .nil), by show 2 ≤ 1000000; decide⟩), fun A18 e18 => ⟨_, rfl, iteF ?_⟩⟩
        exact ⟨_, _, rfl, r17.ex e18⟩
      · rintro σ G ⟨x11', x12', rfl, rG⟩
        exact ⟨_, _, rfl, rG.s, rG.t, (nt_mono ZA).trans rG.at⟩
    rintro σ G2 ⟨x11', x12', rfl, s2', t2', eZ2⟩
    have exN : ∀ {G G' : Hp}, Ex (nt Z) G → LamX.ExtN G G' → Ex (nt Z) G' := fun e eN z o hz => eN _ _ (e _ _ hz) (nt_some hz).2
    -- one place too many
    refine ⟨fun σ G => σ = [some (.ref s0), some (.ref a), some (.int (0 + (i : Int))), some (.int kk), some (.ref l), some (.ref x), some (.ref y), x7', x8', x9', x10', x11', x12', x13] ∧ SAt G a b m1 ∧ LamX.Tabs T G ∧ Ex (nt Z) G, ?_, ?_⟩
    · refine ⟨t2', fun A6 eN t6 => ?_⟩
      have e6 := exN eZ2 eN
      refine ⟨_, rfl, _, rfl, x, .int kk, .int 0, rfl, .inl ⟨kk, ts, (Wn.ex e6).at, .inr ⟨kk, rfl, .inr (Int.le_refl _)⟩, fun A8 dd e8 h0 h1 => .inl ⟨rfl, dd, .int kk, rfl, h1, fun p8 hp8 => ?_⟩⟩⟩
      have v2 := Ex.new (o := .tup [V.str "place", .int kk]) hp8
      have i2 : upd A8 p8 (.tup [V.str "place", .int kk]) p8 = some (.tup [V.str "place", .int kk]) := upd_same
      generalize upd A8 p8 (.tup [V.str "place", .int kk]) = A9 at v2 i2 ⊢
      refine ⟨_, rfl, by show 2 ≤ sizeLine; decide, fun q1 hq1 => ?_⟩
      have w1 := Ex.new (o := .tup [V.str "place", .int kk]) hq1
      have g1 : upd A9 q1 (.tup [V.str "place", .int kk]) q1 = some (.tup [V.str "place", .int kk]) := upd_same
      generalize upd A9 q1 (.tup [V.str "place", .int kk]) = A10 at w1 g1 ⊢
      have sP : Sm K C (WbR K C) A10 6 (.str "place") (.str "place") := .inl ⟨rfl, by decide +kernel⟩
      refine ⟨.ref p8, .ref q1, rfl, .inr (.inr (.inl ⟨p8, q1, _, _, rfl, rfl, SqT.of (w1 _ _ i2), SqT.of g1, .cons sP (.cons (.inl ⟨rfl, rfl⟩) .nil), by show 2 ≤ 1000000; decide⟩)), fun A11 e11 => ⟨_, rfl, iteF ?_⟩⟩
      have e := e8.trans (v2.trans (w1.trans e11))
      exact ⟨rfl, (sat_N s2' eN).ex e, t6.ext e, e6.trans e⟩
    rintro σ G3 ⟨rfl, s3', t3', eZ3⟩
    -- a list that grows
    refine ⟨fun σ G => ∃ Hd, σ = [some (.ref s0), some (.ref a), some (.int (0 + (i : Int))), some (.int kk), some (.ref l), some (.ref x), some (.ref y), x7', x8', x9', x10', x11', x12', some (.ref Hd)] ∧ SAt G a b m1 ∧ LamX.Tabs T G ∧ Ex (nt Z) G ∧ G Hd = some (.lst [V.int 1]) ∧ Hd ≠ a ∧ Hd ≠ b, ?_, ?_⟩
    · refine ⟨by show 1 ≤ sizeLine; decide, fun Hd hHd => ?_⟩
      have v1 := Ex.new (o := .lst [V.int 1]) hHd
      exact ⟨Hd, rfl, s3'.ex v1, t3'.ext v1, eZ3.trans v1, upd_same, s3'.nea hHd, s3'.neb hHd⟩
    rintro σ G4 ⟨Hd, rfl, s4', t4', eZ4, hHd, Hda, Hdb⟩
    refine ⟨t4', fun A6 eN t6 => ?_⟩
    have e6 := exN eZ4 eN
    have hHd6 := eN _ _ hHd fun ps z => nomatch z
    refine ⟨_, rfl, _, rfl, x, .int 0, .ref Hd, rfl, .inr (.inl ⟨kk, ts, 0, (Wn.ex e6).at, rfl, by omega, by omega, .inl (ni_dp (d := .list [.int 1]) (.lst (SqL.of hHd6) (.cons (.int 1) .nil)) rfl), fun A8 dd e8 h0 h1 => .inr ⟨rfl, dd, .ref Hd, rfl, h1, fun p8 hp8 => ?_⟩⟩)⟩
    have v2 := Ex.new (o := .tup [V.str "stock", .ref Hd]) hp8
    have i2 : upd A8 p8 (.tup [V.str "stock", .ref Hd]) p8 = some (.tup [V.str "stock", .ref Hd]) := upd_same
    have p8H : p8 ≠ Hd := (ne_of_none (e8 _ _ hHd6) hp8).symm
    have hHd9 := v2 _ _ (e8 _ _ hHd6)
    generalize upd A8 p8 (.tup [V.str "stock", .ref Hd]) = A9 at v2 i2 hHd9 ⊢
    have s9 := (sat_N s4' eN).ex (e8.trans v2)
    have t9 := t6.ext (e8.trans v2)
    refine ⟨_, rfl, .inl ⟨rfl, _, SqL.of hHd9⟩, Hd, _, _, rfl, rfl, hHd9, by show 1 < sizeLine; decide, ?_⟩
    have s10 := s9.upd (o := .lst ([V.int 1] ++ [V.str "late"])) Hda Hdb
    have t10 : LamX.Tabs T (upd A9 Hd (.lst ([V.int 1] ++ [V.str "late"]))) := tabs_upd t9 hHd9
    have k1' : upd A9 Hd (.lst ([V.int 1] ++ [V.str "late"])) Hd = some (.lst [V.int 1, V.str "late"]) := upd_same
    have k2' : upd A9 Hd (.lst ([V.int 1] ++ [V.str "late"])) p8 = some (.tup [V.str "stock", .ref Hd]) := by rw [upd_ne p8H]; exact i2
    generalize upd A9 Hd (.lst ([V.int 1] ++ [V.str "late"])) = A10 at s10 t10 k1' k2' ⊢
    refine ⟨_, rfl, by show 2 ≤ sizeLine; decide, fun q1 hq1 => ⟨by show 2 ≤ sizeLine; decide, fun q2 hq2 => ?_⟩⟩
    have w1 := Ex.new (o := .lst [V.int 1, V.str "late"]) hq1
    have g1 : upd A10 q1 (.lst [V.int 1, V.str "late"]) q1 = some (.lst [V.int 1, V.str "late"]) := upd_same
    generalize upd A10 q1 (.lst [V.int 1, V.str "late"]) = A11 at w1 g1 hq2 ⊢
    have w2 := Ex.new (o := .tup [V.str "stock", .ref q1]) hq2
    have g2 : upd A11 q2 (.tup [V.str "stock", .ref q1]) q2 = some (.tup [V.str "stock", .ref q1]) := upd_same
    generalize upd A11 q2 (.tup [V.str "stock", .ref q1]) = A12 at w2 g2 ⊢
    have w12 := w1.trans w2
    refine ⟨.ref p8, .ref q2, rfl, sm_two (.tuple [.str "stock", .list [.int 1, .str "late"]]) _ _ 7 (.tup (SqT.of (w12 _ _ k2')) (.cons (.str _) (.cons (.lst (SqL.of (w12 _ _ k1')) (.cons (.int 1) (.cons (.str _) .nil))) .nil))) (.tup (SqT.of g2) (.cons (.str _) (.cons (.lst (SqL.of (w2 _ _ g1)) (.cons (.int 1) (.cons (.str _) .nil))) .nil))) (by decide +kernel) (by decide +kernel), fun A13 e13 => ⟨_, rfl, iteF ?_⟩⟩
    exact ⟨_, _, _, _, _, _, _, _, _, _, _, _, rfl, m1, by omega, (s10.ex w12).ex e13, (t10.ext w12).ext e13⟩
end
end AA

set_option Elab.async false
set_option linter.all false
set_option maxRecDepth 100000
set_option maxHeartbeats 4000000
/-! The end of a law that shows things and makes lambdas. -/
namespace AA
open PySem PySem.Spec PyProof.Rows L2 Evl
/-- a table of code objects that tells none -/
abbrev tabO : Obj := { cls := .none, data := .fields #[] }
/-- the script's list -/
abbrev scrO (vs : List Value) : Obj := { cls := .type "list", data := .seq vs.toArray }
/-- what the heap of a law may hold at the start -/
structure StartT (K : PySem.W.Frag) (cs : List (Addr × Addr)) (a : Addr) (H : Hp) : Prop where
  at' : ∀ b, H b = none ∨ (∃ q ∈ cs, b = q.2) ∨ b = a
  tab : ∀ q ∈ cs, H q.2 = some (.tbl #[])
  scr : H a = none ∨ (K.lookup a = none ∧ ∃ ob xs, H a = some (.frz ob (.lst xs)))
/-- the world that the law's call meets -/
structure MeetT (K : PySem.W.Frag) (mg mb : Str → Option Value) (cs : List (Addr × Addr)) (a : Addr) (vs : List Value) (h : Heap) : Prop where
  kin : K.In h
  glo : h.Ns mainGlobals mg
  bui : h.Ns builtinsNs mb
  bb : ∀ y : Str, y ≠ "__name__" → mb y = bootBuiltins y
  lim : h.NoLimit
  tab : ∀ q ∈ cs, h.get? q.2 = some tabO
  tabK : ∀ q ∈ cs, K.lookup q.2 = none
  hd : ∀ q ∈ cs, PySem.W.CodeHd h q.1 q.2
  bmod : ∃ (m : Addr) (ob : Obj), mg "__builtins__" = some (.ref m) ∧ m ≠ builtinsNs ∧ h.get? m = some ob ∧ ob.cls = .type "module" ∧ ob.dict = some builtinsNs ∧ ob.data = .plain
  scr : h.get? a = some (scrO vs)
section
variable {K : PySem.W.Frag} {mg mb : Str → Option Value} {cs : List (Addr × Addr)} {a : Addr} {vs : List Value} {h : Heap} {H : Hp}
theorem MeetT.free (M : MeetT K mg mb cs a vs h) (S : StartT K cs a H) {b : Addr} {o : Obj} (e : h.get? b = some o) (n1 : o ≠ scrO vs) (n2 : o ≠ tabO) : H b = none := by
  rcases S.at' b with z | ⟨q, hq, rfl⟩ | rfl
  · exact z
  · exact absurd (Option.some.inj (e.symm.trans (M.tab q hq))) n2
  · exact absurd (Option.some.inj (e.symm.trans M.scr)) n1
theorem MeetT.freeK (M : MeetT K mg mb cs a vs h) (S : StartT K cs a H) {b : Addr} {o : Obj} (e : K.lookup b = some o) : H b = none := by
  rcases S.at' b with z | ⟨q, hq, rfl⟩ | rfl
  · exact z
  · have := M.tabK q hq
    rw [e] at this
    cases this
  · rcases S.scr with z | ⟨z, _⟩
    · exact z
    · rw [e] at z
      cases z
theorem MeetT.ns (M : MeetT K mg mb cs a vs h) (S : StartT K cs a H) {b : Addr} {m : Str → Option Value} (n : h.Ns b m) : (hidT h H).Ns b m := by
  obtain ⟨o, es, ep, e, d, r⟩ := n
  refine ⟨o, es, ep, hidT_get e (M.free S e ?_ ?_), d, r⟩ <;>
  · intro z
    rw [z] at d
    cases d
theorem MeetT.inT (M : MeetT K mg mb cs a vs h) (S : StartT K cs a H) : K.In (hidT h H) := fun b o e => hidT_get (M.kin b o e) (M.freeK S e)
theorem MeetT.mod (M : MeetT K mg mb cs a vs h) (S : StartT K cs a H) : Mod K mg (hidT h H) :=
  ⟨M.inT S, M.ns S M.glo, ⟨mb, M.ns S M.bui, M.bb⟩, let ⟨mc, h1, h2⟩ := M.lim; ⟨mc, M.ns S h1, h2⟩⟩
theorem MeetT.tabB (M : MeetT K mg mb cs a vs h) (S : StartT K cs a H) (q : Addr × Addr) (hq : q ∈ cs) : LamX.TabB (hidT h H) mg q.1 q.2 := by
  have tq := M.tab q hq
  refine ⟨?_, ?_, ?_⟩
  · obtain ⟨o, us, g1, g2, g3, g4, g5, g6, g7, e, r1, r2, r3, rest⟩ := M.hd q hq
    refine ⟨o, us, g1, g2, g3, g4, g5, g6, g7, hidT_get e (M.free S e (fun z => ?_) fun z => ?_), r1, r2, r3, rest⟩
    · rw [z] at r2
      cases r2
    · rw [z] at r2
      cases r2
      simp at r3
  · obtain ⟨m, ob, b1, b2, b3, b4, b5, b6⟩ := M.bmod
    refine ⟨m, ob, b1, b2, fun z => ?_, fun z => ?_, hidT_get b3 (M.free S b3 (fun z => ?_) fun z => ?_), b4, b5, b6⟩
    · obtain ⟨o, es, ep, e, d, _⟩ := M.glo
      rw [← z, b3] at e
      rw [← Option.some.inj e, b6] at d
      cases d
    · rw [z, tq] at b3
      rw [← Option.some.inj b3] at b6
      cases b6
    · rw [z] at b6
      cases b6
    · rw [z] at b6
      cases b6
  · intro z
    obtain ⟨o, es, ep, e, d, _⟩ := M.glo
    rw [z, tq] at e
    rw [← Option.some.inj e] at d
    cases d
end
section
variable {P : Program} {w : World} {K : PySem.W.Frag} {mg mb : Str → Option Value} {k : Nat} {fa a : Addr} {fd : FuncData} {x : Str} {sp : Sp} {cs : List (Addr × Addr)}
theorem gt_core {s₁ : Shared} {vs : List Value} {H : Hp} (M : MeetT K mg mb cs a vs s₁.heap) (S : StartT K cs a H) (hg : s₁.gens = #[]) (hr : Room k callerA)
    (F : ∀ bs : Heap, K.In bs → bs.Ns mainGlobals mg → (∀ q ∈ cs, LamX.TabB bs mg q.1 q.2) → GOk P w K mg bs k fa fd [x] sp)
    (hbind : ∀ (s : Shared) (u : Value), BindsTo s fd ⟨[u], []⟩ [(x, u)]) (hok : HOk P w H s₁.heap) (hsp : sp [.ref a] H (fun v _ => v = .bl true) E0) :
    codeAny (model P w) callerA (.call (.ref fa) ⟨[.ref a], []⟩) (fun r s' => r = .ok (.ret (.bool true)) ∧ (OldK s₁.heap s'.heap ∧ s'.os = s₁.os ∧ AllBare s'.gens)) s₁ := by
  have no : ∀ b : Addr, b ∉ ([] : List Addr) := fun b z => nomatch z
  have e0 : Env0 P w K mg (hidT s₁.heap H) callerA [] s₁ H :=
    ⟨rfl, M.mod S, fun b o e => of_hidT e, Nat.le_of_eq (hidT_size _ _), trivial, fun b z => absurd z (no b), hok, .of_eq hg⟩
  have G := F _ (M.inT S) (M.ns S M.glo) (M.tabB S)
  refine codeAny_mono (G.run callerA [] s₁ H ⟨[.ref a], []⟩ [.ref a] [.ref a] _ rfl hr e0 (hbind s₁ (.ref a)) (.cons rfl .nil) hsp) ?_
  intro r s' z
  rcases r with e | fl
  · exact False.elim z
  cases fl with
  | next => exact False.elim z
  | brk => exact False.elim z
  | cont => exact False.elim z
  | ret u =>
    obtain ⟨v, H', os, bare, un, hok', r', q⟩ := z
    cases (show v = .bl true from q)
    cases (show u = Value.bool true from r')
    -- a table grows
    have grow : ∀ p ∈ cs, ∃ more : Array Value, s'.heap.get? p.2 = some { cls := .none, data := .fields more } := fun p hp => by
      obtain ⟨more, z⟩ := un.tbls p.2 #[] (S.tab p hp)
      exact ⟨_, hok' p.2 _ z⟩
    -- all else stands
    have stay : ∀ b o, s₁.heap.get? b = some o → (∃ p ∈ cs, b = p.2) ∨ s'.heap.get? b = some o := fun b o e => by
      rcases S.at' b with z | z | rfl
      · exact .inr (un.keep b o e z (no b) (no b))
      · exact .inl z
      · rcases S.scr with z | ⟨_, ob, xs, z⟩
        · exact .inr (un.keep b o e z (no b) (no b))
        · obtain ⟨e1, _⟩ := hok b _ z
          obtain ⟨e2, _⟩ := hok' b _ (un.frzs b ob _ z)
          rw [e] at e1
          cases e1
          exact .inr e2
    refine ⟨rfl, ⟨?_, ?_⟩, os, bare⟩
    · intro b o e
      rcases stay b o e with ⟨p, hp, rfl⟩ | z
      · obtain ⟨more, hm⟩ := grow p hp
        have tp := M.tab p hp
        rw [e] at tp
        cases tp
        refine .inr (.inl ⟨((M.hd p hp).tab e).isCodeTable, rfl, #[], more, rfl, ?_⟩)
        rw [Array.empty_append]
        exact hm
      · exact .inl z
    · intro b o e
      rcases stay b o e with ⟨p, hp, rfl⟩ | z
      · obtain ⟨more, hm⟩ := grow p hp
        exact ⟨_, hm⟩
      · exact ⟨o, z⟩
open Classical in
/-- the heap at the start -/
noncomputable def startH (K : PySem.W.Frag) (cs : List (Addr × Addr)) (a : Addr) (vs : List Value) (ns : List Int) : Hp := fun b =>
  if (∃ q ∈ cs, b = q.2) then some (.tbl #[]) else if b = a ∧ K.lookup a = none then some (.frz (scrO vs) (.lst (ns.map V.int))) else none
theorem gt_call {s₁ : Shared} {vs : List Value} {ns : List Int} (M : MeetT K mg mb cs a vs s₁.heap) (hg : s₁.gens = #[]) (hi : IntsAre vs ns) (hl : ns.length ≤ sizeLine) (hr : Room k callerA)
    (F : ∀ bs : Heap, K.In bs → bs.Ns mainGlobals mg → (∀ q ∈ cs, LamX.TabB bs mg q.1 q.2) → GOk P w K mg bs k fa fd [x] sp)
    (hbind : ∀ (s : Shared) (u : Value), BindsTo s fd ⟨[u], []⟩ [(x, u)])
    (hsp : ∀ H : Hp, (∀ q ∈ cs, H q.2 = some (.tbl #[])) → SqL K H a (ns.map V.int) → sp [.ref a] H (fun v _ => v = .bl true) E0) :
    codeAny (model P w) callerA (.call (.ref fa) ⟨[.ref a], []⟩) (fun r s' => r = .ok (.ret (.bool true)) ∧ (OldK s₁.heap s'.heap ∧ s'.os = s₁.os ∧ AllBare s'.gens)) s₁ := by
  have an : ¬ ∃ q ∈ cs, a = q.2 := fun ⟨q, hq, e⟩ => by
    have z := M.tab q hq
    rw [← e, M.scr] at z
    cases z
  have lv := hi.length
  have lm : (ns.map V.int).length ≤ sizeLine := by
    rw [List.length_map]
    exact hl
  have T1 : ∀ q ∈ cs, startH K cs a vs ns q.2 = some (.tbl #[]) := fun q hq => if_pos ⟨q, hq, rfl⟩
  have A1 : K.lookup a = none → startH K cs a vs ns a = some (.frz (scrO vs) (.lst (ns.map V.int))) := fun z => (if_neg an).trans (if_pos ⟨rfl, z⟩)
  have A2 : K.lookup a ≠ none → startH K cs a vs ns a = none := fun z => (if_neg an).trans (if_neg fun y => z y.2)
  have N1 : ∀ b, ¬ (∃ q ∈ cs, b = q.2) → b ≠ a → startH K cs a vs ns b = none := fun b h1 h2 => (if_neg h1).trans (if_neg fun y => h2 y.1)
  have S : StartT K cs a (startH K cs a vs ns) := by
    refine ⟨fun b => ?_, T1, ?_⟩
    · by_cases h1 : ∃ q ∈ cs, b = q.2
      · exact .inr (.inl h1)
      · by_cases h2 : b = a
        · exact .inr (.inr h2)
        · exact .inl (N1 b h1 h2)
    · by_cases h1 : K.lookup a = none
      · exact .inr ⟨h1, _, _, A1 h1⟩
      · exact .inl (A2 h1)
  refine gt_core M S hg hr F hbind (fun b u z => ?_) (hsp _ T1 ?_)
  · by_cases h1 : ∃ q ∈ cs, b = q.2
    · obtain ⟨q, hq, rfl⟩ := h1
      rw [T1 q hq] at z
      cases z
      exact M.tab q hq
    · by_cases h2 : b = a
      · subst h2
        by_cases h3 : K.lookup b = none
        · rw [A1 h3] at z
          cases z
          exact ⟨M.scr, lm, vs, _, vals_ints hi, M.scr⟩
        · rw [A2 h3] at z
          cases z
      · rw [N1 b h1 h2] at z
        cases z
  · cases hk : K.lookup a with
    | none => exact .inl (.inr ⟨_, A1 hk⟩)
    | some o =>
      have e := (M.kin a o hk).symm.trans M.scr
      cases e
      exact .inr ⟨_, vs.toArray, _, hk, rfl, rfl, rfl, by rw [List.size_toArray, lv]; exact hl, by simpa using vals_ints hi⟩
/-- what is known of a law that shows things, at the head's heap -/
def LawAtG (l : PySem.W.OpenLaw) (w : World) (K : PySem.W.Frag) (k n : Nat) (x : Str) (mg : Str → Option Value) (fa : Addr) (h : Heap) : Prop :=
  ∃ (fd : FuncData) (cs : List (Addr × Addr)) (sp : Sp), ((∀ q ∈ cs, h.get? q.2 = some tabO) ∧ (∀ q ∈ cs, K.lookup q.2 = none) ∧ ∀ q ∈ cs, PySem.W.CodeHd h q.1 q.2) ∧ (∀ (s : Shared) (u : Value), BindsTo s fd ⟨[u], []⟩ [(x, u)]) ∧
    (∀ (H : Hp) (a : Addr) (ns : List Int), ns.length ≤ n → (∀ q ∈ cs, H q.2 = some (.tbl #[])) → SqL K H a (ns.map V.int) → sp [.ref a] H (fun v _ => v = .bl true) E0) ∧
    ∀ bs : Heap, K.In bs → bs.Ns mainGlobals mg → (∀ q ∈ cs, LamX.TabB bs mg q.1 q.2) → GOk l.prog w K mg bs k fa fd [x] sp
theorem gt_walk {l : PySem.W.OpenLaw} {n : Nat} {q : Program} {loose : List Str} {XP : (Str → Option Value) → Heap → Prop} {YP : World → Heap → Prop} {d : DefRec} {KK : Params → PySem.W.Frag} (hn : l.most = some n) (hn2 : n ≤ sizeLine) (hdf : d.params.defaults = []) (hr : Room k callerA)
    (hY : ∀ (w : World) (h : Heap), YP w h → (KK w.params).In h) (F : ∀ (w : World) (mg : Str → Option Value) (fa : Addr) (h : Heap), YP w h → (KK w.params).In h → h.Ns mainGlobals mg → mg d.name = some (.ref fa) → LawAtG l w (KK w.params) k n x mg fa h) :
    PySem.W.WalkO q loose XP YP l.row.toRowW d [] (fun f vs => PySem.call f vs) := by
  refine Att.attach_call hn hdf fun w s₀ s₁ mg mb fa o pm cd doc a vs ns G Y ho hd hcd hmg hobj hints hlen hg => ?_
  obtain ⟨fd, cs, sp, ⟨t1, t2, t3⟩, hb, hsp, hF⟩ := F w mg fa _ Y (hY w _ Y) G.T.g hmg
  exact gt_call ⟨hY w _ Y, G.T.g, G.T.b, G.T.builtins, G.T.nolimit, t1, t2, t3, G.T.bmain, hobj⟩ hg hints (Nat.le_trans hlen hn2) hr hF hb fun H hT hS => hsp H a ns hlen hT hS
end
end AA

set_option Elab.async false
set_option linter.all false
set_option maxRecDepth 100000
set_option maxHeartbeats 4000000
/-! All that stands behind the top. -/
namespace AA
open PySem PySem.Spec PyProof.Rows L2 Evl
/-- a def of the module as it stands behind the top -/
structure GFn (K : PySem.W.Frag) (x : Str) (st : Stmt) (f : Addr) (fd : FuncData) : Prop where
  a : PySem.W.nsIn K mainGlobals x = some (some (.ref f))
  F : L2.Fun K x x st f fd
theorem gfn {K : PySem.W.Frag} {x : Str} {st : Stmt} {f : Addr} {oc : Value} {od an : Option Addr} {osl : Array (Option Value)} {kV doc pm cdv ct : Value} (a : PySem.W.nsIn K mainGlobals x = some (some (.ref f)))
    (l : K.lookup f = some ⟨oc, od, .func (PySem.W.fnOf x x (defArgs st) (defBody st) (defScope st) .none kV doc pm an cdv ct), osl⟩) (c : PySem.W.codeIn K cdv x = true) (k : PySem.W.keepIn K (.ref f) = true) : ∃ f fd, GFn K x st f fd := ⟨_, _, a, fun_mk (st := st) l c k⟩
theorem gfnc {K : PySem.W.Frag} {x : Str} {st : Stmt} {f : Addr} {od an : Option Addr} {osl : Array (Option Value)} {kV doc pm cdv ct : Value} (a : PySem.W.nsIn K mainGlobals x = some (some (.ref f)))
    (l : K.lookup f = some ⟨.type "function", od, .func (PySem.W.fnOf x x (defArgs st) (defBody st) (defScope st) .none kV doc pm an cdv ct), osl⟩) (c : PySem.W.codeIn K cdv x = true) (k : PySem.W.keepIn K (.ref f) = true) : ∃ f fd, GFn K x st f fd ∧ FnV K f := ⟨_, _, ⟨a, fun_mk (st := st) l c k⟩, _, _, _, l⟩
structure MFn (K : PySem.W.Frag) (C : Addr) (x q : Str) (st : Stmt) (f : Addr) (fd : FuncData) : Prop where
  a : PySem.W.findIn K (.ref C) x = some (some (.ref f))
  i : PySem.W.isFn K (.ref f) = true
  F : L2.Fun K x q st f fd
theorem mfn {K : PySem.W.Frag} {C : Addr} {x q : Str} {st : Stmt} {f : Addr} {oc : Value} {od an : Option Addr} {osl : Array (Option Value)} {kV doc pm cdv ct : Value} (a : PySem.W.findIn K (.ref C) x = some (some (.ref f))) (i : PySem.W.isFn K (.ref f) = true)
    (l : K.lookup f = some ⟨oc, od, .func (PySem.W.fnOf x q (defArgs st) (defBody st) (defScope st) .none kV doc pm an cdv ct), osl⟩) (c : PySem.W.codeIn K cdv q = true) (k : PySem.W.keepIn K (.ref f) = true) : ∃ f fd, MFn K C x q st f fd := ⟨_, _, a, i, fun_mk (st := st) l c k⟩
structure BnK (K : PySem.W.Frag) : Prop where
  abs : PySem.W.nsIn K mainGlobals "abs" = some none
  int : PySem.W.nsIn K mainGlobals "int" = some none
  len : PySem.W.nsIn K mainGlobals "len" = some none
  list : PySem.W.nsIn K mainGlobals "list" = some none
  tuple : PySem.W.nsIn K mainGlobals "tuple" = some none
  dict : PySem.W.nsIn K mainGlobals "dict" = some none
  bool : PySem.W.nsIn K mainGlobals "bool" = some none
  range : PySem.W.nsIn K mainGlobals "range" = some none
  enumerate : PySem.W.nsIn K mainGlobals "enumerate" = some none
  isinstance : PySem.W.nsIn K mainGlobals "isinstance" = some none
  all : PySem.W.nsIn K mainGlobals "all" = some none
  zip : PySem.W.nsIn K mainGlobals "zip" = some none
  sorted : PySem.W.nsIn K mainGlobals "sorted" = some none
  max : PySem.W.nsIn K mainGlobals "max" = some none
  sum : PySem.W.nsIn K mainGlobals "sum" = some none
  repr : PySem.W.nsIn K mainGlobals "repr" = some none
  min : PySem.W.nsIn K mainGlobals "min" = some none
  st : PySem.W.nsIn K mainGlobals "set" = some none
  rev : PySem.W.nsIn K mainGlobals "reversed" = some none
/-- what stands of a class of the program -/
structure ClsK (K : PySem.W.Frag) (C : Addr) (nm : Str) : Prop where
  aC : PySem.W.nsIn K mainGlobals nm = some (some (.ref C))
  pg : PySem.W.plainGet K C Str.empty = true
  hd : PySem.W.hasDictIn K C = true
  po : PySem.W.plainOver K C = true
  sa : PySem.W.findIn K (.ref C) "__setattr__" = some (some (.builtin "object.__setattr__"))
  mkc : PySem.W.makesIn K C = true
  kc : PySem.W.keepIn K (.ref C) = true
  ha : PySem.W.findIn K (.ref C) "__class__" = some (some (.builtin "object.__class__"))
  hn : PySem.W.specialIn K (.builtin "object.__class__") "__get__" = some (some (.builtin "getset_descriptor.__get__"))
  ht : PySem.W.takesIn K (.builtin "object.__class__") = some true
  hm : PySem.W.mroIn K C (.type "object") = some true
  n1 : PySem.W.kitAny K (.ref C) [.type "list", .type "tuple"] = some false
  n2 : PySem.W.kitOne K (.ref C) (.type "dict") = some false
  n3 : PySem.W.kitOne K (.ref C) (.type "bool") = some false
  n4 : PySem.W.kitAny K (.ref C) [.type "list", .type "tuple", .type "dict"] = some false
  cc : PySem.W.kitOne K (.ref C) (.ref C) = some true
  ne : PySem.W.findIn K (.ref C) "__ne__" = some (some (.builtin "object.__ne__"))
  ni : PySem.W.kitOne K (.ref C) (.type "int") = some false
structure WebN (K : PySem.W.Frag) (C : Addr) : Prop where
  nP : PySem.W.findIn K (.ref C) "_places" = some none
  nS : PySem.W.findIn K (.ref C) "_steps" = some none
  nK : PySem.W.findIn K (.ref C) "known" = some none
structure BadK (K : PySem.W.Frag) (x m : Str) (CB fI : Addr) : Prop where
  gC : PySem.W.nsIn K mainGlobals x = some (some (.ref CB))
  ox : OexC K CB
  xf : XfC K CB
  no : PySem.W.findIn K (.ref CB) m = some none
  tC : PySem.W.typeIn K (.ref fI) = some (.type "function")
/-- a def that makes lambdas -/
structure LFn (K : PySem.W.Frag) (x : Str) (st : Stmt) (f : Addr) (fd : FuncData) (c PT : Addr) : Prop where
  a : PySem.W.nsIn K mainGlobals x = some (some (.ref f))
  L : FunC K x st f fd c
  F : L2.Fun K x x st f fd
  hd : PySem.W.codeHdIn K c PT = true
theorem lfn {K : PySem.W.Frag} {x : Str} {st : Stmt} {f c PT : Addr} {oc : Value} {od an : Option Addr} {osl : Array (Option Value)} {kV doc pm ct : Value} (a : PySem.W.nsIn K mainGlobals x = some (some (.ref f)))
    (l : K.lookup f = some ⟨oc, od, .func (PySem.W.fnOf x x (defArgs st) (defBody st) (defScope st) .none kV doc pm an (.ref c) ct), osl⟩) (hc : PySem.W.codeIn K (.ref c) x = true) (k : PySem.W.keepIn K (.ref f) = true) (hd : PySem.W.codeHdIn K c PT = true) :
    ∃ f fd c, LFn K x st f fd c PT := ⟨_, _, _, a, ⟨⟨_, _, _, _, _, _, _, _, rfl, l, hc⟩, k⟩, fun_mk (st := st) l hc k, hd⟩
/-- less is promised than is kept -/
theorem fn_imp {P : Program} {w : World} {K : PySem.W.Frag} {mg : Str → Option Value} {base : Heap} {CX : CXT} {k : Nat} {f : Addr} {fd : FuncData} {ps : List Str} {sp sp' : Sp} (G : FnOk P w K mg base CX k f fd ps sp) (h : ∀ vs H Q E, sp' vs H Q E → sp vs H Q E) : FnOk P w K mg base CX k f fd ps sp' :=
  ⟨fun vs H Q E z => G.len vs H Q E (h _ _ _ _ z), fun A outer s H args us vs Q E hr e0 hb r z => G.run A outer s H args us vs Q E hr e0 hb r (h _ _ _ _ z)⟩
theorem eq_web {P : Program} {w : World} {K : PySem.W.Frag} {mg : Str → Option Value} {base : Heap} {f C : Addr} {fd : FuncData} (GE : FnOk P w K mg base CX0 1 f fd ["self", "other"] (spEqV K C)) : FnOk P w K mg base CX0 2 f fd ["self", "other"] (spEq (WbR K C)) :=
  fn_imp (GE.mono (by decide)) fun vs H Q E h => by
    obtain ⟨a, b, rfl, ⟨rfl, n, ss, hp⟩, k⟩ := h
    refine ⟨a, .ref a, n, ss, rfl, hp, .inr ⟨a, n, ss, rfl, hp, fun H' e => ?_⟩⟩
    rw [decide_eq_true (rfl : n = n), decide_eq_true (rfl : ss = ss)]
    exact k H' e
theorem all_mk {l : PySem.W.OpenLaw} {w : World} {K : PySem.W.Frag} {h : Heap} {mg : Str → Option Value} {fa C CP CS CD CY P1 : Addr} (X : K.In h) (G : h.Ns mainGlobals mg) (hfa : mg "law" = some (.ref fa)) (t1 : h.get? P1 = some { cls := .none, data := .fields #[] }) (n1 : K.lookup P1 = none)
    (bk : BnK K) (cw : ClsK K C "Web") (wn : WebN K C) (ex : ExmK K CD CY)
    (hsIsInteger : ∃ f fd, GFn K "is_integer" sIsInteger f fd)
    (hsIsNumber : ∃ f fd, GFn K "is_number" sIsNumber f fd)
    (hsIsList : ∃ f fd, GFn K "is_list" sIsList f fd)
    (hsCheckPlace : ∃ f fd, GFn K "check_place" sCheckPlace f fd)
    (hsCheckStock : ∃ f fd, GFn K "check_stock" sCheckStock f fd)
    (hsLeaving : ∃ f fd, GFn K "leaving" sLeaving f fd)
    (hsSpread : ∃ f fd, GFn K "spread" sSpread f fd)
    (hsComeTo : ∃ f fd, GFn K "come_to" sComeTo f fd)
    (hsLeftLast : ∃ f fd, GFn K "left_last" sLeftLast f fd)
    (hsTogether : ∃ f fd, GFn K "together_of" sTogether f fd)
    (hsComeBack : ∃ f fd, GFn K "come_back" sComeBack f fd)
    (hsLotsOf : ∃ f fd, GFn K "lots_of" sLotsOf f fd)
    (hsRingBack : ∃ f fd, GFn K "ring_back" sRingBack f fd)
    (hsLotsKnown : ∃ f fd, GFn K "lots_known" sLotsKnown f fd)
    (hsRaised : ∃ f fd, GFn K "raised" sRaised f fd)
    (hsMostStocks : ∃ f fd, GFn K "most_stocks" sMostStocks f fd)
    (hsReadStep : ∃ f fd, GFn K "read_step" sReadStep f fd)
    (hsReadSteps : ∃ f fd, GFn K "read_steps" sReadSteps f fd)
    (hsComesBack : ∃ f fd, GFn K "comes_back" sComesBack f fd)
    (hsNeedsOf : ∃ f fd, GFn K "needs_of" sNeedsOf f fd)
    (hsNeedsOn : ∃ f fd, GFn K "needs_on" sNeedsOn f fd)
    (hsSafeStep : ∃ f fd, GFn K "safe_step" sSafeStep f fd)
    (hsWayOn : ∃ f fd, GFn K "way_on" sWayOn f fd)
    (hsStream : ∃ f fd, GFn K "_law_stream" sStream f fd)
    (hsDraw : ∃ f fd, GFn K "_law_draw" sDraw f fd)
    (hsPick : ∃ f fd, GFn K "_law_pick" sPick f fd ∧ FnV K f)
    (hsMixed : ∃ f fd, GFn K "_law_mixed" sMixed f fd)
    (hsSame : ∃ f fd, GFn K "_law_same" sSame f fd)
    (hsLoose : ∃ f fd, GFn K "_law_loose" sLoose f fd)
    (hsAmounts : ∃ f fd, GFn K "_law_amounts" sAmounts f fd)
    (hsStep : ∃ f fd, GFn K "_law_step" sStep f fd)
    (hsWeb : ∃ f fd, GFn K "_law_web" sWeb f fd)
    (hsLCanGo : ∃ f fd, GFn K "_law_can_go" sLCanGo f fd)
    (hsLNeed : ∃ f fd, GFn K "_law_need" sLNeed f fd)
    (hsLLassos : ∃ f fd, GFn K "_law_lassos" sLLassos f fd)
    (hsLLeast : ∃ f fd, GFn K "_law_least" sLLeast f fd)
    (hsLIsWay : ∃ f fd, GFn K "_law_is_way" sLIsWay f fd)
    (hsLMet : ∃ f fd, GFn K "_law_met" sLMet f fd)
    (hsLStockRight : ∃ f fd, GFn K "_law_stock_right" sLStockRight f fd)
    (hLW : ∃ f fd c, LFn K "law" sLaw f fd c P1)
    (h_wi : ∃ f fd, MFn K C "__init__" "Web.__init__" sWebInit f fd)
    (h_wp : ∃ f fd, MFn K C "places" "Web.places" sWebPlaces f fd)
    (h_ws : ∃ f fd, MFn K C "steps" "Web.steps" sWebSteps f fd)
    (h_we : ∃ f fd, MFn K C "__eq__" "Web.__eq__" sWebEq f fd)
    (h_bp : ∃ f fd, MFn K CP "__init__" "BadPlaces.__init__" sBadPlInit f fd ∧ BadK K "BadPlaces" "places" CP f)
    (h_bs : ∃ f fd, MFn K CS "__init__" "BadSteps.__init__" sBadStInit f fd ∧ BadK K "BadSteps" "index" CS f)
    (h_bc : ∃ f fd, MFn K CD "__init__" "BadPlace.__init__" sBadPcInit f fd ∧ BadK K "BadPlace" "place" CD f)
    (h_bk : ∃ f fd, MFn K CY "__init__" "BadStock.__init__" sBadSkInit f fd ∧ BadK K "BadStock" "stock" CY f)
    : LawAtG l w K 12 63 "_law_script" mg fa h := by
  obtain ⟨f_sIsInteger, d_sIsInteger, g_sIsInteger⟩ := hsIsInteger
  have m_sIsInteger := PySem.W.mg_of X G g_sIsInteger.a
  have b_sIsInteger : Binds K d_sIsInteger ["thing"] [] := g_sIsInteger.F.binds fun _ _ _ _ _ _ us hl => match us, hl with | [_], _ => rfl
  obtain ⟨f_sIsNumber, d_sIsNumber, g_sIsNumber⟩ := hsIsNumber
  have m_sIsNumber := PySem.W.mg_of X G g_sIsNumber.a
  have b_sIsNumber : Binds K d_sIsNumber ["thing"] [] := g_sIsNumber.F.binds fun _ _ _ _ _ _ us hl => match us, hl with | [_], _ => rfl
  obtain ⟨f_sIsList, d_sIsList, g_sIsList⟩ := hsIsList
  have m_sIsList := PySem.W.mg_of X G g_sIsList.a
  have b_sIsList : Binds K d_sIsList ["thing"] [] := g_sIsList.F.binds fun _ _ _ _ _ _ us hl => match us, hl with | [_], _ => rfl
  obtain ⟨f_sCheckPlace, d_sCheckPlace, g_sCheckPlace⟩ := hsCheckPlace
  have m_sCheckPlace := PySem.W.mg_of X G g_sCheckPlace.a
  have b_sCheckPlace : Binds K d_sCheckPlace ["web", "place"] [] := g_sCheckPlace.F.binds fun _ _ _ _ _ _ us hl => match us, hl with | [_, _], _ => rfl
  obtain ⟨f_sCheckStock, d_sCheckStock, g_sCheckStock⟩ := hsCheckStock
  have m_sCheckStock := PySem.W.mg_of X G g_sCheckStock.a
  have b_sCheckStock : Binds K d_sCheckStock ["stock"] [] := g_sCheckStock.F.binds fun _ _ _ _ _ _ us hl => match us, hl with | [_], _ => rfl
  obtain ⟨f_sLeaving, d_sLeaving, g_sLeaving⟩ := hsLeaving
  have m_sLeaving := PySem.W.mg_of X G g_sLeaving.a
  have b_sLeaving : Binds K d_sLeaving ["steps"] [] := g_sLeaving.F.binds fun _ _ _ _ _ _ us hl => match us, hl with | [_], _ => rfl
  obtain ⟨f_sSpread, d_sSpread, g_sSpread⟩ := hsSpread
  have m_sSpread := PySem.W.mg_of X G g_sSpread.a
  have b_sSpread : Binds K d_sSpread ["neighbours", "starts"] [] := g_sSpread.F.binds fun _ _ _ _ _ _ us hl => match us, hl with | [_, _], _ => rfl
  obtain ⟨f_sComeTo, d_sComeTo, g_sComeTo⟩ := hsComeTo
  have m_sComeTo := PySem.W.mg_of X G g_sComeTo.a
  have b_sComeTo : Binds K d_sComeTo ["steps", "starts"] [] := g_sComeTo.F.binds fun _ _ _ _ _ _ us hl => match us, hl with | [_, _], _ => rfl
  obtain ⟨f_sLeftLast, d_sLeftLast, g_sLeftLast⟩ := hsLeftLast
  have m_sLeftLast := PySem.W.mg_of X G g_sLeftLast.a
  have b_sLeftLast : Binds K d_sLeftLast ["ahead", "starts"] [] := g_sLeftLast.F.binds fun _ _ _ _ _ _ us hl => match us, hl with | [_, _], _ => rfl
  obtain ⟨f_sTogether, d_sTogether, g_sTogether⟩ := hsTogether
  have m_sTogether := PySem.W.mg_of X G g_sTogether.a
  have b_sTogether : Binds K d_sTogether ["steps"] [] := g_sTogether.F.binds fun _ _ _ _ _ _ us hl => match us, hl with | [_], _ => rfl
  obtain ⟨f_sComeBack, d_sComeBack, g_sComeBack⟩ := hsComeBack
  have m_sComeBack := PySem.W.mg_of X G g_sComeBack.a
  have b_sComeBack : Binds K d_sComeBack ["back", "start", "taken"] [] := g_sComeBack.F.binds fun _ _ _ _ _ _ us hl => match us, hl with | [_, _, _], _ => rfl
  obtain ⟨f_sLotsOf, d_sLotsOf, g_sLotsOf⟩ := hsLotsOf
  have m_sLotsOf := PySem.W.mg_of X G g_sLotsOf.a
  have b_sLotsOf : Binds K d_sLotsOf ["steps"] [] := g_sLotsOf.F.binds fun _ _ _ _ _ _ us hl => match us, hl with | [_], _ => rfl
  obtain ⟨f_sRingBack, d_sRingBack, g_sRingBack⟩ := hsRingBack
  have m_sRingBack := PySem.W.mg_of X G g_sRingBack.a
  have b_sRingBack : Binds K d_sRingBack ["came", "place"] [] := g_sRingBack.F.binds fun _ _ _ _ _ _ us hl => match us, hl with | [_, _], _ => rfl
  obtain ⟨f_sLotsKnown, d_sLotsKnown, g_sLotsKnown⟩ := hsLotsKnown
  have m_sLotsKnown := PySem.W.mg_of X G g_sLotsKnown.a
  have b_sLotsKnown : Binds K d_sLotsKnown ["web"] [] := g_sLotsKnown.F.binds fun _ _ _ _ _ _ us hl => match us, hl with | [_], _ => rfl
  obtain ⟨f_sRaised, d_sRaised, g_sRaised⟩ := hsRaised
  have m_sRaised := PySem.W.mg_of X G g_sRaised.a
  have b_sRaised : Binds K d_sRaised ["steps", "most", "came"] [] := g_sRaised.F.binds fun _ _ _ _ _ _ us hl => match us, hl with | [_, _, _], _ => rfl
  obtain ⟨f_sMostStocks, d_sMostStocks, g_sMostStocks⟩ := hsMostStocks
  have m_sMostStocks := PySem.W.mg_of X G g_sMostStocks.a
  have b_sMostStocks : Binds K d_sMostStocks ["steps", "place", "stock"] [] := g_sMostStocks.F.binds fun _ _ _ _ _ _ us hl => match us, hl with | [_, _, _], _ => rfl
  obtain ⟨f_sReadStep, d_sReadStep, g_sReadStep⟩ := hsReadStep
  have m_sReadStep := PySem.W.mg_of X G g_sReadStep.a
  have b_sReadStep : Binds K d_sReadStep ["places", "thing"] [] := g_sReadStep.F.binds fun _ _ _ _ _ _ us hl => match us, hl with | [_, _], _ => rfl
  obtain ⟨f_sReadSteps, d_sReadSteps, g_sReadSteps⟩ := hsReadSteps
  have m_sReadSteps := PySem.W.mg_of X G g_sReadSteps.a
  have b_sReadSteps : Binds K d_sReadSteps ["places", "things"] [] := g_sReadSteps.F.binds fun _ _ _ _ _ _ us hl => match us, hl with | [_, _], _ => rfl
  obtain ⟨f_sComesBack, d_sComesBack, g_sComesBack⟩ := hsComesBack
  have m_sComesBack := PySem.W.mg_of X G g_sComesBack.a
  have b_sComesBack : Binds K d_sComesBack ["steps", "place"] [] := g_sComesBack.F.binds fun _ _ _ _ _ _ us hl => match us, hl with | [_, _], _ => rfl
  obtain ⟨f_sNeedsOf, d_sNeedsOf, g_sNeedsOf⟩ := hsNeedsOf
  have m_sNeedsOf := PySem.W.mg_of X G g_sNeedsOf.a
  have b_sNeedsOf : Binds K d_sNeedsOf ["web"] [] := g_sNeedsOf.F.binds fun _ _ _ _ _ _ us hl => match us, hl with | [_], _ => rfl
  obtain ⟨f_sNeedsOn, d_sNeedsOn, g_sNeedsOn⟩ := hsNeedsOn
  have m_sNeedsOn := PySem.W.mg_of X G g_sNeedsOn.a
  have b_sNeedsOn : Binds K d_sNeedsOn ["web"] [] := g_sNeedsOn.F.binds fun _ _ _ _ _ _ us hl => match us, hl with | [_], _ => rfl
  obtain ⟨f_sSafeStep, d_sSafeStep, g_sSafeStep⟩ := hsSafeStep
  have m_sSafeStep := PySem.W.mg_of X G g_sSafeStep.a
  have b_sSafeStep : Binds K d_sSafeStep ["needs", "steps"] [] := g_sSafeStep.F.binds fun _ _ _ _ _ _ us hl => match us, hl with | [_, _], _ => rfl
  obtain ⟨f_sWayOn, d_sWayOn, g_sWayOn⟩ := hsWayOn
  have m_sWayOn := PySem.W.mg_of X G g_sWayOn.a
  have b_sWayOn : Binds K d_sWayOn ["web", "place", "stock"] [] := g_sWayOn.F.binds fun _ _ _ _ _ _ us hl => match us, hl with | [_, _, _], _ => rfl
  obtain ⟨f_sStream, d_sStream, g_sStream⟩ := hsStream
  have m_sStream := PySem.W.mg_of X G g_sStream.a
  have b_sStream : Binds K d_sStream ["_law_script"] [] := g_sStream.F.binds fun _ _ _ _ _ _ us hl => match us, hl with | [_], _ => rfl
  obtain ⟨f_sDraw, d_sDraw, g_sDraw⟩ := hsDraw
  have m_sDraw := PySem.W.mg_of X G g_sDraw.a
  have b_sDraw : Binds K d_sDraw ["_law_stream_here", "_law_many"] [] := g_sDraw.F.binds fun _ _ _ _ _ _ us hl => match us, hl with | [_, _], _ => rfl
  obtain ⟨f_sPick, d_sPick, g_sPick, vP⟩ := hsPick
  have m_sPick := PySem.W.mg_of X G g_sPick.a
  have b_sPick : Binds K d_sPick ["_law_stream_here", "_law_things"] [] := g_sPick.F.binds fun _ _ _ _ _ _ us hl => match us, hl with | [_, _], _ => rfl
  obtain ⟨f_sMixed, d_sMixed, g_sMixed⟩ := hsMixed
  have m_sMixed := PySem.W.mg_of X G g_sMixed.a
  have b_sMixed : Binds K d_sMixed ["_law_stream_here", "_law_things"] [] := g_sMixed.F.binds fun _ _ _ _ _ _ us hl => match us, hl with | [_, _], _ => rfl
  obtain ⟨f_sSame, d_sSame, g_sSame⟩ := hsSame
  have m_sSame := PySem.W.mg_of X G g_sSame.a
  have b_sSame : Binds K d_sSame ["_law_found", "_law_due"] [] := g_sSame.F.binds fun _ _ _ _ _ _ us hl => match us, hl with | [_, _], _ => rfl
  obtain ⟨f_sLoose, d_sLoose, g_sLoose⟩ := hsLoose
  have m_sLoose := PySem.W.mg_of X G g_sLoose.a
  have b_sLoose : Binds K d_sLoose ["_law_stream_here", "_law_thing"] [] := g_sLoose.F.binds fun _ _ _ _ _ _ us hl => match us, hl with | [_, _], _ => rfl
  obtain ⟨f_sAmounts, d_sAmounts, g_sAmounts⟩ := hsAmounts
  have m_sAmounts := PySem.W.mg_of X G g_sAmounts.a
  have b_sAmounts : Binds K d_sAmounts ["_law_stream_here", "_law_way"] [] := g_sAmounts.F.binds fun _ _ _ _ _ _ us hl => match us, hl with | [_, _], _ => rfl
  obtain ⟨f_sStep, d_sStep, g_sStep⟩ := hsStep
  have m_sStep := PySem.W.mg_of X G g_sStep.a
  have b_sStep : Binds K d_sStep ["_law_stream_here", "_law_one", "_law_other", "_law_way"] [] := g_sStep.F.binds fun _ _ _ _ _ _ us hl => match us, hl with | [_, _, _, _], _ => rfl
  obtain ⟨f_sWeb, d_sWeb, g_sWeb⟩ := hsWeb
  have m_sWeb := PySem.W.mg_of X G g_sWeb.a
  have b_sWeb : Binds K d_sWeb ["_law_stream_here", "_law_most", "_law_many"] [] := g_sWeb.F.binds fun _ _ _ _ _ _ us hl => match us, hl with | [_, _, _], _ => rfl
  obtain ⟨f_sLCanGo, d_sLCanGo, g_sLCanGo⟩ := hsLCanGo
  have m_sLCanGo := PySem.W.mg_of X G g_sLCanGo.a
  have b_sLCanGo : Binds K d_sLCanGo ["_law_walk", "_law_stock"] [] := g_sLCanGo.F.binds fun _ _ _ _ _ _ us hl => match us, hl with | [_, _], _ => rfl
  obtain ⟨f_sLNeed, d_sLNeed, g_sLNeed⟩ := hsLNeed
  have m_sLNeed := PySem.W.mg_of X G g_sLNeed.a
  have b_sLNeed : Binds K d_sLNeed ["_law_walk"] [] := g_sLNeed.F.binds fun _ _ _ _ _ _ us hl => match us, hl with | [_], _ => rfl
  obtain ⟨f_sLLassos, d_sLLassos, g_sLLassos⟩ := hsLLassos
  have m_sLLassos := PySem.W.mg_of X G g_sLLassos.a
  have b_sLLassos : Binds K d_sLLassos ["_law_steps", "_law_place"] [] := g_sLLassos.F.binds fun _ _ _ _ _ _ us hl => match us, hl with | [_, _], _ => rfl
  obtain ⟨f_sLLeast, d_sLLeast, g_sLLeast⟩ := hsLLeast
  have m_sLLeast := PySem.W.mg_of X G g_sLLeast.a
  have b_sLLeast : Binds K d_sLLeast ["_law_steps", "_law_place"] [] := g_sLLeast.F.binds fun _ _ _ _ _ _ us hl => match us, hl with | [_, _], _ => rfl
  obtain ⟨f_sLIsWay, d_sLIsWay, g_sLIsWay⟩ := hsLIsWay
  have m_sLIsWay := PySem.W.mg_of X G g_sLIsWay.a
  have b_sLIsWay : Binds K d_sLIsWay ["_law_steps", "_law_place", "_law_stock", "_law_told"] [] := g_sLIsWay.F.binds fun _ _ _ _ _ _ us hl => match us, hl with | [_, _, _, _], _ => rfl
  obtain ⟨f_sLMet, d_sLMet, g_sLMet⟩ := hsLMet
  have m_sLMet := PySem.W.mg_of X G g_sLMet.a
  have b_sLMet : Binds K d_sLMet ["_law_ask"] [] := g_sLMet.F.binds fun _ _ _ _ _ _ us hl => match us, hl with | [_], _ => rfl
  obtain ⟨f_sLStockRight, d_sLStockRight, g_sLStockRight⟩ := hsLStockRight
  have m_sLStockRight := PySem.W.mg_of X G g_sLStockRight.a
  have b_sLStockRight : Binds K d_sLStockRight ["_law_web_here", "_law_twin", "_law_steps", "_law_place", "_law_stock", "_law_least_here"] [] := g_sLStockRight.F.binds fun _ _ _ _ _ _ us hl => match us, hl with | [_, _, _, _, _, _], _ => rfl
  obtain ⟨f_LW, d_LW, c1, g_LW⟩ := hLW
  have m_LW := PySem.W.mg_of X G g_LW.a
  obtain ⟨f_wi, d_wi, g_wi⟩ := h_wi
  have b_wi : Binds K d_wi ["self", "places", "steps"] [] := g_wi.F.binds fun _ _ _ _ _ _ us hl => match us, hl with | [_, _, _], _ => rfl
  obtain ⟨f_wp, d_wp, g_wp⟩ := h_wp
  have b_wp : Binds K d_wp ["self"] [] := g_wp.F.binds fun _ _ _ _ _ _ us hl => match us, hl with | [_], _ => rfl
  obtain ⟨f_ws, d_ws, g_ws⟩ := h_ws
  have b_ws : Binds K d_ws ["self"] [] := g_ws.F.binds fun _ _ _ _ _ _ us hl => match us, hl with | [_], _ => rfl
  obtain ⟨f_we, d_we, g_we⟩ := h_we
  have b_we : Binds K d_we ["self", "other"] [] := g_we.F.binds fun _ _ _ _ _ _ us hl => match us, hl with | [_, _], _ => rfl
  obtain ⟨f_bp, d_bp, g_bp, k_bp⟩ := h_bp
  have b_bp : Binds K d_bp ["self", "places"] [] := g_bp.F.binds fun _ _ _ _ _ _ us hl => match us, hl with | [_, _], _ => rfl
  have T_bp : ExT K mg "BadPlaces" "places" CP f_bp := ⟨k_bp.ox, k_bp.xf, k_bp.no, PySem.W.mg_of X G k_bp.gC, g_bp.a, k_bp.tC⟩
  obtain ⟨f_bs, d_bs, g_bs, k_bs⟩ := h_bs
  have b_bs : Binds K d_bs ["self", "index"] [] := g_bs.F.binds fun _ _ _ _ _ _ us hl => match us, hl with | [_, _], _ => rfl
  have T_bs : ExT K mg "BadSteps" "index" CS f_bs := ⟨k_bs.ox, k_bs.xf, k_bs.no, PySem.W.mg_of X G k_bs.gC, g_bs.a, k_bs.tC⟩
  obtain ⟨f_bc, d_bc, g_bc, k_bc⟩ := h_bc
  have b_bc : Binds K d_bc ["self", "place"] [] := g_bc.F.binds fun _ _ _ _ _ _ us hl => match us, hl with | [_, _], _ => rfl
  have T_bc : ExT K mg "BadPlace" "place" CD f_bc := ⟨k_bc.ox, k_bc.xf, k_bc.no, PySem.W.mg_of X G k_bc.gC, g_bc.a, k_bc.tC⟩
  obtain ⟨f_bk, d_bk, g_bk, k_bk⟩ := h_bk
  have b_bk : Binds K d_bk ["self", "stock"] [] := g_bk.F.binds fun _ _ _ _ _ _ us hl => match us, hl with | [_, _], _ => rfl
  have T_bk : ExT K mg "BadStock" "stock" CY f_bk := ⟨k_bk.ox, k_bk.xf, k_bk.no, PySem.W.mg_of X G k_bk.gC, g_bk.a, k_bk.tC⟩
  have e := hfa.symm.trans m_LW
  cases e
  have B : Bn mg := { abs := PySem.W.mg_none_of X G bk.abs, int := PySem.W.mg_none_of X G bk.int, len := PySem.W.mg_none_of X G bk.len, list := PySem.W.mg_none_of X G bk.list, tuple := PySem.W.mg_none_of X G bk.tuple, dict := PySem.W.mg_none_of X G bk.dict, bool := PySem.W.mg_none_of X G bk.bool, range := PySem.W.mg_none_of X G bk.range, enumerate := PySem.W.mg_none_of X G bk.enumerate, isinstance := PySem.W.mg_none_of X G bk.isinstance, all := PySem.W.mg_none_of X G bk.all, zip := PySem.W.mg_none_of X G bk.zip, sorted := PySem.W.mg_none_of X G bk.sorted, max := PySem.W.mg_none_of X G bk.max, sum := PySem.W.mg_none_of X G bk.sum, repr := PySem.W.mg_none_of X G bk.repr }
  have cls : Cls K C := ⟨cw.pg, cw.hd, cw.po, cw.sa⟩
  have T : WebTxt K mg C := ⟨cls, wn.nP, wn.nS, wn.nK, PySem.W.mg_of X G cw.aC⟩
  have IC : InsK K C := ⟨cls, cw.ha, cw.hn, cw.ht, cw.hm, cw.n1, cw.n2, cw.n3, cw.n4⟩
  have hmin := PySem.W.mg_none_of X G bk.min
  have hrev := PySem.W.mg_none_of X G bk.rev
  have kb_sWayOn : KBinds K d_sWayOn ["web", "place", "stock"] ["stock", "place", "web"] revK revK := by
    obtain ⟨_, _, _, _, _, _, _, _, _, eL, _, _⟩ := id g_sWayOn.F.ex
    refine { to := fun s us ws _ hl => ?_, rel := fun h k => revK_rel h k }
    cases us with
    | cons u us => exact absurd (show (0 : Nat) = 3 from hl) (by decide)
    | nil =>
      have hw : ws.length = 3 := by
        rw [← List.length_reverse]
        exact hl
      match ws, hw with
      | [w0, w1, w2], _ =>
        rw [eL]
        exact .of_eq rfl
  have bl : ∀ (s : Shared) (v : Value), BindsTo s d_LW ⟨[v], []⟩ [("_law_script", v)] := by
    obtain ⟨_, _, _, _, _, _, _, _, _, eL, _, _⟩ := id g_LW.F.ex
    intro s v
    rw [eL]
    exact .of_eq rfl
  have two : ∀ {Pr : Addr × Addr → Prop}, Pr (c1, P1) → ∀ q ∈ [(c1, P1)], Pr q := fun h1 q hq => by
    rw [List.mem_singleton.mp hq]
    exact h1
  refine ⟨d_LW, [(c1, P1)], spLaw24 K [(P1, qC)], ⟨two t1, two n1, two (PySem.W.codeHd_of_K X g_LW.hd)⟩, bl, ?_, fun base hb1 hb2 hTB => ?_⟩
  · intro H a ns hl hTab hS
    refine ⟨a, ns, rfl, hS, hl, fun p hp => ?_, fun _ => rfl⟩
    rw [List.mem_singleton.mp hp]
    exact LamX.TabS.nil (hTab (c1, P1) (by simp))
  have TB1 := hTB (c1, P1) (by simp)
  have c_sDraw := cal_of (P := l.prog) (w := w) (base := base) g_sDraw.F m_sDraw b_sDraw (ok_draw g_sDraw.F B)
  have c_sStream := cal_of (P := l.prog) (w := w) (base := base) g_sStream.F m_sStream b_sStream (ok_stream g_sStream.F B)
  have c_sPick := cal_of (P := l.prog) (w := w) (base := base) g_sPick.F m_sPick b_sPick (ok_pick g_sPick.F B c_sDraw)
  have c_sMixed := cal_of (P := l.prog) (w := w) (base := base) g_sMixed.F m_sMixed b_sMixed (ok_mixed g_sMixed.F B c_sDraw)
  have c_sAmounts := cal_of (P := l.prog) (w := w) (base := base) g_sAmounts.F m_sAmounts b_sAmounts (ok_amounts g_sAmounts.F B c_sDraw c_sPick)
  have c_sStep := cal_of (P := l.prog) (w := w) (base := base) g_sStep.F m_sStep b_sStep (ok_step g_sStep.F B c_sDraw c_sPick c_sAmounts)
  have c_sWeb := cal_of (P := l.prog) (w := w) (base := base) g_sWeb.F m_sWeb b_sWeb (ok_web g_sWeb.F B c_sDraw c_sMixed c_sStep)
  have c_sLoose := cal_of (P := l.prog) (w := w) (base := base) g_sLoose.F m_sLoose b_sLoose (ok_loose g_sLoose.F B m_sLoose b_sLoose c_sDraw 4)
  have c_sIsInteger := cal_of (P := l.prog) (w := w) (base := base) g_sIsInteger.F m_sIsInteger b_sIsInteger (ok_isIntegerV g_sIsInteger.F B)
  have c_sIsList := cal_of (P := l.prog) (w := w) (base := base) g_sIsList.F m_sIsList b_sIsList (ok_isList g_sIsList.F B)
  have c_sReadStep := cal_of (P := l.prog) (w := w) (base := base) g_sReadStep.F m_sReadStep b_sReadStep (ok_readStep g_sReadStep.F B c_sIsList)
  have GBP := ok_badPl (P := l.prog) (w := w) (base := base) g_bp.F T_bp
  have GBS := ok_badSt (P := l.prog) (w := w) (base := base) g_bs.F T_bs
  have GBC := ok_badPc (P := l.prog) (w := w) (base := base) g_bc.F T_bc
  have GBK := ok_badSk (P := l.prog) (w := w) (base := base) g_bk.F T_bk
  have GR := ok_readSteps (P := l.prog) (w := w) (base := base) g_sReadSteps.F B T_bs GBS b_bs c_sReadStep c_sIsList
  have GX := ok_webInit (fS := f_bs) (P := l.prog) (w := w) (base := base) g_wi.F B T T_bp GBP b_bp c_sIsInteger GR m_sReadSteps g_sReadSteps.F.kp b_sReadSteps
  have GI0 : FnOk l.prog w K mg base CX0 5 f_wi d_wi ["self", "places", "steps"] (spWebI0 K C CP CS) := fn_calm GX
  have MW : Mk K C f_wi := ⟨cw.mkc, g_wi.a, g_wi.i, cw.kc⟩
  have GP := ok_places (P := l.prog) (w := w) (base := base) g_wp.F T
  have mP : Meth K C "places" f_wp := ⟨g_wp.a, g_wp.i, g_wp.F.kp⟩
  have GS := ok_steps (P := l.prog) (w := w) (base := base) g_ws.F B T
  have mS : Meth K C "steps" f_ws := ⟨g_ws.a, g_ws.i, g_ws.F.kp⟩
  have GE := ok_webEqV (P := l.prog) (w := w) (base := base) g_we.F B T IC cw.cc
  have c_sSame := cal_of (P := l.prog) (w := w) (base := base) g_sSame.F m_sSame b_sSame (ok_same g_sSame.F B m_sSame b_sSame IC wbR_ex (eq_web GE) g_we.a g_we.i b_we 7)
  have GPl := ok_plc (P := l.prog) (w := w) (base := base) g_sCheckPlace.F B T T_bc GBC b_bc GP b_wp mP c_sIsInteger
  have c_sSpread := cal_of (P := l.prog) (w := w) (base := base) g_sSpread.F m_sSpread b_sSpread (ok_spread g_sSpread.F B)
  have c_sComeTo := cal_of (P := l.prog) (w := w) (base := base) g_sComeTo.F m_sComeTo b_sComeTo (ok_comeTo g_sComeTo.F c_sSpread)
  have c_sLeftLast := cal_of (P := l.prog) (w := w) (base := base) g_sLeftLast.F m_sLeftLast b_sLeftLast (ok_left g_sLeftLast.F B)
  have c_sComeBack := cal_of (P := l.prog) (w := w) (base := base) g_sComeBack.F m_sComeBack b_sComeBack (ok_back g_sComeBack.F B)
  have c_sTogether := cal_of (P := l.prog) (w := w) (base := base) g_sTogether.F m_sTogether b_sTogether (ok_tog g_sTogether.F B hmin hrev c_sLeftLast c_sComeBack)
  have c_sLotsOf := cal_of (P := l.prog) (w := w) (base := base) g_sLotsOf.F m_sLotsOf b_sLotsOf (ok_lotsOf g_sLotsOf.F B c_sTogether)
  have c_sRingBack := cal_of (P := l.prog) (w := w) (base := base) g_sRingBack.F m_sRingBack b_sRingBack (ok_rbk g_sRingBack.F B hrev)
  have c_sRaised := cal_of (P := l.prog) (w := w) (base := base) g_sRaised.F m_sRaised b_sRaised (ok_rsd g_sRaised.F)
  have c_sMostStocks := cal_of (P := l.prog) (w := w) (base := base) g_sMostStocks.F m_sMostStocks b_sMostStocks (ok_mss g_sMostStocks.F B c_sRaised c_sRingBack c_sComeTo)
  have c_sComesBack := cal_of (P := l.prog) (w := w) (base := base) g_sComesBack.F m_sComesBack b_sComesBack (ok_cbk g_sComesBack.F c_sMostStocks)
  have c_sLotsKnown := cal_of (P := l.prog) (w := w) (base := base) g_sLotsKnown.F m_sLotsKnown b_sLotsKnown (ok_lkn g_sLotsKnown.F T GS b_ws mS c_sLotsOf)
  have c_sNeedsOf := cal_of (P := l.prog) (w := w) (base := base) g_sNeedsOf.F m_sNeedsOf b_sNeedsOf (ok_nof g_sNeedsOf.F B T GS b_ws mS c_sLotsKnown c_sComesBack)
  have c_sNeedsOn := cal_of (P := l.prog) (w := w) (base := base) g_sNeedsOn.F m_sNeedsOn b_sNeedsOn (ok_non g_sNeedsOn.F T c_sNeedsOf)
  have c_sIsNumber := cal_of (P := l.prog) (w := w) (base := base) g_sIsNumber.F m_sIsNumber b_sIsNumber (ok_num g_sIsNumber.F c_sIsInteger)
  have GSt := ok_stkC (P := l.prog) (w := w) (base := base) g_sCheckStock.F T_bk GBK b_bk c_sIsNumber
  have c_sLeaving := cal_of (P := l.prog) (w := w) (base := base) g_sLeaving.F m_sLeaving b_sLeaving (ok_lea g_sLeaving.F)
  have c_sSafeStep := cal_of (P := l.prog) (w := w) (base := base) g_sSafeStep.F m_sSafeStep b_sSafeStep (ok_sfs g_sSafeStep.F)
  have GW := ok_won (P := l.prog) (w := w) (base := base) g_sWayOn.F B T GPl m_sCheckPlace g_sCheckPlace.F.kp b_sCheckPlace GSt m_sCheckStock g_sCheckStock.F.kp b_sCheckStock GS b_ws mS c_sNeedsOn c_sLeaving c_sSafeStep
  have GW0 : FnOk l.prog w K mg base CX0 7 f_sWayOn d_sWayOn ["web", "place", "stock"] (spWon0 K C CD CY) := fn_calm GW
  have c_sWayOn := cal_of (P := l.prog) (w := w) (base := base) g_sWayOn.F m_sWayOn b_sWayOn (GW0)
  have c_sLNeed := cal_of (P := l.prog) (w := w) (base := base) g_sLNeed.F m_sLNeed b_sLNeed (ok_lne g_sLNeed.F B hmin)
  have c_sLLassos := cal_of (P := l.prog) (w := w) (base := base) g_sLLassos.F m_sLLassos b_sLLassos (ok_lla g_sLLassos.F B)
  have c_sLLeast := cal_of (P := l.prog) (w := w) (base := base) g_sLLeast.F m_sLLeast b_sLLeast (ok_lle g_sLLeast.F B hmin c_sLLassos c_sLNeed)
  have c_sLCanGo := cal_of (P := l.prog) (w := w) (base := base) g_sLCanGo.F m_sLCanGo b_sLCanGo (ok_lcg g_sLCanGo.F)
  have c_sLIsWay := cal_of (P := l.prog) (w := w) (base := base) g_sLIsWay.F m_sLIsWay b_sLIsWay (ok_liw g_sLIsWay.F B (PySem.W.mg_none_of X G bk.st) c_sLNeed c_sLCanGo)
  have gSr : GCal l.prog w K mg base 8 "_law_stock_right" (spLsr K C) := ⟨_, _, _, ok_lsr g_sLStockRight.F B GW0 m_sWayOn g_sWayOn.F.kp kb_sWayOn c_sWayOn c_sLIsWay, m_sLStockRight, g_sLStockRight.F.kp, b_sLStockRight⟩
  have TR : TrP K mg CD CY f_sLMet f_bc f_bk d_sLMet := ⟨g_sLMet.F, m_sLMet, b_sLMet, T_bc, T_bk, ex⟩
  have only : ∀ p ∈ [(P1, qC)], p.1 = P1 → p.2 = qC := fun p hp _ => by rw [List.mem_singleton.mp hp]
  exact ok_law24 (CP := CP) (CS := CS) (T := [(P1, qC)]) g_LW.L B TB1 (List.mem_cons_self ..) only TR T MW GI0 b_wi IC cw.ni m_sPick vP GW m_sWayOn g_sWayOn.F.kp b_sWayOn c_sStream c_sDraw c_sPick c_sWeb c_sMixed c_sLoose c_sLLeast gSr c_sSame
end AA

set_option Elab.async false
set_option linter.all false
set_option maxRecDepth 100000
namespace AA
open PySem PySem.Spec PyProof.Rows L2 Evl
theorem bad_mk {K : PySem.W.Frag} {CB : Addr} {y m x q : Str} {st : Stmt} {f : Addr} {oc : Value} {od an : Option Addr} {osl : Array (Option Value)} {kV doc pm cdv ct : Value}
    {nm qn : Str} {N : Addr} {bs bm : List Value} {sn : List Str} {sub : List Value} {ab : Bool} {col : Option Bool} {dd : Option Addr} {k0 k1 k2 k3 k5 : Option Value}
    (a : PySem.W.findIn K (.ref CB) x = some (some (.ref f))) (i : PySem.W.isFn K (.ref f) = true)
    (l : K.lookup f = some ⟨oc, od, .func (PySem.W.fnOf x q (defArgs st) (defBody st) (defScope st) .none kV doc pm an cdv ct), osl⟩) (c : PySem.W.codeIn K cdv q = true) (k : PySem.W.keepIn K (.ref f) = true)
    (gC : PySem.W.nsIn K mainGlobals y = some (some (.ref CB)))
    (xL : K.lookup CB = some (excClassObj nm qn CB N bs bm true sn sub ab col dd k0 k1 k2 k3 k5 "ValueError.__new__")) (rv : PySem.HandSPX.refsVE bm = true)
    (sa : PySem.W.findIn K (.ref CB) "__setattr__" = some (some (.builtin "object.__setattr__")))
    (exC : PySem.W.subIn K (.ref CB) (.type "BaseException") = some true)
    (tyC : PySem.W.typeIn K (.ref CB) = some (.type "type")) (kC : PySem.W.keepIn K (.ref CB) = true)
    (ga : PySem.W.findIn K (.ref CB) "__getattribute__" = some (some (.builtin "BaseException.__getattribute__")))
    (gg : PySem.W.findIn K (.ref CB) "__getattr__" = some none) (hdC : PySem.W.hasDictIn K CB = true)
    (no : PySem.W.findIn K (.ref CB) m = some none) (tC : PySem.W.typeIn K (.ref f) = some (.type "function")) :
    ∃ f fd, MFn K CB x q st f fd ∧ BadK K y m CB f :=
  ⟨_, _, ⟨a, i, fun_mk (st := st) l c k⟩, ⟨gC, ⟨⟨_, _, _, _, _, _, _, _, _, _, _, _, _, _, _, xL, rv⟩, sa, exC, tyC, kC⟩, ⟨ga, gg, exC, hdC⟩, no, tC⟩⟩
end AA
open PySem PySem.W PyProof.Rows in
set_option maxRecDepth 100000 in
set_option maxHeartbeats 0 in
theorem PySem.Challenge.cw_anyaround_k24_whole_ways_on_holds : PySem.Challenge.rw_anyaround_k24_whole_ways_on.Holds := by
  w_on; o_law; km_head; (case hw => w_witness2)
  k_fill
  refine AA.gt_walk (l := PySem.Challenge.rw_anyaround_k24_whole_ways_on) (n := 63) (k := 12) (x := "_law_script") rfl (by decide) rfl ⟨rfl, by decide, by decide⟩ (fun w h Y => PySem.W.km_in_of Y) ?F
  case F =>
    intro w mg fa h Y KX G hmg
    refine' AA.all_mk (CP := ?CP) (CS := ?CS) (CD := ?CD) (CY := ?CY) (C := ?C) (P1 := ?P1) KX G hmg ?t1 ?n1 ?bk ?cw ?wn ?ex ?f1 ?f2 ?f3 ?f4 ?f5 ?f6 ?f7 ?f8 ?f9 ?f10 ?f11 ?f12 ?f13 ?f14 ?f15 ?f16 ?f17 ?f18 ?f19 ?f20 ?f21 ?f22 ?f23 ?f24 ?f25 ?f26 ?f27 ?f28 ?f29 ?f30 ?f31 ?f32 ?f33 ?f34 ?f35 ?f36 ?f37 ?f38 ?f39 ?l1 ?m1 ?m2 ?m3 ?m4 ?x1 ?x2 ?x3 ?x4
    (case t1 => exact PySem.W.km_tabs_of Y 402 (List.mem_singleton.mpr rfl))
    (case n1 => kernel_rfl)
    (case bk => refine' ⟨?_, ?_, ?_, ?_, ?_, ?_, ?_, ?_, ?_, ?_, ?_, ?_, ?_, ?_, ?_, ?_, ?_, ?_, ?_⟩ <;> k_is)
    (case cw => refine' ⟨?cw_aC, ?cw_pg, ?cw_hd, ?cw_po, ?cw_sa, ?cw_mk, ?cw_kc, ?cw_ha, ?cw_hn, ?cw_ht, ?cw_hm, ?cw_n1, ?cw_n2, ?cw_n3, ?cw_n4, ?cw_cc, ?cw_ne, ?cw_ni⟩; (case cw_aC => k_is); (case cw_pg => k_is); (case cw_hd => k_is); (case cw_po => k_is); (case cw_sa => k_is); (case cw_mk => k_is); (case cw_kc => k_is); (case cw_ha => k_is); (case cw_hn => k_is); (case cw_ht => k_is); (case cw_hm => k_is); (case cw_n1 => kit_is); (case cw_n2 => kit_is); (case cw_n3 => kit_is); (case cw_n4 => kit_is); (case cw_cc => kit_is); (case cw_ne => k_is); (case cw_ni => kit_is))
    (case wn => refine' ⟨?wn_nP, ?wn_nS, ?wn_nK⟩; (case wn_nP => k_is); (case wn_nS => k_is); (case wn_nK => k_is))
    (case f1 => refine' AA.gfn ?a ?l ?c ?k; (case a => k_is); (case l => k_is); (case c => k_is); (case k => k_is))
    (case f2 => refine' AA.gfn ?a ?l ?c ?k; (case a => k_is); (case l => k_is); (case c => k_is); (case k => k_is))
    (case f3 => refine' AA.gfn ?a ?l ?c ?k; (case a => k_is); (case l => k_is); (case c => k_is); (case k => k_is))
    (case f4 => refine' AA.gfn ?a ?l ?c ?k; (case a => k_is); (case l => k_is); (case c => k_is); (case k => k_is))
    (case f5 => refine' AA.gfn ?a ?l ?c ?k; (case a => k_is); (case l => k_is); (case c => k_is); (case k => k_is))
    (case f6 => refine' AA.gfn ?a ?l ?c ?k; (case a => k_is); (case l => k_is); (case c => k_is); (case k => k_is))
    (case f7 => refine' AA.gfn ?a ?l ?c ?k; (case a => k_is); (case l => k_is); (case c => k_is); (case k => k_is))
    (case f8 => refine' AA.gfn ?a ?l ?c ?k; (case a => k_is); (case l => k_is); (case c => k_is); (case k => k_is))
    (case f9 => refine' AA.gfn ?a ?l ?c ?k; (case a => k_is); (case l => k_is); (case c => k_is); (case k => k_is))
    (case f10 => refine' AA.gfn ?a ?l ?c ?k; (case a => k_is); (case l => k_is); (case c => k_is); (case k => k_is))
    (case f11 => refine' AA.gfn ?a ?l ?c ?k; (case a => k_is); (case l => k_is); (case c => k_is); (case k => k_is))
    (case f12 => refine' AA.gfn ?a ?l ?c ?k; (case a => k_is); (case l => k_is); (case c => k_is); (case k => k_is))
    (case f13 => refine' AA.gfn ?a ?l ?c ?k; (case a => k_is); (case l => k_is); (case c => k_is); (case k => k_is))
    (case f14 => refine' AA.gfn ?a ?l ?c ?k; (case a => k_is); (case l => k_is); (case c => k_is); (case k => k_is))
    (case f15 => refine' AA.gfn ?a ?l ?c ?k; (case a => k_is); (case l => k_is); (case c => k_is); (case k => k_is))
    (case f16 => refine' AA.gfn ?a ?l ?c ?k; (case a => k_is); (case l => k_is); (case c => k_is); (case k => k_is))
    (case f17 => refine' AA.gfn ?a ?l ?c ?k; (case a => k_is); (case l => k_is); (case c => k_is); (case k => k_is))
    (case f18 => refine' AA.gfn ?a ?l ?c ?k; (case a => k_is); (case l => k_is); (case c => k_is); (case k => k_is))
    (case f19 => refine' AA.gfn ?a ?l ?c ?k; (case a => k_is); (case l => k_is); (case c => k_is); (case k => k_is))
    (case f20 => refine' AA.gfn ?a ?l ?c ?k; (case a => k_is); (case l => k_is); (case c => k_is); (case k => k_is))
    (case f21 => refine' AA.gfn ?a ?l ?c ?k; (case a => k_is); (case l => k_is); (case c => k_is); (case k => k_is))
    (case f22 => refine' AA.gfn ?a ?l ?c ?k; (case a => k_is); (case l => k_is); (case c => k_is); (case k => k_is))
    (case f23 => refine' AA.gfn ?a ?l ?c ?k; (case a => k_is); (case l => k_is); (case c => k_is); (case k => k_is))
    (case f24 => refine' AA.gfn ?a ?l ?c ?k; (case a => k_is); (case l => k_is); (case c => k_is); (case k => k_is))
    (case f25 => refine' AA.gfn ?a ?l ?c ?k; (case a => k_is); (case l => k_is); (case c => k_is); (case k => k_is))
    (case f26 => refine' AA.gfnc ?a ?l ?c ?k; (case a => k_is); (case l => k_is); (case c => k_is); (case k => k_is))
    (case f27 => refine' AA.gfn ?a ?l ?c ?k; (case a => k_is); (case l => k_is); (case c => k_is); (case k => k_is))
    (case f28 => refine' AA.gfn ?a ?l ?c ?k; (case a => k_is); (case l => k_is); (case c => k_is); (case k => k_is))
    (case f29 => refine' AA.gfn ?a ?l ?c ?k; (case a => k_is); (case l => k_is); (case c => k_is); (case k => k_is))
    (case f30 => refine' AA.gfn ?a ?l ?c ?k; (case a => k_is); (case l => k_is); (case c => k_is); (case k => k_is))
    (case f31 => refine' AA.gfn ?a ?l ?c ?k; (case a => k_is); (case l => k_is); (case c => k_is); (case k => k_is))
    (case f32 => refine' AA.gfn ?a ?l ?c ?k; (case a => k_is); (case l => k_is); (case c => k_is); (case k => k_is))
    (case f33 => refine' AA.gfn ?a ?l ?c ?k; (case a => k_is); (case l => k_is); (case c => k_is); (case k => k_is))
    (case f34 => refine' AA.gfn ?a ?l ?c ?k; (case a => k_is); (case l => k_is); (case c => k_is); (case k => k_is))
    (case f35 => refine' AA.gfn ?a ?l ?c ?k; (case a => k_is); (case l => k_is); (case c => k_is); (case k => k_is))
    (case f36 => refine' AA.gfn ?a ?l ?c ?k; (case a => k_is); (case l => k_is); (case c => k_is); (case k => k_is))
    (case f37 => refine' AA.gfn ?a ?l ?c ?k; (case a => k_is); (case l => k_is); (case c => k_is); (case k => k_is))
    (case f38 => refine' AA.gfn ?a ?l ?c ?k; (case a => k_is); (case l => k_is); (case c => k_is); (case k => k_is))
    (case f39 => refine' AA.gfn ?a ?l ?c ?k; (case a => k_is); (case l => k_is); (case c => k_is); (case k => k_is))
    (case l1 => refine' AA.lfn ?a ?l ?c ?k ?hd; (case a => k_is); (case l => k_is); (case c => k_is); (case k => k_is); (case hd => kernel_rfl))
    (case m1 => refine' AA.mfn ?a ?i ?l ?c ?k; (case a => k_is); (case i => k_is); (case l => k_is); (case c => k_is); (case k => k_is))
    (case m2 => refine' AA.mfn ?a ?i ?l ?c ?k; (case a => k_is); (case i => k_is); (case l => k_is); (case c => k_is); (case k => k_is))
    (case m3 => refine' AA.mfn ?a ?i ?l ?c ?k; (case a => k_is); (case i => k_is); (case l => k_is); (case c => k_is); (case k => k_is))
    (case m4 => refine' AA.mfn ?a ?i ?l ?c ?k; (case a => k_is); (case i => k_is); (case l => k_is); (case c => k_is); (case k => k_is))
    (case x1 => refine' AA.bad_mk ?a ?i ?l ?c ?k ?gC ?xL ?rv ?sa ?exC ?tyC ?kC ?ga ?gg ?hdC ?no ?tC; (case gC => k_is); (case a => k_is); (case i => k_is); (case l => k_is); (case c => k_is); (case k => k_is); (case xL => k_is); (case rv => decide +kernel); (case sa => k_is); (case exC => k_is); (case tyC => k_is); (case kC => k_is); (case ga => k_is); (case gg => k_is); (case hdC => k_is); (case no => k_is); (case tC => k_is))
    (case x2 => refine' AA.bad_mk ?a ?i ?l ?c ?k ?gC ?xL ?rv ?sa ?exC ?tyC ?kC ?ga ?gg ?hdC ?no ?tC; (case gC => k_is); (case a => k_is); (case i => k_is); (case l => k_is); (case c => k_is); (case k => k_is); (case xL => k_is); (case rv => decide +kernel); (case sa => k_is); (case exC => k_is); (case tyC => k_is); (case kC => k_is); (case ga => k_is); (case gg => k_is); (case hdC => k_is); (case no => k_is); (case tC => k_is))
    (case x3 => refine' AA.bad_mk ?a ?i ?l ?c ?k ?gC ?xL ?rv ?sa ?exC ?tyC ?kC ?ga ?gg ?hdC ?no ?tC; (case gC => k_is); (case a => k_is); (case i => k_is); (case l => k_is); (case c => k_is); (case k => k_is); (case xL => k_is); (case rv => decide +kernel); (case sa => k_is); (case exC => k_is); (case tyC => k_is); (case kC => k_is); (case ga => k_is); (case gg => k_is); (case hdC => k_is); (case no => k_is); (case tC => k_is))
    (case x4 => refine' AA.bad_mk ?a ?i ?l ?c ?k ?gC ?xL ?rv ?sa ?exC ?tyC ?kC ?ga ?gg ?hdC ?no ?tC; (case gC => k_is); (case a => k_is); (case i => k_is); (case l => k_is); (case c => k_is); (case k => k_is); (case xL => k_is); (case rv => decide +kernel); (case sa => k_is); (case exC => k_is); (case tyC => k_is); (case kC => k_is); (case ga => k_is); (case gg => k_is); (case hdC => k_is); (case no => k_is); (case tC => k_is))
    (case ex => refine' ⟨?_, ?_, ?_⟩ <;> first | k_is | rfl)

