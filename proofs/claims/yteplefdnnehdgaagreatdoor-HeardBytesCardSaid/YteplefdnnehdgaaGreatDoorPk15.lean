/- Several texts in one, one behind the other: HeardAwake, HeardTwice, SendAwake, TreeFit, TreeIn. -/
import Derived.Test.YteplefdnnehdgaaGreatDoorPk06
import Derived.Test.YteplefdnnehdgaaGreatDoorPk14
import Derived.Test.YteplefdnnehdgaaGreatDoorPk09
import Derived.Test.YteplefdnnehdgaaGreatDoorPk11
import Derived.Test.YteplefdnnehdgaaGreatDoorPk04
import Derived.LoopTactic
import Derived.Deep.DeepCutAuto
import Derived.Test.YteplefdnnehdgaaGreatDoorPk03
import Derived.Deep.Slices
import Derived.Deep.Fields
import Derived.ChangeSame
import Derived.Lib.SmallJoins

/- awake of stage 15: the document's example. -/
namespace Go.Proofs.YteplefdnnehdgaaGreatDoor
set_option maxRecDepth 100000
open Go.ChangeShapes Go.WideShapes Go.ChangeAt Go.RowKit
set_option linter.unusedVariables false
set_option linter.unusedSimpArgs false

/-- The example's configuration, its view, and what it hears. -/
def hC (N : Nat) : Cf := ⟨7, 0, 20, 2, 15, 300, 0, some ⟨N, 0, none⟩, 2, 2⟩
def hL2 : List PV := [⟨0, 19, true⟩, ⟨0, 19, true⟩]
def hT : Th := ⟨7, 7, 0, -1, 5120, 512, 3840, 5120, 512, 3840, false, false, false, 0, false, 0, false, 0⟩
def hP : List Po := [⟨1, 1, 19, 7, 0, 7, 1, false, false, false, 0, false, 0, false, 0⟩, ⟨2, 1, 19, 7, 0, 7, 2, false, false, false, 0, false, 0, false, 0⟩]
def hQ : Bq := ⟨false, false, false, 3, 4, 5, 1, 0, 5120, 512, 3840⟩
theorem hT_is (N : Nat) : newT (hC N) = hT := rfl
theorem hP_is (N : Nat) : newL (hC N) hL2 = hP := rfl
theorem hR_is : (heardR hT hP 0 hQ).1.1.ro = 3 ∧ (heardR hT hP 0 hQ).1.1.rp = 0 ∧ (heardR hT hP 0 hQ).1.1.co = 23 ∧ (heardR hT hP 0 hQ).2.map (·.i) = [1] := by
  refine ⟨?_, ?_, ?_, ?_⟩ <;> decide
theorem hB (N : Nat) : CB (hC N) := by
  unfold CB hC
  dsimp only
  decide
theorem h_in (w : World) : PortsIn (w.alloc (.cells #[.int .u8 0, .int .u32 19, .bool true, .int .u8 0, .int .u32 19, .bool true] 47)) (some ⟨w.heap.size, 0, none⟩) (w.alloc (.cells #[.int .u8 0, .int .u32 19, .bool true, .int .u8 0, .int .u32 19, .bool true] 47)).heap.size hL2 := by
  have h := heap_alloc_new w (.cells #[.int .u8 0, .int .u32 19, .bool true, .int .u8 0, .int .u32 19, .bool true] 47)
  have hb : Bk (w.alloc (.cells #[.int .u8 0, .int .u32 19, .bool true, .int .u8 0, .int .u32 19, .bool true] 47)) w.heap.size 47 [.int .u8 0, .int .u32 19, .bool true, .int .u8 0, .int .u32 19, .bool true] := h
  intro k x hx
  match k, hx with
  | 0, hx =>
    cases hx
    refine ⟨_, rfl, by simp, ?_, ?_, ?_, by unfold PB; decide⟩
    · exact hb.cell 0
    · exact hb.cell 1
    · exact hb.cell 2
  | 1, hx =>
    cases hx
    refine ⟨_, rfl, by simp, ?_, ?_, ?_, by unfold PB; decide⟩
    · exact hb.cell 3
    · exact hb.cell 4
    · exact hb.cell 5
theorem hTB : ThB hT := by unfold ThB hT; dsimp only; decide
theorem hPB : ∀ x ∈ hP, PoB x := by
  intro x hx
  simp only [hP, List.mem_cons, List.not_mem_nil, or_false] at hx
  rcases hx with rfl | rfl
  · unfold PoB; dsimp only; decide
  · unfold PoB; dsimp only; decide

set_option maxHeartbeats 1000000 in
theorem awake15_is (w : World) (hd : Hd w) : Calls Tryz.prog 4 #[] w fun e w' => e = .returned (.bool true) ∧ Below w.heap.size w w' := by
  have HD := Lib.hid hd
  clear hd
  obtain ⟨w1, hw1⟩ : ∃ w1, w.alloc (.cells #[.int .u8 0, .int .u32 19, .bool true, .int .u8 0, .int .u32 19, .bool true] 47) = w1 := ⟨_, rfl⟩
  have HP : Hid (PortsIn w1 (hC w.heap.size).A w1.heap.size hL2) := by rw [← hw1]; exact Lib.hid (h_in w)
  have B1 : Below w.heap.size w w1 := by rw [← hw1]; exact new_below _ _
  have HB1 := Lib.hid B1
  clear B1
  have HN : Hid (Calls Tryz.prog 10 #[.agg #[.int .u64 7, .int .u16 0, .int .i64 20, .int .i64 2, .int .i64 15, .int .i64 300, .int .i64 0, .slice (some ⟨w.heap.size, 0, none⟩) 2 2]] w1 (TOut w1 hT 2 hP)) :=
    Lib.hid (tnew_is (hC w.heap.size) hL2 (Lib.hid rfl) (Lib.hid (show 2 ≤ 4 by decide)) (Lib.hid (hB w.heap.size)) w1 HP)
  clear HP
  go_enter Tryz.func4, Tryz.ntmps4
  go_wp2_with fail
  (with_reducible refine HN.out.mono ?_); rintro e w2 ⟨D, cap, rfl, hz, T⟩
  have HZ := Lib.hid hz
  clear HN hz
  obtain ⟨g, rfl, -⟩ := T.at (k := 0) (x := (⟨1, 1, 19, 7, 0, 7, 1, false, false, false, 0, false, 0, false, 0⟩ : Po)) rfl
  go_upto_region 2 with (refine wpList_store_row rfl 31 _ _ rfl _ _ rfl rfl _ _ (heap_alloc_new _ _) (by kernel_rfl) (by kernel_rfl) (by kernel_rfl) ?_)
  rw [alloc_row]
  have T1 := T.al rfl 31 (lT hT (some ⟨g, 0, none⟩) 2 cap)
  obtain ⟨G, hG⟩ : ∃ G, w2.heap.size = G := ⟨_, rfl⟩
  rw [hG] at T1 ⊢
  obtain ⟨w3, hw3⟩ : ∃ w3, w2.alloc (.cells (lT hT (some ⟨g, 0, none⟩) 2 cap).toArray 31) = w3 := ⟨_, rfl⟩
  rw [hw3] at T1 ⊢
  clear hw3 T hG
  have HW := Lib.hid (show Below w.heap.size w w3 from HB1.out.trans (T1.old.mono HB1.out.size))
  obtain ⟨R, hR⟩ : ∃ R, heardR hT hP 0 hQ = R := ⟨_, rfl⟩
  obtain ⟨r1, r2, r3, r4⟩ := hR_is
  rw [hR] at r1 r2 r3 r4
  have HA : Hid (Calls Tryz.prog 11 #[.agg (lT hT (some ⟨g, 0, none⟩) 2 cap).toArray, .int .i64 0, .agg #[.bool false, .bool false, .bool false, .int .u64 3, .int .u32 4, .int .u64 5, .int .u16 1, .int .u16 0, .int .u16 5120, .int .u16 512, .int .u16 3840]] w3 (ConfEnd w3 R.1.1 2 (R.1.2, R.2))) := by
    have := hconf_is hT (some ⟨g, 0, none⟩) 2 cap hP 0 hQ (by decide) (Lib.hid (by unfold BqIn BpIn hQ; decide)) (Lib.hid rfl) (by decide) (Lib.hid hTB) (Lib.hid (by unfold hT; dsimp only; decide)) (Lib.hid hPB) HZ w3 (HD.out.below HW.out (Nat.le_refl _)) (Lib.hid T1.ports)
    rw [hR] at this
    exact Lib.hid this
  have H1 := Lib.hid r1
  have H2 := Lib.hid r2
  have H3 := Lib.hid r3
  have H4 := Lib.hid r4
  clear r1 r2 r3 r4 hR
  have hx := T1.hs.bk 0 rfl
  go_wp2_with (with_reducible refine wpList_load_row rfl 31 (.tmp 1) rfl G (by kernel_rfl) _ _ (0, 0) _ hx Tryz.underlying31 rfl (by kernel_rfl) ?_)
  (with_reducible refine HA.out.mono ?_); rintro e w4 ⟨D, cap2, v, rfl, hz2, hT4, hO⟩
  have HB4 := Lib.hid (HW.out.trans (hT4.old.mono HW.out.size))
  clear HA hx T1 HZ hz2
  obtain ⟨A, capo, e⟩ := hO.shape
  have hln : R.2.length = 1 := by have := congrArg List.length H4.out; simpa using this
  obtain rfl : v = .slice A 1 capo := e.trans (by rw [show ((R.1.2, R.2) : List Po × List Ou).2.length = 1 from hln])
  clear e
  obtain ⟨o, ho⟩ : ∃ o, R.2[0]? = some o := ⟨R.2[0]'(by omega), List.getElem?_eq_getElem _⟩
  have hoi : o.i = 1 := by
    have h := congrArg (·[0]?) H4.out
    simp only [List.getElem?_map, ho, Option.map_some] at h
    exact Option.some.inj h
  have HO := Lib.hid ho
  have HOI := Lib.hid hoi
  go_upto_region 3 with (refine wpList_store_row rfl 31 _ _ rfl _ _ rfl rfl _ _ (heap_alloc_new _ _) (by kernel_rfl) (by kernel_rfl) (by kernel_rfl) ?_)
  rw [alloc_row]
  have bN := new_below w4 (.cells (lT R.1.1 D 2 cap2).toArray 31)
  have S5 := (Hs.nil w4).al rfl 31 (lT R.1.1 D 2 cap2)
  have hO5 := hO.below bN
  have HB5 := Lib.hid (HB4.out.trans (bN.mono HB4.out.size))
  obtain ⟨G2, hG2⟩ : ∃ G, w4.heap.size = G := ⟨_, rfl⟩
  rw [hG2] at S5 ⊢
  obtain ⟨w5, hw5⟩ : ∃ v, w4.alloc (.cells (lT R.1.1 D 2 cap2).toArray 31) = v := ⟨_, rfl⟩
  rw [hw5] at S5 hO5 HB5 ⊢
  clear hw5 hG2 bN hO hT4
  obtain ⟨c, go, hco, rfl, -, hcl, -⟩ := hO5.at HO.out
  have o0 : w5.cell? ⟨go, 0, none⟩ = some (.int .i64 1) := by
    have := hcl 0 _ rfl
    rw [hco, HOI.out] at this
    simpa using this
  have c1 : w5.cell? ⟨G2, 1, none⟩ = some (.int .u64 3) := by rw [← H1.out]; exact S5.cell 0 1 rfl rfl
  have c2 : w5.cell? ⟨G2, 2, none⟩ = some (.int .u32 23) := by rw [← H3.out]; exact S5.cell 0 2 rfl rfl
  have c3 : w5.cell? ⟨G2, 3, none⟩ = some (.int .i64 0) := by rw [← H2.out]; exact S5.cell 0 3 rfl rfl
  clear hcl hO5 S5 hco hln ho hoi
  go_wp2
  go_ret
  exact ⟨rfl, HB5.out⟩

end Go.Proofs.YteplefdnnehdgaaGreatDoor

/- The same configuration heard twice at once: no program. -/
namespace Go.Proofs.YteplefdnnehdgaaGreatDoor
set_option maxRecDepth 100000
open Go.ChangeShapes Go.WideShapes Go.ChangeAt Go.RowKit
set_option linter.unusedVariables false

/-- Alike for who leads: number, cost, what is held, and whether on. -/
def Like (p q : Po) : Prop := p.id = q.id ∧ p.co = q.co ∧ p.hr = q.hr ∧ p.hc = q.hc ∧ p.hb = q.hb ∧ p.hp = q.hp ∧ (p.st = 0 ↔ q.st = 0)
theorem Like.refl (p : Po) : Like p p := ⟨rfl, rfl, rfl, rfl, rfl, rfl, Iff.rfl⟩
theorem Like.trans {p q r : Po} (h : Like p q) (k : Like q r) : Like p r := ⟨h.1.trans k.1, h.2.1.trans k.2.1, h.2.2.1.trans k.2.2.1, h.2.2.2.1.trans k.2.2.2.1, h.2.2.2.2.1.trans k.2.2.2.2.1, h.2.2.2.2.2.1.trans k.2.2.2.2.2.1, h.2.2.2.2.2.2.trans k.2.2.2.2.2.2⟩
theorem Like.des {p q : Po} (h : Like p q) (o : Int) : desB p o = desB q o := by unfold desB; rw [h.1, h.2.2.2.2.1, h.2.2.2.2.2.1]
theorem Like.may {p q : Po} (h : Like p q) (o : Int) : mayB p o = mayB q o := by
  unfold mayB
  rw [h.des o, h.2.2.1]
  by_cases e : p.st = 0
  · rw [e, h.2.2.2.2.2.2.1 e]
  · have e' : q.st ≠ 0 := fun x => e (h.2.2.2.2.2.2.2 x)
    rw [show decide (p.st ≠ 0) = true from decide_eq_true e, show decide (q.st ≠ 0) = true from decide_eq_true e']
theorem Like.thru {p q : Po} (h : Like p q) : thruV p = thruV q := by unfold thruV; rw [h.2.1, h.2.2.1, h.2.2.2.1, h.2.2.2.2.1, h.2.2.2.2.2.1]
theorem Like.better {p q p' q' : Po} (h : Like p p') (k : Like q q') : betterB p q = betterB p' q' := by unfold betterB; rw [h.thru, k.thru, h.1, k.1]
/-- Two rows of ports, alike one by one. -/
def Alike (R : Po → Po → Prop) (L M : List Po) : Prop := L.length = M.length ∧ ∀ (j : Nat) (p q : Po), L[j]? = some p → M[j]? = some q → R p q
theorem Alike.get {R : Po → Po → Prop} {L M : List Po} (h : Alike R L M) {j : Nat} {p : Po} (hp : L[j]? = some p) : ∃ q, M[j]? = some q ∧ R p q := by
  have hj := po_lt hp
  have hj' : j < M.length := by have := h.1; omega
  have hq : M[j]? = some M[j] := List.getElem?_eq_getElem hj'
  exact ⟨_, hq, h.2 j p _ hp hq⟩
theorem bst_like {o : Int} {L M : List Po} (h : Alike Like L M) : ∀ k, bst o L k = bst o M k
  | 0 => rfl
  | k + 1 => by
    have ih := bst_like (o := o) h k
    cases hp : L[k]? with
    | none =>
      have hq : M[k]? = none := by
        rw [List.getElem?_eq_none_iff] at hp ⊢
        have := h.1
        omega
      simp only [bst, hp, hq, ih]
    | some p =>
      obtain ⟨q, hq, hl⟩ := h.get hp
      have hm := hl.may o
      cases hb : bst o L k with
      | none =>
        have hb' : bst o M k = none := by rw [← ih, hb]
        simp only [bst, hp, hq, hm, hb, hb']
      | some j =>
        have hb' : bst o M k = some j := by rw [← ih, hb]
        obtain ⟨_, hj⟩ := bst_lt hb
        have h1 : L[j]? = some L[j] := List.getElem?_eq_getElem hj
        obtain ⟨y, h2, hl2⟩ := h.get h1
        have hbt := Like.better hl hl2
        simp only [bst, hp, hq, hm, hb, hb', h1, h2, hbt]
theorem sel_like {t u : Th} {L M : List Po} (h : Alike Like L M) (ho : t.ow = u.ow) : RootOf (selectT t L) (selectT u M) := by
  unfold selectT RootOf
  have hbs : bst t.ow L L.length = bst u.ow M M.length := by rw [ho, bst_like h, h.1]
  rw [hbs]
  cases hb : bst u.ow M M.length with
  | none => exact ⟨ho, ho, rfl, rfl⟩
  | some j =>
    obtain ⟨_, hj⟩ := bst_lt hb
    have h1 : M[j]? = some M[j] := List.getElem?_eq_getElem hj
    have hj' : j < L.length := by have := h.1; omega
    have h2 : L[j]? = some L[j] := List.getElem?_eq_getElem hj'
    have hl := h.2 j _ _ h2 h1
    simp only [selT, h1, h2]
    exact ⟨ho, hl.2.2.1, by rw [hl.2.2.2.1, hl.2.1], trivial⟩

/-- What twice the same leaves: the state, and what is held. -/
def Core (p q : Po) : Prop := p.st = q.st ∧ p.hr = q.hr ∧ p.hc = q.hc ∧ p.hb = q.hb ∧ p.hp = q.hp
def Full (p q : Po) : Prop := Core p q ∧ p.id = q.id ∧ p.co = q.co
theorem Full.refl (p : Po) : Full p p := ⟨⟨rfl, rfl, rfl, rfl, rfl⟩, rfl, rfl⟩
theorem Full.symm {p q : Po} (h : Full p q) : Full q p := ⟨⟨h.1.1.symm, h.1.2.1.symm, h.1.2.2.1.symm, h.1.2.2.2.1.symm, h.1.2.2.2.2.symm⟩, h.2.1.symm, h.2.2.symm⟩
theorem Full.trans {p q r : Po} (h : Full p q) (k : Full q r) : Full p r := ⟨⟨h.1.1.trans k.1.1, h.1.2.1.trans k.1.2.1, h.1.2.2.1.trans k.1.2.2.1, h.1.2.2.2.1.trans k.1.2.2.2.1, h.1.2.2.2.2.trans k.1.2.2.2.2⟩, h.2.1.trans k.2.1, h.2.2.trans k.2.2⟩
theorem Full.like {p q : Po} (h : Full p q) : Like p q := ⟨h.2.1, h.2.2, h.1.2.1, h.1.2.2.1, h.1.2.2.2.1, h.1.2.2.2.2, by rw [h.1.1]⟩
theorem Alike.map {R S : Po → Po → Prop} (hRS : ∀ p q, R p q → S p q) {L M : List Po} (h : Alike R L M) : Alike S L M := ⟨h.1, fun j p q hp hq => hRS p q (h.2 j p q hp hq)⟩
theorem full_step (t : Th) (a : Int) (p : Po) : Full (stepP t a p) p := by
  unfold stepP
  split
  · split
    · exact Full.refl _
    · split <;> exact Full.refl _
  · exact Full.refl _
theorem full_all (t : Th) (L : List Po) (n : Nat) : Alike Full (allR t L n).1 L := by
  rw [allR_fst]
  refine ⟨mixL_len _ _ _, fun j p q hp hq => ?_⟩
  rw [mixL_get, hq] at hp
  have hp := Option.some.inj hp
  rw [← hp]
  dsimp only
  split
  · exact full_step _ _ _
  · exact Full.refl _
theorem full_conf (t : Th) (L : List Po) (i : Int) : Alike Full (confR t L i).1 L := by
  refine ⟨confR_len _ _ _, fun j p q hp hq => ?_⟩
  have same : L[j]? = some p → Full p q := fun h => by rw [hq] at h; cases h; exact Full.refl _
  have put : ∀ (k : Nat) (x y : Po), L[k]? = some x → Full y x → (L.set k y)[j]? = some p → Full p q := fun k x y hx hy h => by
    rw [List.getElem?_set] at h
    split at h
    · rename_i e
      subst e
      rw [hq] at hx
      cases hx
      split at h
      · cases h; exact hy
      · cases h
    · exact same h
  unfold confR at hp
  split at hp
  · split at hp
    · exact same hp
    · rename_i x hx
      split at hp
      · exact put i.toNat x (owingP x) hx ⟨⟨rfl, rfl, rfl, rfl, rfl⟩, rfl, rfl⟩ hp
      · split at hp
        · exact same hp
        · exact put i.toNat x (sentP x) hx ⟨⟨rfl, rfl, rfl, rfl, rfl⟩, rfl, rfl⟩ hp
  · exact same hp

/-- Rise, and blocking: the State alone tells the State. -/
theorem rise_st {p q : Po} (h : p.st = q.st) : (riseP p).st = (riseP q).st := by
  unfold riseP
  rw [h]
  split
  · rfl
  · exact h
theorem block_st {p q : Po} (h : p.st = q.st) : (blockP p).1.st = (blockP q).1.st := by
  unfold blockP
  rw [h]
  split
  · exact h
  · rfl
theorem st_st {t u : Th} (ht : RootOf t u) (j : Nat) {y z : Po} (hs : y.st = z.st) (hd : desB y t.ow = desB z t.ow) : (stP t j y).1.st = (stP u j z).1.st := by
  unfold stP
  rw [ht.2.2.2, hd, ht.1]
  split
  · exact rise_st (show (owesP y).st = (owesP z).st from hs)
  · split
    · exact rise_st (show (restP y).st = (restP z).st from hs)
    · exact block_st (show (owesP y).st = (owesP z).st from hs)
theorem takes_like {t u : Th} (ht : RootOf t u) {p q : Po} (h : Like p q) : takesB t p = takesB u q := by
  unfold takesB ownV heldV
  rw [ht.1, ht.2.1, ht.2.2.1, h.des, h.1, h.2.2.1, h.2.2.2.1, h.2.2.2.2.1, h.2.2.2.2.2.1]
theorem des_like {t u : Th} (ht : RootOf t u) {p q : Po} (h : Like p q) : Like (desP t p) (desP u q) := by
  have e := takes_like ht h
  unfold desP
  rw [e]
  split
  · exact ⟨h.1, h.2.1, ht.2.1, ht.2.2.1, ht.1, h.1, h.2.2.2.2.2.2⟩
  · exact h

/-- The port to the root stays, where its costs are such. -/
theorem select_twice' {t : Th} {L : List Po} (hU : Unlike L) (hk : ∀ x ∈ L, mayB x t.ow = true → CostB x) : selectT (selectT t L) (desL (selectT t L) L) = selectT t L := by
  have how : (selectT t L).ow = t.ow := sel_ow t L
  rcases sel_cases t L with ⟨_, e, hn⟩ | ⟨j, p, hj, _, e, hm, hT⟩
  · rcases sel_cases (selectT t L) (desL (selectT t L) L) with ⟨_, e', _⟩ | ⟨j', p', hj', _, _, hm', _⟩
    · rw [e', e]
    · exfalso
      unfold desL at hj'
      rw [allL_get] at hj'
      cases hx : L[j']? with
      | none => rw [hx] at hj'; cases hj'
      | some x =>
        rw [hx] at hj'
        cases hj'
        have := (des_may hm').2
        rw [how, hn j' x hx] at this
        cases this
  · have hst : takesB (selectT t L) p = false := root_stays (by rw [how]; exact hm) (by rw [e]) (by rw [e]) (hk p (List.mem_of_getElem? hj) hm)
    have hp' : (desL (selectT t L) L)[j]? = some p := by
      unfold desL
      rw [allL_get, hj]
      simp only [Option.map_some, desP_no hst]
    have hlen : (desL (selectT t L) L).length = L.length := allL_len _ _
    have hT' : Top (selectT t L).ow (desL (selectT t L) L) (desL (selectT t L) L).length j := by
      refine ⟨p, hp', by rw [how]; exact hm, fun i hi hne q hq hmq => ?_⟩
      obtain ⟨p0, h1, h2, h3⟩ := hT
      rw [hj] at h1
      cases h1
      unfold desL at hq
      rw [allL_get] at hq
      cases hx : L[i]? with
      | none => rw [hx] at hq; cases hq
      | some x =>
        rw [hx] at hq
        cases hq
        have hd := des_may hmq
        simp only at hd ⊢
        rw [hd.1]
        exact h3 i (by rw [hlen] at hi; exact hi) hne x hx (by have := hd.2; rwa [how] at this)
    rcases sel_cases (selectT t L) (desL (selectT t L) L) with ⟨_, _, hn⟩ | ⟨j', p', hj', _, e', hm', hT''⟩
    · exfalso
      have := hn j p hp'
      rw [how, hm] at this
      cases this
    · obtain rfl := top_one (unlike_des hU) hT'' hT'
      rw [hp'] at hj'
      cases hj'
      rw [e', e]

/-- The ports that 'tookR' leaves. -/
theorem took_ports (t : Th) (L : List Po) (k : Nat) (p : Po) (x : Bq) : Alike Full (tookR t L k p x).1.2 (statesL (selectT t (L.set k (heldP p x))) (desL (selectT t (L.set k (heldP p x))) (L.set k (heldP p x)))) := by
  have hs := settle_ports t (L.set k (heldP p x))
  unfold tookR
  dsimp only
  rw [← hs]
  split
  · exact full_all _ _ _
  · exact ⟨rfl, fun j a b ha hb => by rw [ha] at hb; cases hb; exact Full.refl _⟩

/-- The same heard twice. -/
theorem took_twice {t : Th} {L : List Po} (hU : Unlike L) {k : Nat} {p : Po} {x : Bq} (hp : L[k]? = some p) (hs : p.st ≠ 0) (hx : ¬ (x.br = t.ow ∧ x.po = p.id))
    (hk : ∀ y ∈ L.set k (heldP p x), mayB y t.ow = true → CostB y) :
    RootOf (heardR (tookR t L k p x).1.1 (tookR t L k p x).1.2 k x).1.1 (tookR t L k p x).1.1 ∧ Alike Core (heardR (tookR t L k p x).1.1 (tookR t L k p x).1.2 k x).1.2 (tookR t L k p x).1.2 := by
  obtain ⟨u, hu⟩ : ∃ u, (tookR t L k p x).1.1 = u := ⟨_, rfl⟩
  obtain ⟨M, hM⟩ : ∃ M, (tookR t L k p x).1.2 = M := ⟨_, rfl⟩
  have hru := root_took t L k p x
  have hfm := took_ports t L k p x
  rw [hu] at hru
  rw [hM] at hfm
  rw [hu, hM]
  clear hu hM
  obtain ⟨L3, hL3⟩ : ∃ L3, L.set k (heldP p x) = L3 := ⟨_, rfl⟩
  rw [hL3] at hru hfm hk
  have h3k : L3[k]? = some (heldP p x) := by rw [← hL3]; exact List.getElem?_set_self (po_lt hp)
  have hU3 : Unlike L3 := by
    intro i j a b ha hb hn
    rw [← hL3, List.getElem?_set] at ha hb
    have g : ∀ (i : Nat) (a : Po), (if k = i then if k < L.length then some (heldP p x) else none else L[i]?) = some a → ∃ a', L[i]? = some a' ∧ a'.id = a.id := fun i a h => by
      split at h
      · rename_i e
        subst e
        split at h
        · cases h; exact ⟨p, hp, rfl⟩
        · cases h
      · exact ⟨a, h, rfl⟩
    obtain ⟨a', h1, e1⟩ := g i a ha
    obtain ⟨b', h2, e2⟩ := g j b hb
    rw [← e1, ← e2]
    exact hU i j a' b' h1 h2 hn
  obtain ⟨r, hr⟩ : ∃ r, selectT t L3 = r := ⟨_, rfl⟩
  have how : r.ow = t.ow := by rw [← hr]; exact sel_ow t L3
  have htw : selectT r (desL r L3) = r := by rw [← hr]; exact select_twice' hU3 hk
  have hleast := upd_least (t := t) h3k hs (by
    unfold desB heldP
    simp only [Bool.and_eq_false_iff, decide_eq_false_iff_not]
    by_cases e : x.br = t.ow
    · exact .inr (fun e' => hx ⟨e, e'⟩)
    · exact .inl e)
  rw [hr] at hru hfm hleast
  have hlen : (statesL r (desL r L3)).length = L3.length := by unfold statesL desL; rw [allL_len, allL_len]
  -- the ports, one by one
  have hget : ∀ (j : Nat) (m : Po), M[j]? = some m → ∃ y, L3[j]? = some y ∧ Full m (stP r j (desP r y)).1 := fun j m hm => by
    obtain ⟨q, hq, hf⟩ := hfm.get hm
    unfold statesL desL at hq
    rw [allL_get, allL_get] at hq
    cases hy : L3[j]? with
    | none => rw [hy] at hq; cases hq
    | some y => rw [hy] at hq; cases hq; exact ⟨y, rfl, hf⟩
  have hMk : ∃ m, M[k]? = some m := by
    have : k < M.length := by rw [hfm.1, hlen]; exact po_lt h3k
    exact ⟨M[k], List.getElem?_eq_getElem this⟩
  obtain ⟨m, hm⟩ := hMk
  obtain ⟨y, hy, hfmk⟩ := hget k m hm
  rw [h3k] at hy
  cases hy
  have hst := st_all r k (desP r (heldP p x))
  have hsh := st_held r k (desP r (heldP p x))
  have hm0 : m.st ≠ 0 := by
    rw [hfmk.1.1]
    intro e
    have := hst.2.1.1 e
    rw [desP_st] at this
    exact hs this
  rw [heardR_at hm hm0]
  have stay : ∀ M', Alike Full M' M → RootOf u u ∧ Alike Core M' M := fun M' h => ⟨⟨rfl, rfl, rfl, rfl⟩, h.map (fun _ _ q => q.1)⟩
  have hid : Alike Full M M := ⟨rfl, fun j a b ha hb => by rw [ha] at hb; cases hb; exact Full.refl _⟩
  cases hta : takesB r (heldP p x) with
  | true =>
    -- designated now: what it holds isn't superseded
    rw [desP_yes hta] at hfmk hst hsh
    have hho : heldV m = ownV r (heldP p x) := by
      unfold heldV ownV
      rw [hfmk.1.2.1, hfmk.1.2.2.1, hfmk.1.2.2.2.1, hfmk.1.2.2.2.2, hsh.1, hsh.2.1, hsh.2.2.1, hsh.2.2.2.1]
      rfl
    have hno : supB (confV x) (heldV m) u.ow = false := by
      rw [hho, hru.1]
      have e1 := wpI_cases (confV x) (ownV r (heldP p x))
      have e2 := wpI_cases (ownV r (heldP p x)) (confV x)
      have e3 := cmpV_cases (ownV r (heldP p x)) (confV x)
      have o1 : (ownV r (heldP p x)).r = r.ro := rfl
      have o2 : (ownV r (heldP p x)).b = r.ow := rfl
      have o3 : (ownV r (heldP p x)).p = p.id := rfl
      have o4 : (confV x).r = x.ro := rfl
      have o5 : (confV x).b = x.br := rfl
      have o6 : (confV x).p = x.po := rfl
      have hl : ¬ x.ro < r.ro := hleast
      have hd : desB (heldP p x) r.ow = false := by
        unfold desB heldP
        simp only [Bool.and_eq_false_iff, decide_eq_false_iff_not]
        rw [how]
        by_cases e : x.br = t.ow
        · exact .inr (fun e' => hx ⟨e, e'⟩)
        · exact .inl e
      unfold takesB at hta
      rw [hd] at hta
      simp only [Bool.false_or, Bool.or_eq_true, decide_eq_true_eq] at hta
      have hta' : x.ro ≠ r.ro ∨ cmpV (ownV r (heldP p x)) (confV x) ≤ 0 := hta
      have hx' : ¬ (x.br = r.ow ∧ x.po = p.id) := by rw [how]; exact hx
      rcases e1 with ⟨c1, c2⟩ | ⟨c1, c2⟩ | ⟨c1, c2⟩
      · exfalso
        rcases hta' with z | z <;> omega
      · rw [supB_eq c2]
        have hb : x.br = r.ow := by omega
        have hpo : ¬ x.po ≤ p.id := by
          intro z
          rcases hta' with z' | z'
          · omega
          · have : x.po ≠ p.id := fun e => hx' ⟨hb, e⟩
            omega
        rw [o5, o6, o3, show decide (x.br = r.ow) = true from decide_eq_true hb, show decide (x.po ≤ p.id) = false from decide_eq_false hpo]
        rfl
      · exact supB_gt c2
    rw [hno, if_neg (by decide)]
    split
    · exact stay _ (full_conf u M k)
    · exact stay _ hid
  | false =>
    rw [desP_no hta] at hfmk hst hsh
    have hho : heldV m = confV x := by
      unfold heldV confV
      rw [hfmk.1.2.1, hfmk.1.2.2.1, hfmk.1.2.2.2.1, hfmk.1.2.2.2.2, hsh.1, hsh.2.1, hsh.2.2.1, hsh.2.2.2.1]
      rfl
    rw [hho, supB_self, if_pos rfl]
    have hh1 : m.hr = x.ro := congrArg Vec.r hho
    have hh2 : m.hc = x.co := congrArg Vec.c hho
    have hh3 : m.hb = x.br := congrArg Vec.b hho
    have hh4 : m.hp = x.po := congrArg Vec.p hho
    have hml : Full (heldP m x) m := ⟨⟨rfl, hh1.symm, hh2.symm, hh3.symm, hh4.symm⟩, rfl, rfl⟩
    -- what is selected from is as it was
    have h4 : ∀ (j : Nat) (z : Po), (M.set k (heldP m x))[j]? = some z → ∃ y, L3[j]? = some y ∧ Full z (stP r j (desP r y)).1 := fun j z hz => by
      rw [List.getElem?_set] at hz
      split at hz
      · rename_i e
        subst e
        split at hz
        · cases hz
          obtain ⟨y, h1, h2⟩ := hget k m hm
          exact ⟨y, h1, hml.trans h2⟩
        · cases hz
      · exact hget j z hz
    have hal : Alike Like (M.set k (heldP m x)) (desL r L3) := by
      refine ⟨by rw [List.length_set, hfm.1, hlen]; unfold desL; rw [allL_len], fun j a b ha hb => ?_⟩
      obtain ⟨y, h1, h2⟩ := h4 j a ha
      unfold desL at hb
      rw [allL_get, h1] at hb
      cases hb
      have q1 := st_all r j (desP r y)
      have q2 := st_held r j (desP r y)
      exact h2.like.trans ⟨q2.2.2.2.2.1, q2.2.2.2.2.2, q2.1, q2.2.1, q2.2.2.1, q2.2.2.2.1, q1.2.1⟩
    obtain ⟨w, hw⟩ : ∃ w, selectT u (M.set k (heldP m x)) = w := ⟨_, rfl⟩
    have hrw : RootOf w r := by
      rw [← hw]
      have := sel_like (t := u) (u := r) hal hru.1
      rwa [htw] at this
    have hrv := root_took u M k m x
    have hfv := took_ports u M k m x
    rw [hw] at hrv hfv
    refine ⟨hrv.trans (hrw.trans ⟨hru.1.symm, hru.2.1.symm, hru.2.2.1.symm, hru.2.2.2.symm⟩), ?_⟩
    refine ⟨by rw [hfv.1]; unfold statesL desL; rw [allL_len, allL_len, List.length_set], fun j a b ha hb => ?_⟩
    obtain ⟨q, hq, hf⟩ := hfv.get ha
    unfold statesL desL at hq
    rw [allL_get, allL_get] at hq
    cases hz : (M.set k (heldP m x))[j]? with
    | none => rw [hz] at hq; cases hq
    | some z =>
      rw [hz] at hq
      cases hq
      obtain ⟨y, h1, h2⟩ := h4 j z hz
      obtain ⟨y', h1', h2'⟩ := hget j b hb
      rw [h1] at h1'
      cases h1'
      -- D: the port designated or not; z and b are D behind States
      have q1 := st_all r j (desP r y)
      have q2 := st_held r j (desP r y)
      have hlz : Like z (desP r y) := h2.like.trans ⟨q2.2.2.2.2.1, q2.2.2.2.2.2, q2.1, q2.2.1, q2.2.2.1, q2.2.2.2.1, q1.2.1⟩
      have hdl := des_like hrw hlz
      rw [desP_twice] at hdl
      have s1 := st_held w j (desP w z)
      have hst2 : (stP w j (desP w z)).1.st = (stP r j (stP r j (desP r y)).1).1.st := by
        refine st_st hrw j ?_ ?_
        · rw [desP_st]; exact h2.1.1
        · rw [hdl.des w.ow, hrw.1, ← q1.1]
      rw [q1.2.2.2.2] at hst2
      refine ⟨hf.1.1.trans (hst2.trans h2'.1.1.symm), ?_, ?_, ?_, ?_⟩
      · rw [hf.1.2.1, s1.1, hdl.2.2.1, h2'.1.2.1, q2.1]
      · rw [hf.1.2.2.1, s1.2.1, hdl.2.2.2.1, h2'.1.2.2.1, q2.2.1]
      · rw [hf.1.2.2.2.1, s1.2.2.1, hdl.2.2.2.2.1, h2'.1.2.2.2.1, q2.2.2.1]
      · rw [hf.1.2.2.2.2, s1.2.2.2.1, hdl.2.2.2.2.2.1, h2'.1.2.2.2.2, q2.2.2.2.1]
theorem heard_twice {t : Th} {L : List Po} (hU : Unlike L) {k : Nat} {p : Po} {x : Bq} (hp : L[k]? = some p) (hx : ¬ (x.br = t.ow ∧ x.po = p.id))
    (hk : ∀ y ∈ L.set k (heldP p x), mayB y t.ow = true → CostB y) :
    RootOf (heardR (heardR t L k x).1.1 (heardR t L k x).1.2 k x).1.1 (heardR t L k x).1.1 ∧ Alike Core (heardR (heardR t L k x).1.1 (heardR t L k x).1.2 k x).1.2 (heardR t L k x).1.2 := by
  have hid : ∀ M : List Po, Alike Full M M := fun M => ⟨rfl, fun j a b ha hb => by rw [ha] at hb; cases hb; exact Full.refl _⟩
  have stay : ∀ (u : Th) (M' M : List Po), Alike Full M' M → RootOf u u ∧ Alike Core M' M := fun u M' M h => ⟨⟨rfl, rfl, rfl, rfl⟩, h.map (fun _ _ q => q.1)⟩
  by_cases hs : p.st = 0
  · rw [heardR_off hp hs, heardR_off hp hs]
    exact stay _ _ _ (hid _)
  · rw [heardR_at hp hs]
    cases hsup : supB (confV x) (heldV p) t.ow with
    | true =>
      rw [if_pos rfl]
      exact took_twice hU hp hs hx hk
    | false =>
      rw [if_neg (by decide)]
      cases hd : desB p t.ow with
      | false =>
        rw [if_neg (by decide), heardR_at hp hs, hsup, if_neg (by decide), hd, if_neg (by decide)]
        exact stay _ _ _ (hid _)
      | true =>
        rw [if_pos rfl]
        dsimp only
        have hfc := full_conf t L k
        have hkl : k < (confR t L k).1.length := by rw [hfc.1]; exact po_lt hp
        have hq : (confR t L k).1[k]? = some (confR t L k).1[k] := List.getElem?_eq_getElem hkl
        have hf := hfc.2 k _ _ hq hp
        have hv : heldV (confR t L k).1[k] = heldV p := by unfold heldV; rw [hf.1.2.1, hf.1.2.2.1, hf.1.2.2.2.1, hf.1.2.2.2.2]
        rw [heardR_at hq (by rw [hf.1.1]; exact hs), hv, hsup, if_neg (by decide), hf.like.des, hd, if_pos rfl]
        exact stay _ _ _ (full_conf _ _ _)

/-- Behind a settling. -/
theorem settle_len (t : Th) (L : List Po) : (settleR t L).1.2.length = L.length := by rw [settle_ports]; unfold statesL desL; rw [allL_len, allL_len]
theorem settle_id {t : Th} {L : List Po} {k : Nat} {x : Po} (h : L[k]? = some x) : ∃ y, (settleR t L).1.2[k]? = some y ∧ y.id = x.id ∧ y.co = x.co := by
  have hk : k < (settleR t L).1.2.length := by rw [settle_len]; exact po_lt h
  have hy : (settleR t L).1.2[k]? = some (settleR t L).1.2[k] := List.getElem?_eq_getElem hk
  obtain ⟨x', hx', e⟩ := settle_at hy
  rw [h] at hx'
  cases hx'
  have q2 := st_held (selectT t L) k (desP (selectT t L) x)
  refine ⟨_, hy, by rw [e, q2.2.2.2.2.1, desP_id], ?_⟩
  rw [e, q2.2.2.2.2.2]
  unfold desP
  split <;> rfl
theorem settle_unlike {t : Th} {L : List Po} (hU : Unlike L) : Unlike (settleR t L).1.2 := by
  intro i j p q hp hq hn
  obtain ⟨x, hx, rfl⟩ := settle_at hp
  obtain ⟨y, hy, rfl⟩ := settle_at hq
  rw [(st_held _ _ _).2.2.2.2.1, (st_held _ _ _).2.2.2.2.1, desP_id, desP_id]
  exact hU i j x y hx hy hn
theorem settle_cost {t : Th} {L : List Po} (hk : ∀ x ∈ L, CostB x) {j : Nat} {y : Po} (hy : (settleR t L).1.2[j]? = some y) (hm : mayB y t.ow = true) : CostB y := by
  obtain ⟨x, hx, rfl⟩ := settle_at hy
  have q1 := st_all (selectT t L) j (desP (selectT t L) x)
  have q2 := st_held (selectT t L) j (desP (selectT t L) x)
  have hl : Like (stP (selectT t L) j (desP (selectT t L) x)).1 (desP (selectT t L) x) := ⟨q2.2.2.2.2.1, q2.2.2.2.2.2, q2.1, q2.2.1, q2.2.2.1, q2.2.2.2.1, q1.2.1⟩
  rw [hl.may] at hm
  have hd := (des_may (t := selectT t L) (x := x) (by rw [sel_ow]; exact hm)).1
  have hc := hk x (List.mem_of_getElem? hx)
  unfold CostB at hc ⊢
  rw [q2.2.2.2.2.2, q2.2.1, hd]
  exact hc
/-- As the law says it: settled, then heard, then heard again. -/
theorem twice_law {t : Th} {L : List Po} (hU : Unlike L) (hk : ∀ x ∈ L, CostB x) {k : Nat} {p : Po} {x : Bq} (hp : L[k]? = some p) (hc : 0 ≤ x.co ∧ x.co < 2147483648) (hx : ¬ (x.br = t.ow ∧ x.po = p.id)) :
    RootOf (heardR (heardR (settleR t L).1.1 (settleR t L).1.2 k x).1.1 (heardR (settleR t L).1.1 (settleR t L).1.2 k x).1.2 k x).1.1 (heardR (settleR t L).1.1 (settleR t L).1.2 k x).1.1 ∧
      Alike Core (heardR (heardR (settleR t L).1.1 (settleR t L).1.2 k x).1.1 (heardR (settleR t L).1.1 (settleR t L).1.2 k x).1.2 k x).1.2 (heardR (settleR t L).1.1 (settleR t L).1.2 k x).1.2 := by
  have how : (settleR t L).1.1.ow = t.ow := (root_settle t L).1.trans (sel_ow t L)
  obtain ⟨y, hy, hid, hco⟩ := settle_id (t := t) hp
  refine heard_twice (settle_unlike hU) hy (by rw [how, hid]; exact hx) (fun z hz hm => ?_)
  rw [how] at hm
  rcases List.mem_or_eq_of_mem_set hz with q | rfl
  · obtain ⟨j, hj, e⟩ := List.getElem_of_mem q
    exact settle_cost hk (by rw [List.getElem?_eq_getElem hj, e]) hm
  · have h1 := hk p (List.mem_of_getElem? hp)
    unfold CostB at h1 ⊢
    show 1 ≤ y.co ∧ y.co ≤ 65535 ∧ 0 ≤ x.co ∧ x.co < 2147483648
    rw [hco]
    omega
theorem better_law {t : Th} {L : List Po} (hk : ∀ x ∈ L, CostB x) {k : Nat} {p : Po} {x : Bq} (hp : L[k]? = some p) (hx : ¬ (x.br = t.ow ∧ x.po = p.id)) :
    (heardR (settleR t L).1.1 (settleR t L).1.2 k x).1.1.ro ≤ (settleR t L).1.1.ro ∧ ((settleR t L).1.1.rp < 0 ∨ 0 ≤ (heardR (settleR t L).1.1 (settleR t L).1.2 k x).1.1.rp) := by
  obtain ⟨y, hy, hid, -⟩ := settle_id (t := t) hp
  exact heard_better hk hy (by rw [hid]; exact hx)

end Go.Proofs.YteplefdnnehdgaaGreatDoor

/- awake of stage 14: the document's example. -/
namespace Go.Proofs.YteplefdnnehdgaaGreatDoor
set_option maxRecDepth 100000
open Go.ChangeShapes Go.WideShapes Go.ChangeAt Go.RowKit
set_option linter.unusedVariables false
set_option linter.unusedSimpArgs false

/-- The example's configuration, and its view. -/
def eC (N : Nat) : Cf := ⟨7, 0, 20, 2, 15, 300, 0, some ⟨N, 0, none⟩, 2, 2⟩
def eL : List PV := [⟨0, 19, true⟩, ⟨0, 19, false⟩]
def eT : Th := ⟨7, 7, 0, -1, 5120, 512, 3840, 5120, 512, 3840, false, false, false, 0, false, 0, false, 0⟩
def eP : List Po := [⟨1, 1, 19, 7, 0, 7, 1, false, false, false, 0, false, 0, false, 0⟩, ⟨2, 0, 19, 7, 0, 7, 2, false, false, false, 0, false, 0, false, 0⟩]
def eO : Ou := ⟨0, 7, ⟨false, false, false, 7, 0, 7, 1, 0, 5120, 512, 3840⟩⟩
theorem eT_is (N : Nat) : newT (eC N) = eT := rfl
theorem eP_is (N : Nat) : newL (eC N) eL = eP := rfl
theorem eR_is : allR eT eP 2 = ([⟨1, 1, 19, 7, 0, 7, 1, false, false, false, 0, false, 0, true, 0⟩, ⟨2, 0, 19, 7, 0, 7, 2, false, false, false, 0, false, 0, false, 0⟩], [eO]) := rfl
theorem eB (N : Nat) : CB (eC N) := by
  unfold CB eC
  dsimp only
  decide
theorem e_in (w : World) : PortsIn (w.alloc (.cells #[.int .u8 0, .int .u32 19, .bool true, .int .u8 0, .int .u32 19, .bool false] 47)) (some ⟨w.heap.size, 0, none⟩) (w.alloc (.cells #[.int .u8 0, .int .u32 19, .bool true, .int .u8 0, .int .u32 19, .bool false] 47)).heap.size eL := by
  have h := heap_alloc_new w (.cells #[.int .u8 0, .int .u32 19, .bool true, .int .u8 0, .int .u32 19, .bool false] 47)
  have hb : Bk (w.alloc (.cells #[.int .u8 0, .int .u32 19, .bool true, .int .u8 0, .int .u32 19, .bool false] 47)) w.heap.size 47 [.int .u8 0, .int .u32 19, .bool true, .int .u8 0, .int .u32 19, .bool false] := h
  intro k x hx
  match k, hx with
  | 0, hx =>
    cases hx
    refine ⟨_, rfl, by simp, ?_, ?_, ?_, by unfold PB; decide⟩
    · exact hb.cell 0
    · exact hb.cell 1
    · exact hb.cell 2
  | 1, hx =>
    cases hx
    refine ⟨_, rfl, by simp, ?_, ?_, ?_, by unfold PB; decide⟩
    · exact hb.cell 3
    · exact hb.cell 4
    · exact hb.cell 5
theorem eTB : ThB eT := by unfold ThB eT; dsimp only; decide
theorem ePB : ∀ x ∈ eP, PoB x := by
  intro x hx
  simp only [eP, List.mem_cons, List.not_mem_nil, or_false] at hx
  rcases hx with rfl | rfl
  · unfold PoB; dsimp only; decide
  · unfold PoB; dsimp only; decide

end Go.Proofs.YteplefdnnehdgaaGreatDoor

/- The document's Fit: what it tells if it says yes. -/
namespace Go.Proofs.YteplefdnnehdgaaGreatDoor
set_option maxRecDepth 100000
open Go.ChangeShapes Go.WideShapes Go.ChangeAt Go.RowKit
set_option linter.unusedVariables false

/-- What fits, and Fit, hand out. -/
def FitsEnd (w : World) (e : Ending) (w' : World) : Prop := ∃ q : Bool, e = .returned (.bool q) ∧ Below w.heap.size w w'
def FitEnd (w : World) (n : Nat) (L : List Po) (e : Ending) (w' : World) : Prop := ∃ q : Bool, e = .returned (.bool q) ∧ (q = true → n ≤ 12 ∧ Unlike L) ∧ Below w.heap.size w w'

theorem fits_tm (o : Bool) (v : Int) (w : World) :
    Calls Tryz.prog 12 #[.agg #[.bool o, .int .i64 v]] w (FitsEnd w) := by
  by_cases h0 : v < 0
  · go_enter Tryz.func12, Tryz.ntmps12
    go_wp2
    go_ret
    exact ⟨_, rfl, (Below.refl _ _).alloc (Nat.le_refl _) _⟩
  by_cases h1 : 1073741824 < v
  · go_enter Tryz.func12, Tryz.ntmps12
    go_wp2
    go_ret
    exact ⟨_, rfl, (Below.refl _ _).alloc (Nat.le_refl _) _⟩
  cases o with
  | true =>
    go_enter Tryz.func12, Tryz.ntmps12
    go_wp2
    go_ret
    exact ⟨_, rfl, (Below.refl _ _).alloc (Nat.le_refl _) _⟩
  | false =>
    go_enter Tryz.func12, Tryz.ntmps12
    go_wp2
    go_ret
    exact ⟨_, rfl, (Below.refl _ _).alloc (Nat.le_refl _) _⟩

/-- The first i ports have unlike numbers. -/
def UnlikeTo (L : List Po) (i : Nat) : Prop := ∀ (a b : Nat) (p q : Po), a < i → b < a → L[a]? = some p → L[b]? = some q → p.id ≠ q.id
theorem unlike_of {L : List Po} {n : Nat} (hL : L.length = n) (h : UnlikeTo L n) : Unlike L := by
  intro i j p q hi hj e
  have h1 := po_lt hi
  have h2 := po_lt hj
  rcases Nat.lt_or_ge j i with k | k
  · exact h i j p q (by omega) k hi hj
  · exact fun e' => h j i q p (by omega) (by omega) hj hi e'.symm
theorem unlike_step {L : List Po} {i : Nat} {x : Po} (h : UnlikeTo L i) (hx : L[i]? = some x) (hi : ∀ (b : Nat) (q : Po), b < i → L[b]? = some q → q.id ≠ x.id) : UnlikeTo L (i + 1) := by
  intro a b p q ha hb hp hq
  by_cases e : a = i
  · subst e
    rw [hx] at hp
    cases hp
    exact fun e' => hi b q hb hq e'.symm
  · exact h a b p q (by omega) hb hp hq

set_option maxRecDepth 100000 in
set_option maxHeartbeats 2000000 in
theorem fit_is (t : Th) (A : Option Addr) (n cap : Nat) (L : List Po) (hL : Hid (L.length = n)) (hn : n ≤ 9223372036854775807) (w : World) (hp : Hid (PoAt w A w.heap.size L)) :
    Calls Tryz.prog 5 #[.agg (lT t A n cap).toArray] w (FitEnd w n L) := by
  obtain ⟨wb, hwb, S⟩ := hs_one w 31 (lT t A n cap)
  go_enter Tryz.func5, Tryz.ntmps5
  go_upto_region 1 with fail
  clear hwb
  obtain ⟨X, hX⟩ : ∃ X, w.heap.size = X := ⟨_, rfl⟩
  rw [hX] at S
  rw [hX]
  have HX := Lib.hid hX
  clear hX
  have c18 := S.cell 0 18 rfl rfl
  by_cases h12 : 12 < n
  · have h12' : (12 : Int) < (n : Int) := by omega
    go_wp2
    go_ret
    exact ⟨false, rfl, (fun e => by cases e), HX.out ▸ S.old⟩
  have h12' : ¬ (12 : Int) < (n : Int) := by omega
  have HN := Lib.hid (show n ≤ 12 by omega)
  clear h12 hn
  have c12 := S.cell 0 12 rfl rfl
  have c13 := S.cell 0 13 rfl rfl
  go_wp2_with fail
  (with_reducible refine (fits_tm _ _ _).mono ?_); rintro e w1 ⟨q1, rfl, b1⟩
  have S1 := S.below b1
  clear S b1 c18 c12 c13
  cases q1 with
  | false =>
    go_wp2
    go_ret
    exact ⟨false, rfl, (fun e => by cases e), HX.out ▸ S1.old⟩
  | true =>
  have c14 := S1.cell 0 14 rfl rfl
  have c15 := S1.cell 0 15 rfl rfl
  go_wp2_with fail
  (with_reducible refine (fits_tm _ _ _).mono ?_); rintro e w2 ⟨q2, rfl, b2⟩
  have S2 := S1.below b2
  clear S1 b2 c14 c15
  cases q2 with
  | false =>
    go_wp2
    go_ret
    exact ⟨false, rfl, (fun e => by cases e), HX.out ▸ S2.old⟩
  | true =>
  have c16 := S2.cell 0 16 rfl rfl
  have c17 := S2.cell 0 17 rfl rfl
  go_wp2_with fail
  (with_reducible refine (fits_tm _ _ _).mono ?_); rintro e w3 ⟨q3, rfl, b3⟩
  have S3 := S2.below b3
  clear S2 b3 c16 c17
  cases q3 with
  | false =>
    go_wp2
    go_ret
    exact ⟨false, rfl, (fun e => by cases e), HX.out ▸ S3.old⟩
  | true =>
  clear h12'
  go_wp2
  go_loopw [3] (fun i wr => ∃ k : Nat, k ≤ n ∧ i = .int .i64 k ∧ Hid (UnlikeTo L k) ∧ Hs w [(X, 31, lT t A n cap)] wr) (fun i _ => n - (intOf i).toNat)
  case atStart => exact ⟨0, Nat.zero_le _, rfl, Lib.hid (fun a b p q h => by omega), S3⟩
  case round =>
    clear S3
    obtain ⟨k, hk, rfl, hu, S⟩ := hrel
    have x18 := S.cell 0 18 rfl rfl
    by_cases hkn : k < n
    · obtain ⟨x, hx⟩ := po_at hL.out hkn
      have hki : (k : Int) < (n : Int) := by omega
      have hkz : ¬ (n : Int) ≤ (k : Int) := by omega
      have HP := Lib.hid ((hp.out.below S.old (Nat.le_refl _)).wide S.old.size)
      obtain ⟨ad, hA, hab, h0, h1⟩ := HP.out.cells hx
      have HX2 := Lib.hid hx
      have HA := Lib.hid hA
      have k9 : wr.cell? ⟨(ad.add (k * 15)).block, (ad.add (k * 15)).off + 9, none⟩ = some (.bool x.ao) := h1 8 _ rfl
      have k10 : wr.cell? ⟨(ad.add (k * 15)).block, (ad.add (k * 15)).off + 9 + 1, none⟩ = some (.int .i64 x.av) := h1 9 _ rfl
      have k11 : wr.cell? ⟨(ad.add (k * 15)).block, (ad.add (k * 15)).off + 11, none⟩ = some (.bool x.yo) := h1 10 _ rfl
      have k12 : wr.cell? ⟨(ad.add (k * 15)).block, (ad.add (k * 15)).off + 11 + 1, none⟩ = some (.int .i64 x.yv) := h1 11 _ rfl
      have k13 : wr.cell? ⟨(ad.add (k * 15)).block, (ad.add (k * 15)).off + 13, none⟩ = some (.bool x.ho) := h1 12 _ rfl
      have k14 : wr.cell? ⟨(ad.add (k * 15)).block, (ad.add (k * 15)).off + 13 + 1, none⟩ = some (.int .i64 x.hv) := h1 13 _ rfl
      rw [hA] at x18
      clear hx h0 h1
      go_wp2_with fail
      (with_reducible refine (fits_tm _ _ _).mono ?_); rintro e v1 ⟨q1, rfl, b1⟩
      have T1 := S.below b1
      have j11 : v1.cell? ⟨(ad.add (k * 15)).block, (ad.add (k * 15)).off + 11, none⟩ = some (.bool x.yo) := (b1.cell (by rw [Go.Proofs.YteplefdnnehdgaaGreatDoor.add_block]; exact Nat.lt_of_lt_of_le hab (Nat.le_refl _))).trans k11
      have j12 : v1.cell? ⟨(ad.add (k * 15)).block, (ad.add (k * 15)).off + 11 + 1, none⟩ = some (.int .i64 x.yv) := (b1.cell (by rw [Go.Proofs.YteplefdnnehdgaaGreatDoor.add_block]; exact hab)).trans k12
      have j13 : v1.cell? ⟨(ad.add (k * 15)).block, (ad.add (k * 15)).off + 13, none⟩ = some (.bool x.ho) := (b1.cell (by rw [Go.Proofs.YteplefdnnehdgaaGreatDoor.add_block]; exact hab)).trans k13
      have j14 : v1.cell? ⟨(ad.add (k * 15)).block, (ad.add (k * 15)).off + 13 + 1, none⟩ = some (.int .i64 x.hv) := (b1.cell (by rw [Go.Proofs.YteplefdnnehdgaaGreatDoor.add_block]; exact hab)).trans k14
      have hab1 := Nat.lt_of_lt_of_le hab b1.size
      clear k9 k10 k11 k12 k13 k14 x18 S b1 hab
      cases q1 with
      | false =>
        go_wp2
        go_ret
        exact ⟨false, rfl, (fun e => by cases e), HX.out ▸ T1.old⟩
      | true =>
      have x18 := T1.cell 0 18 rfl rfl
      rw [HA.out] at x18
      go_wp2_with fail
      (with_reducible refine (fits_tm _ _ _).mono ?_); rintro e v2 ⟨q2, rfl, b2⟩
      have T2 := T1.below b2
      have i13 : v2.cell? ⟨(ad.add (k * 15)).block, (ad.add (k * 15)).off + 13, none⟩ = some (.bool x.ho) := (b2.cell (by rw [Go.Proofs.YteplefdnnehdgaaGreatDoor.add_block]; exact hab1)).trans j13
      have i14 : v2.cell? ⟨(ad.add (k * 15)).block, (ad.add (k * 15)).off + 13 + 1, none⟩ = some (.int .i64 x.hv) := (b2.cell (by rw [Go.Proofs.YteplefdnnehdgaaGreatDoor.add_block]; exact hab1)).trans j14
      clear j11 j12 j13 j14 x18 T1 b2 hab1
      cases q2 with
      | false =>
        go_wp2
        go_ret
        exact ⟨false, rfl, (fun e => by cases e), HX.out ▸ T2.old⟩
      | true =>
      have x18 := T2.cell 0 18 rfl rfl
      rw [HA.out] at x18
      go_wp2_with fail
      (with_reducible refine (fits_tm _ _ _).mono ?_); rintro e v3 ⟨q3, rfl, b3⟩
      have T3 := T2.below b3
      clear i13 i14 x18 T2 b3 HP
      cases q3 with
      | false =>
        go_wp2
        go_ret
        exact ⟨false, rfl, (fun e => by cases e), HX.out ▸ T3.old⟩
      | true =>
      go_wp2
      clear hki hkz
      go_loopw [4] (fun i wr => ∃ j : Nat, j ≤ k ∧ i = .int .i64 j ∧ Hid (∀ (b : Nat) (q : Po), b < j → L[b]? = some q → q.id ≠ x.id) ∧ Hs w [(X, 31, lT t A n cap)] wr) (fun i _ => k - (intOf i).toNat)
      case atStart => exact ⟨0, Nat.zero_le _, rfl, Lib.hid (fun b q h => by omega), T3⟩
      case round =>
        clear T3
        obtain ⟨j, hj, rfl, hs, S⟩ := hrel
        by_cases hjk : j < k
        · have hji : (j : Int) < (k : Int) := by omega
          have hjn : (j : Int) < (n : Int) := by omega
          have hjz : ¬ (n : Int) ≤ (j : Int) := by omega
          have hkn' : (k : Int) < (n : Int) := by omega
          have hkz : ¬ (n : Int) ≤ (k : Int) := by omega
          obtain ⟨y, hy⟩ := po_at hL.out (show j < n by omega)
          have HY := Lib.hid hy
          have HP := Lib.hid ((hp.out.below S.old (Nat.le_refl _)).wide S.old.size)
          obtain ⟨a1, e1, hab, h0, -⟩ := HP.out.cells HX2.out
          obtain rfl : ad = a1 := Option.some.inj (HA.out.symm.trans e1)
          obtain ⟨a2, e2, -, g0, -⟩ := HP.out.cells hy
          obtain rfl : ad = a2 := Option.some.inj (HA.out.symm.trans e2)
          have x18 := S.cell 0 18 rfl rfl
          rw [HA.out] at x18
          obtain ⟨p, hp1⟩ : ∃ p, (y.id == x.id) = p := ⟨_, rfl⟩
          have HPP := Lib.hid hp1
          clear hy e1 e2
          cases p with
          | true =>
            go_upto_region 11 with fail
            go_quiet (fail)
            go_wp2
            go_ret
            exact ⟨false, rfl, (fun e => by cases e), HX.out ▸ (S.old.trans ⟨rfl, rfl, rfl, Nat.le_refl _, fun _ _ => rfl⟩ : Below w.heap.size w (wr.drewN nq))⟩
          | false =>
            go_upto_region 11 with fail
            go_quiet (fail)
            have S4 := S.below (show Below wr.heap.size wr (wr.drewN nq) from ⟨rfl, rfl, rfl, Nat.le_refl _, fun _ _ => rfl⟩)
            generalize wr.drewN nq = w4 at S4 ⊢
            clear S h0 g0 x18 HP
            have hN := HN.out
            go_wp2
            exact ⟨⟨j + 1, hjk, by go_num, Lib.hid (fun b q hb hq => by
              by_cases e : b = j
              · subst e
                rw [HY.out] at hq
                cases hq
                simpa using HPP.out
              · exact hs.out b q (by omega) hq), S4⟩, by simp [intOf]; omega⟩
        · have hjz : ¬ (j : Int) < (k : Int) := by omega
          have hje : j = k := by omega
          have hN := HN.out
          go_wp2
          rw [← HA.out]
          go_roundw
          case rel => exact ⟨k + 1, by omega, by go_num, Lib.hid (unlike_step hu.out HX2.out (fun b q hb hq => hs.out b q (by omega) hq)), S⟩
          case measure => simp [intOf]; omega
    · have hkz : ¬ (k : Int) < (n : Int) := by omega
      have hke : k = n := by omega
      go_wp2
      go_ret
      exact ⟨true, rfl, (fun _ => ⟨HN.out, unlike_of hL.out (hke ▸ hu.out)⟩), HX.out ▸ S.old⟩

end Go.Proofs.YteplefdnnehdgaaGreatDoor

/- A view that came in as an argument. -/
namespace Go.Proofs.YteplefdnnehdgaaGreatDoor
set_option maxRecDepth 100000
open Go.Joins Go.ChangeShapes Go.WideShapes Go.ChangeAt Go.RowKit Go.Deep
set_option linter.unusedVariables false

theorem tr_list_of {τ : Type} {P : Nat → τ → Prop} : ∀ n, (∀ i, i < n → ∃ t, P i t) → ∃ L : List τ, L.length = n ∧ ∀ k t, L[k]? = some t → P k t
  | 0, _ => ⟨[], rfl, fun k t e => by simp at e⟩
  | n + 1, h => by
    obtain ⟨L, hl, hL⟩ := tr_list_of n (fun i hi => h i (by omega))
    obtain ⟨t, ht⟩ := h n (by omega)
    refine ⟨L ++ [t], by simp [hl], fun k u e => ?_⟩
    rcases Nat.lt_or_ge k n with q | q
    · rw [List.getElem?_append_left (by omega)] at e
      exact hL k u e
    · rw [List.getElem?_append_right (by omega)] at e
      have : k - L.length = 0 := by
        rcases Nat.eq_zero_or_pos (k - L.length) with z | z
        · exact z
        · rw [List.getElem?_eq_none (by simp; omega)] at e; cases e
      rw [this] at e
      have hk : k = n := by omega
      have := Option.some.inj e
      subst this
      rw [hk]; exact ht

theorem Tryz.cellsTree : Tryz.prog.cellsOf 31 = 19 := by kernel_rfl
theorem Tryz.cellsTms : Tryz.prog.cellsOf 26 = 3 := by kernel_rfl
theorem Tryz.cellsSlP : Tryz.prog.cellsOf 29 = 1 := by kernel_rfl

section
variable {H : Type} {enc : TypeId × Value → H} {w : World} {base : Nat} {spare : Nat → Bool} {held : Bool}
theorem tms_trod {n : Nat} {c0 c1 c2 : Value} {y : DataW H × List MemPlace} (h : DataW.trod enc Tryz.prog w base spare held n 26 [c0, c1, c2] = some y) :
    ∃ (a b c : Int), c0 = .int .i64 a ∧ c1 = .int .i64 b ∧ c2 = .int .i64 c ∧ (-9223372036854775808 ≤ a ∧ a ≤ 9223372036854775807) ∧ (-9223372036854775808 ≤ b ∧ b ≤ 9223372036854775807) ∧ (-9223372036854775808 ≤ c ∧ c ≤ 9223372036854775807) := by
  obtain ⟨ys, n', _, _, hlen, hyl, hfl⟩ := DataW.trod_struct Tryz.underlying26 h
  have h0 : DataW.trod enc Tryz.prog w base spare held n' 3 (([c0, c1, c2].drop 0).take (Tryz.prog.cellsOf 3)) = ys[0]? := hfl 0 _ rfl
  have h1 : DataW.trod enc Tryz.prog w base spare held n' 3 (([c0, c1, c2].drop 1).take (Tryz.prog.cellsOf 3)) = ys[1]? := hfl 1 _ rfl
  have h2 : DataW.trod enc Tryz.prog w base spare held n' 3 (([c0, c1, c2].drop 2).take (Tryz.prog.cellsOf 3)) = ys[2]? := hfl 2 _ rfl
  rw [Tryz.cells1_64] at h0 h1 h2
  have hy3 : ys.length = 3 := hyl
  have y0 : ys[0]? = some (ys[0]'(by omega)) := List.getElem?_eq_getElem (by omega)
  have y1 : ys[1]? = some (ys[1]'(by omega)) := List.getElem?_eq_getElem (by omega)
  have y2 : ys[2]? = some (ys[2]'(by omega)) := List.getElem?_eq_getElem (by omega)
  rw [y0] at h0
  rw [y1] at h1
  rw [y2] at h2
  obtain ⟨a, e0, _, wa⟩ := DataW.trod_int Tryz.underlying3 h0
  obtain ⟨b, e1, _, wb⟩ := DataW.trod_int Tryz.underlying3 h1
  obtain ⟨c, e2, _, wc⟩ := DataW.trod_int Tryz.underlying3 h2
  simp at e0 e1 e2
  subst e0 e1 e2
  exact ⟨a, b, c, rfl, rfl, rfl, bounds_i64 wa, bounds_i64 wb, bounds_i64 wc⟩
end

/-- The times' bounds. -/
def TmB (t : Th) : Prop := (-9223372036854775808 ≤ t.n1 ∧ t.n1 ≤ 9223372036854775807 ∧ -9223372036854775808 ≤ t.n2 ∧ t.n2 ≤ 9223372036854775807 ∧ -9223372036854775808 ≤ t.n3 ∧ t.n3 ≤ 9223372036854775807)

set_option maxRecDepth 100000 in
theorem tree_in3 {H : Type} {enc : TypeId × Value → H} {w : World} {r : Reach} {base b0 : Nat} {v : Value} {d : DataW H} {p : List MemPlace}
    (hv : Value.okWide Tryz.prog w r b0 31 v) (h : DataW.Trod enc Tryz.prog w base (fun _ => true) true 31 v d p) :
    ∃ (t : Th) (A : Option Addr) (n cap : Nat) (L : List Po), v = .agg (lT t A n cap).toArray ∧ ThB t ∧ TmB t ∧ L.length = n ∧ n ≤ 9223372036854775807 ∧ (A = none → cap = 0) ∧ (∀ x ∈ L, PoB x) ∧ PoAt w A w.heap.size L := by
  obtain ⟨cs, rfl, hsz⟩ := okWide_struct Tryz.underlying31 hv
  obtain ⟨l⟩ := cs
  match l, hsz.trans Tryz.cellsTree with
  | [c0, c1, c2, c3, c4, c5, c6, c7, c8, c9, c10, c11, c12, c13, c14, c15, c16, c17, c18], _ =>
    obtain ⟨fuel, hf⟩ := h
    obtain ⟨ys, n', _, _, hlen, hyl, hfl⟩ := DataW.trod_struct Tryz.underlying31 hf
    have h0 : DataW.trod enc Tryz.prog w base (fun _ => true) true n' 23 (([c0, c1, c2, c3, c4, c5, c6, c7, c8, c9, c10, c11, c12, c13, c14, c15, c16, c17, c18].drop 0).take (Tryz.prog.cellsOf 23)) = ys[0]? := hfl 0 _ rfl
    rw [Tryz.cells1_id] at h0
    have h1 : DataW.trod enc Tryz.prog w base (fun _ => true) true n' 23 (([c0, c1, c2, c3, c4, c5, c6, c7, c8, c9, c10, c11, c12, c13, c14, c15, c16, c17, c18].drop 1).take (Tryz.prog.cellsOf 23)) = ys[1]? := hfl 1 _ rfl
    rw [Tryz.cells1_id] at h1
    have h2 : DataW.trod enc Tryz.prog w base (fun _ => true) true n' 24 (([c0, c1, c2, c3, c4, c5, c6, c7, c8, c9, c10, c11, c12, c13, c14, c15, c16, c17, c18].drop 2).take (Tryz.prog.cellsOf 24)) = ys[2]? := hfl 2 _ rfl
    rw [Tryz.cells1_32] at h2
    have h3 : DataW.trod enc Tryz.prog w base (fun _ => true) true n' 3 (([c0, c1, c2, c3, c4, c5, c6, c7, c8, c9, c10, c11, c12, c13, c14, c15, c16, c17, c18].drop 3).take (Tryz.prog.cellsOf 3)) = ys[3]? := hfl 3 _ rfl
    rw [Tryz.cells1_64] at h3
    have h4 : DataW.trod enc Tryz.prog w base (fun _ => true) true n' 26 (([c0, c1, c2, c3, c4, c5, c6, c7, c8, c9, c10, c11, c12, c13, c14, c15, c16, c17, c18].drop 4).take (Tryz.prog.cellsOf 26)) = ys[4]? := hfl 4 _ rfl
    rw [Tryz.cellsTms] at h4
    have h5 : DataW.trod enc Tryz.prog w base (fun _ => true) true n' 26 (([c0, c1, c2, c3, c4, c5, c6, c7, c8, c9, c10, c11, c12, c13, c14, c15, c16, c17, c18].drop 7).take (Tryz.prog.cellsOf 26)) = ys[5]? := hfl 5 _ rfl
    rw [Tryz.cellsTms] at h5
    have h6 : DataW.trod enc Tryz.prog w base (fun _ => true) true n' 4 (([c0, c1, c2, c3, c4, c5, c6, c7, c8, c9, c10, c11, c12, c13, c14, c15, c16, c17, c18].drop 10).take (Tryz.prog.cellsOf 4)) = ys[6]? := hfl 6 _ rfl
    rw [Tryz.cells1_b] at h6
    have h7 : DataW.trod enc Tryz.prog w base (fun _ => true) true n' 4 (([c0, c1, c2, c3, c4, c5, c6, c7, c8, c9, c10, c11, c12, c13, c14, c15, c16, c17, c18].drop 11).take (Tryz.prog.cellsOf 4)) = ys[7]? := hfl 7 _ rfl
    rw [Tryz.cells1_b] at h7
    have h8 : DataW.trod enc Tryz.prog w base (fun _ => true) true n' 28 (([c0, c1, c2, c3, c4, c5, c6, c7, c8, c9, c10, c11, c12, c13, c14, c15, c16, c17, c18].drop 12).take (Tryz.prog.cellsOf 28)) = ys[8]? := hfl 8 _ rfl
    rw [Tryz.cellsTm] at h8
    have h9 : DataW.trod enc Tryz.prog w base (fun _ => true) true n' 28 (([c0, c1, c2, c3, c4, c5, c6, c7, c8, c9, c10, c11, c12, c13, c14, c15, c16, c17, c18].drop 14).take (Tryz.prog.cellsOf 28)) = ys[9]? := hfl 9 _ rfl
    rw [Tryz.cellsTm] at h9
    have h10 : DataW.trod enc Tryz.prog w base (fun _ => true) true n' 28 (([c0, c1, c2, c3, c4, c5, c6, c7, c8, c9, c10, c11, c12, c13, c14, c15, c16, c17, c18].drop 16).take (Tryz.prog.cellsOf 28)) = ys[10]? := hfl 10 _ rfl
    rw [Tryz.cellsTm] at h10
    have h11 : DataW.trod enc Tryz.prog w base (fun _ => true) true n' 29 (([c0, c1, c2, c3, c4, c5, c6, c7, c8, c9, c10, c11, c12, c13, c14, c15, c16, c17, c18].drop 18).take (Tryz.prog.cellsOf 29)) = ys[11]? := hfl 11 _ rfl
    rw [Tryz.cellsSlP] at h11
    have hy : ys.length = 12 := hyl
    have y0 : ys[0]? = some (ys[0]'(by omega)) := List.getElem?_eq_getElem (by omega)
    rw [y0] at h0
    have y1 : ys[1]? = some (ys[1]'(by omega)) := List.getElem?_eq_getElem (by omega)
    rw [y1] at h1
    have y2 : ys[2]? = some (ys[2]'(by omega)) := List.getElem?_eq_getElem (by omega)
    rw [y2] at h2
    have y3 : ys[3]? = some (ys[3]'(by omega)) := List.getElem?_eq_getElem (by omega)
    rw [y3] at h3
    have y4 : ys[4]? = some (ys[4]'(by omega)) := List.getElem?_eq_getElem (by omega)
    rw [y4] at h4
    have y5 : ys[5]? = some (ys[5]'(by omega)) := List.getElem?_eq_getElem (by omega)
    rw [y5] at h5
    have y6 : ys[6]? = some (ys[6]'(by omega)) := List.getElem?_eq_getElem (by omega)
    rw [y6] at h6
    have y7 : ys[7]? = some (ys[7]'(by omega)) := List.getElem?_eq_getElem (by omega)
    rw [y7] at h7
    have y8 : ys[8]? = some (ys[8]'(by omega)) := List.getElem?_eq_getElem (by omega)
    rw [y8] at h8
    have y9 : ys[9]? = some (ys[9]'(by omega)) := List.getElem?_eq_getElem (by omega)
    rw [y9] at h9
    have y10 : ys[10]? = some (ys[10]'(by omega)) := List.getElem?_eq_getElem (by omega)
    rw [y10] at h10
    have y11 : ys[11]? = some (ys[11]'(by omega)) := List.getElem?_eq_getElem (by omega)
    rw [y11] at h11
    obtain ⟨a0, e0, _, w0⟩ := DataW.trod_int Tryz.underlying23 h0
    obtain ⟨a1, e1, _, w1⟩ := DataW.trod_int Tryz.underlying23 h1
    obtain ⟨a2, e2, _, w2⟩ := DataW.trod_int Tryz.underlying24 h2
    obtain ⟨a3, e3, _, w3⟩ := DataW.trod_int Tryz.underlying3 h3
    obtain ⟨n1, n2, n3, e4, e5, e6, u1, u2, u3⟩ := tms_trod h4
    obtain ⟨m1, m2, m3, e7, e8, e9, -⟩ := tms_trod h5
    obtain ⟨de, e10, _⟩ := DataW.trod_bool Tryz.underlying4 h6
    obtain ⟨ch, e11, _⟩ := DataW.trod_bool Tryz.underlying4 h7
    obtain ⟨ho, hvv, e12, e13, _, _⟩ := tm_trod h8
    obtain ⟨xo, xv, e14, e15, _, _⟩ := tm_trod h9
    obtain ⟨zo, zv, e16, e17, _, _⟩ := tm_trod h10
    simp at e0 e1 e2 e3 e10 e11
    subst e0 e1 e2 e3 e4 e5 e6 e7 e8 e9 e10 e11 e12 e13 e14 e15 e16 e17
    have b0 := bounds_u64 w0
    have b1 := bounds_u64 w1
    have b2 := bounds_u32 w2
    have b3 := bounds_i64 w3
    rcases open_slice Tryz.underlying29 h11 with ⟨hcs, _⟩ | ⟨x, l, c, m, n, D, Q, hcs, _, hl, hm, hmm, _, hi⟩
    · simp at hcs
      subst hcs
      exact ⟨⟨a0, a1, a2, a3, n1, n2, n3, m1, m2, m3, de, ch, ho, hvv, xo, xv, zo, zv⟩, none, 0, 0, [], rfl, by unfold ThB; dsimp only; omega, by unfold TmB; dsimp only; omega, rfl, by omega, fun _ => rfl, fun x hx => by simp at hx, fun k y e => by simp at e⟩
    · simp at hcs
      subst hcs
      have hlm : l ≤ m := by rw [hmm]; split <;> omega
      obtain ⟨L, hL, hP⟩ := tr_list_of (P := fun k (y : Po) => (∀ i v, (lP y)[i]? = some v → w.cell? ((x.add (k * 15)).add i) = some v) ∧ PoB y) l (fun i hin => by
          obtain ⟨cs', hc, ht⟩ := hi i (by omega)
          rw [Tryz.cellsPo] at hc
          obtain ⟨_, hcl, hat⟩ := World.cells?_some hc
          match cs', hcl with
          | [q0, q1, q2, q3, q4, q5, q6, q7, q8, q9, q10, q11, q12, q13, q14], _ =>
            obtain ⟨y, e, hb⟩ := po_trod ht
            have hly : [q0, q1, q2, q3, q4, q5, q6, q7, q8, q9, q10, q11, q12, q13, q14] = lP y := e
            rw [hly] at hat
            refine ⟨y, fun j u hu => ?_, hb⟩
            have hj : j < 15 := by
              rcases Nat.lt_or_ge j 15 with q | q
              · exact q
              · rw [List.getElem?_eq_none (by rw [lP_len]; exact q)] at hu; cases hu
            have := hat j hj
            rw [this, ← hu])
      refine ⟨⟨a0, a1, a2, a3, n1, n2, n3, m1, m2, m3, de, ch, ho, hvv, xo, xv, zo, zv⟩, some x, l, c, L, rfl, by unfold ThB; dsimp only; omega, by unfold TmB; dsimp only; omega, hL, by unfold maxLen at hm; omega, (fun e => by cases e), fun y hy => ?_, fun k y e => ?_⟩
      · obtain ⟨k, hk, e⟩ := List.getElem_of_mem hy
        exact (hP k y (by rw [List.getElem?_eq_getElem hk, e])).2
      · have h1 := (hP k y e).1
        have hb := block_lt_of_cell (h1 0 _ rfl)
        rw [Go.Proofs.YteplefdnnehdgaaGreatDoor.add_block, Go.Proofs.YteplefdnnehdgaaGreatDoor.add_block] at hb
        exact ⟨x, rfl, hb, h1⟩

theorem tree_in {H : Type} {enc : TypeId × Value → H} {w : World} {r : Reach} {base b0 : Nat} {v : Value} {d : DataW H} {p : List MemPlace}
    (hv : Value.okWide Tryz.prog w r b0 31 v) (h : DataW.Trod enc Tryz.prog w base (fun _ => true) true 31 v d p) :
    ∃ (t : Th) (A : Option Addr) (n cap : Nat) (L : List Po), v = .agg (lT t A n cap).toArray ∧ ThB t ∧ L.length = n ∧ n ≤ 9223372036854775807 ∧ (A = none → cap = 0) ∧ (∀ x ∈ L, PoB x) ∧ PoAt w A w.heap.size L := by
  obtain ⟨t, A, n, cap, L, h1, h2, -, h3⟩ := tree_in3 hv h
  exact ⟨t, A, n, cap, L, h1, h2, h3⟩

end Go.Proofs.YteplefdnnehdgaaGreatDoor
