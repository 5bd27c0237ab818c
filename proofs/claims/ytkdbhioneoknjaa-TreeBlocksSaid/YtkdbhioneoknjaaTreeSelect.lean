/- Select: contract. -/
import Derived.Test.YtkdbhioneoknjaaTreeBest
import Derived.Test.YtkdbhioneoknjaaTreeCopy
namespace Go.Proofs.Ytkdbhioneoknjaa
open Go.ChangeShapes Go.WideShapes Go.ChangeAt Go.RowKit
set_option linter.unusedVariables false
set_option linter.unusedSimpArgs false

set_option maxRecDepth 100000 in
set_option maxHeartbeats 2000000 in
theorem select_is (t : Th) (A : Option Addr) (n cap : Nat) (L : List Po) (hL : Hid (L.length = n)) (hf : n ≤ 200) (hb : Hid (∀ x ∈ L, PoB x)) (hc : Hid (A = none → cap = 0)) (w : World) (hp : Hid (PoAt w A w.heap.size L)) :
    Calls Try.prog 10 #[.agg (lT t A n cap).toArray] w (TOut w (selectT t L) n L) := by
  obtain ⟨wb, hwb, S⟩ := hs_two w 31 31 (lT t A n cap) [.int .u64 0, .int .u64 0, .int .u32 0, .int .i64 0, .int .i64 0, .int .i64 0, .int .i64 0, .int .i64 0, .int .i64 0, .int .i64 0, .bool false, .bool false, .bool false, .int .i64 0, .bool false, .int .i64 0, .bool false, .int .i64 0, .slice none 0 0]
  go_enter Try.func10, Try.ntmps10
  go_upto_region 1 with fail
  clear hwb
  obtain ⟨X, hX⟩ : ∃ X, w.heap.size = X := ⟨_, rfl⟩
  rw [hX] at S
  obtain ⟨Y, hY⟩ : ∃ Y, X + 1 = Y := ⟨_, rfl⟩
  rw [hY] at S
  rw [hX]
  rw [hY]
  clear hX hY
  have hp1 := Lib.hid ((hp.out.below S.old (Nat.le_refl _)).wide S.old.size)
  have HC := Lib.hid (tcopy_is t A n cap L hL hf hc wb hp1)
  have hx := S.bk 1 rfl
  go_wp2_with (refine wpList_load_row rfl 31 _ rfl X rfl _ _ (0, 0) _ hx Try.underlying31 rfl (by kernel_rfl) ?_)
  (with_reducible refine HC.out.mono ?_); rintro e w1 ⟨D, cap', rfl, hz, k1⟩
  have S1 := TS.take S k1
  have HZ := Lib.hid hz
  clear S hx HC hp1 k1 hz
  have hx := S1.hs.bk 1 rfl
  go_upto_region 2 with (refine wpList_store_row rfl 31 _ _ rfl X _ rfl rfl _ _ hx (by kernel_rfl) (by kernel_rfl) (by kernel_rfl) ?_)
  have S2 : TS w [(Y, 31, [.int .u64 0, .int .u64 0, .int .u32 0, .int .i64 0, .int .i64 0, .int .i64 0, .int .i64 0, .int .i64 0, .int .i64 0, .int .i64 0, .bool false, .bool false, .bool false, .int .i64 0, .bool false, .int .i64 0, .bool false, .int .i64 0, .slice none 0 0]), (X, 31, lT t D n cap')] D L _ := S1.row 1 rfl (lT t D n cap')
  generalize w1.setRow X (lT t D n cap').toArray = w2 at S2 ⊢
  clear S1 hx
  have HPd : PoAt w2.drew D w2.drew.heap.size L := S2.ports
  have HB := fun W h => Lib.hid (best_is t D n cap' L hL hf hb W (Lib.hid h))
  have c0 := S2.hs.cell 1 0 rfl rfl
  refine wp_region_held_drew (S := (fun w' => w'.cell? ⟨X, 0, none⟩ = some (.int .u64 t.ow))) (by kernel_rfl) c0 (fun hHeld => ?_)
  refine wpAnyH_take (i := 2) (v := ?_) rfl (by kernel_rfl) (by kernel_rfl) (by kernel_rfl) (fun _ _ _ h => h) (Or.inl ⟨by kernel_rfl, ?_⟩) (by assumption) ?_
  rotate_left
  · intro w hSw; (try dsimp only at hSw); go_simp; with_reducible rfl
  try simp only [Act.put, List.setIfInBounds_toArray, List.set_cons_succ]
  refine wpAnyH_take (i := 3) (v := ?_) rfl (by kernel_rfl) (by kernel_rfl) (by kernel_rfl) (fun _ _ _ h => h) (Or.inl ⟨by kernel_rfl, ?_⟩) (by assumption) ?_
  rotate_left
  · intro w hSw; (try dsimp only at hSw); go_simp; with_reducible rfl
  try simp only [Act.put, List.setIfInBounds_toArray, List.set_cons_succ]
  refine wpAnyH_ready (rs := [0]) (by kernel_rfl) (by simp) ?_
  refine AllReadyH.cons rfl (fun K hK => ?_) AllReadyH.nil
  refine exec_if_row (by kernel_rfl) 31 _ rfl X (by kernel_rfl) _ _ (0, 0) _ (S2.hs.drew.bk 1 rfl) Try.underlying31 rfl (by kernel_rfl) ?_
  refine hK.out _ _ (hHeld) (fun hHeld => ?_)
  clear hK K
  try simp only [Act.put, List.setIfInBounds_toArray, List.set_cons_succ]
  refine wpAnyH_ready (rs := [1]) (by kernel_rfl) (by simp) ?_
  refine AllReadyH.cons rfl (fun K hK => ?_) AllReadyH.nil
  go_simp
  (with_reducible refine (HB w2.drew HPd).out.mono ?_); rintro e w3 ⟨rfl, b3⟩
  have S3 := (S2.below (wy := w2.drew) ((Below.refl _ _).drew)).below b3
  clear HB HPd c0 S2
  refine hK.out _ _ (S3.hs.cell 1 0 rfl rfl) (fun hHeld => ?_)
  clear hK K
  try simp only [Act.put, List.setIfInBounds_toArray, List.set_cons_succ]
  have c1 := S3.hs.cell 1 1 rfl rfl
  have c2 := S3.hs.cell 1 2 rfl rfl
  have c3 := S3.hs.cell 1 3 rfl rfl
  have f1 := S3.hs.thaw 1 1 rfl
  have f2 := S3.hs.thaw 1 2 rfl
  have f3 := S3.hs.thaw 1 3 rfl
  obtain ⟨bi, hbi⟩ : ∃ bi, toI (bst t.ow L n) = bi := ⟨_, rfl⟩
  rw [hbi]
  have HBI := Lib.hid hbi
  clear hbi
  refine wpAnyH_take (i := 4) (v := ?_) rfl (by kernel_rfl) (by kernel_rfl) (by kernel_rfl) (fun _ _ _ h => h) (Or.inl ⟨by kernel_rfl, ?_⟩) (by assumption) ?_
  rotate_left
  · intro w hSw; (try dsimp only at hSw); go_simp; with_reducible rfl
  try simp only [Act.put, List.setIfInBounds_toArray, List.set_cons_succ]
  refine wpAnyH_ready (rs := [5]) (by kernel_rfl) (by simp) ?_
  refine AllReadyH.cons rfl (fun K hK => ?_) AllReadyH.nil
  go_simp
  refine hK.out _ _ ((World.cell?_setCell_other _ _ _ _ (by simp)).trans hHeld) (fun hHeld => ?_)
  clear hK K
  try simp only [Act.put, List.setIfInBounds_toArray, List.set_cons_succ]
  refine wpAnyH_take (i := 6) (v := ?_) rfl (by kernel_rfl) (by kernel_rfl) (by kernel_rfl) (fun _ _ _ h => h) (Or.inl ⟨by kernel_rfl, ?_⟩) (by assumption) ?_
  rotate_left
  · intro w hSw; (try dsimp only at hSw); go_simp; with_reducible rfl
  try simp only [Act.put, List.setIfInBounds_toArray, List.set_cons_succ]
  refine wpAnyH_ready (rs := [7]) (by kernel_rfl) (by simp) ?_
  refine AllReadyH.cons rfl (fun K hK => ?_) AllReadyH.nil
  go_simp
  refine hK.out _ _ ((World.cell?_setCell_other _ _ _ _ (by simp)).trans hHeld) (fun hHeld => ?_)
  clear hK K
  try simp only [Act.put, List.setIfInBounds_toArray, List.set_cons_succ]
  refine wpAnyH_take (i := 8) (v := ?_) rfl (by kernel_rfl) (by kernel_rfl) (by kernel_rfl) (fun _ _ _ h => h) (Or.inl ⟨by kernel_rfl, ?_⟩) (by assumption) ?_
  rotate_left
  · intro w hSw; (try dsimp only at hSw); go_simp; with_reducible rfl
  try simp only [Act.put, List.setIfInBounds_toArray, List.set_cons_succ]
  refine wpAnyH_ready (rs := [9]) (by kernel_rfl) (by simp) ?_
  refine AllReadyH.cons rfl (fun K hK => ?_) AllReadyH.nil
  go_simp
  refine hK.out _ _ ((World.cell?_setCell_other _ _ _ _ (by simp)).trans hHeld) (fun hHeld => ?_)
  clear hK K
  try simp only [Act.put, List.setIfInBounds_toArray, List.set_cons_succ]
  refine wpAnyH_done (by kernel_rfl) ?_ _
  have S4 : TS w [(Y, 31, [.int .u64 0, .int .u64 0, .int .u32 0, .int .i64 0, .int .i64 0, .int .i64 0, .int .i64 0, .int .i64 0, .int .i64 0, .int .i64 0, .bool false, .bool false, .bool false, .int .i64 0, .bool false, .int .i64 0, .bool false, .int .i64 0, .slice none 0 0]), (X, 31, lT { t with rp := bi, ro := t.ow, co := 0 } D n cap')] D L _ := ((S3.set 1 rfl 3 (.int .i64 bi)).set 1 rfl 1 (.int .u64 t.ow)).set 1 rfl 2 (.int .u32 0)
  generalize ((w3.setCell ⟨X, 3, none⟩ (.int .i64 bi)).setCell ⟨X, 1, none⟩ (.int .u64 t.ow)).setCell ⟨X, 2, none⟩ (.int .u32 0) = w4 at S4 ⊢
  clear hHeld c1 c2 c3 f1 f2 f3 S3
  have c3 := S4.hs.cell 1 3 rfl rfl
  have c18 := S4.hs.cell 1 18 rfl rfl
  have hsel : ∀ r, r = bst t.ow L n → selT t L r = selectT t L := fun r e => by unfold selectT; rw [hL.out, e]
  obtain ⟨r, hr⟩ : ∃ r, bst t.ow L n = r := ⟨_, rfl⟩
  have HS := Lib.hid (hsel r hr.symm)
  have HR := Lib.hid hr
  have hbr := HBI.out
  rw [hr] at hbr
  clear hsel hr HBI
  cases r with
  | none =>
    have e : bi = -1 := hbr.symm
    subst e
    have e2 : ({ t with rp := -1, ro := t.ow, co := 0 } : Th) = selectT t L := HS.out
    rw [e2] at S4
    clear hbr e2
    have c3 : w4.cell? ⟨X, 3, none⟩ = some (.int .i64 (-1)) := c3
    have hx := S4.hs.bk 1 rfl
    have hy := S4.hs.bk 0 rfl
    go_wp2_with (first | (refine wpList_load_row rfl 31 _ rfl X rfl _ _ (0, 0) _ hx Try.underlying31 rfl (by kernel_rfl) ?_) | (refine wpList_store_row rfl 31 _ _ rfl Y _ rfl rfl _ _ hy (by kernel_rfl) (by kernel_rfl) (by kernel_rfl) ?_))
    exact bodyPost_ret (v := .agg (lT (selectT t L) D n cap').toArray) (results_cell_row rfl _ _ Y _ _ _ _ rfl (setRow_heap _ _ _ _ _ _ hy) Try.underlying31 rfl (by kernel_rfl)) rfl ⟨D, cap', rfl, HZ.out, (S4.row 0 rfl (lT (selectT t L) D n cap')).nobox⟩
  | some j =>
    have hbl := bst_lt HR.out
    obtain ⟨x, hx0⟩ := po_at (L := L) rfl hbl.2
    have HX0 := Lib.hid hx0
    have e : bi = (j : Int) := hbr.symm
    subst e
    clear hbr
    have hjn : (j : Int) < (n : Int) := by have := hL.out; omega
    have hj0 : ((j : Int) == -1) = false := by simp <;> omega
    have hj1 : ((j : Int) != -1) = true := by simp [bne, hj0]
    obtain ⟨ad, hA⟩ := S4.ports.some hx0
    have HA := Lib.hid hA
    have hat := S4.ports.at hx0 hA
    rw [hA] at c18 ⊢
    have HT := fun W => Lib.hid (through_is x (hb.out x (List.mem_of_getElem? HX0.out)) W)
    clear hx0 hA
    go_wp2_with (with_reducible refine wpList_load_at rfl 49 (.tmp 20) rfl (ad.add (j * 15)) (by kernel_rfl) _ _ hat Try.underlying49 rfl (by kernel_rfl) ?_)
    (with_reducible refine (HT _).out.mono ?_); rintro e w5 ⟨rfl, b5⟩
    have S5 := S4.below b5
    clear S4 HT hat c3 c18 b5
    go_upto_region 5 with (refine wpList_store_row rfl 39 _ _ rfl _ _ rfl rfl _ _ (heap_alloc_new _ _) (by kernel_rfl) (by kernel_rfl) (by kernel_rfl) ?_)
    rw [alloc_row]
    have S6 := S5.al rfl 39 [.int .u64 (thruV x).r, .int .u32 (thruV x).c, .int .u64 (thruV x).b, .int .u16 (thruV x).p]
    obtain ⟨V, hV⟩ : ∃ V, w5.heap.size = V := ⟨_, rfl⟩
    rw [hV] at S6 ⊢
    generalize w5.alloc (.cells #[.int .u64 (thruV x).r, .int .u32 (thruV x).c, .int .u64 (thruV x).b, .int .u16 (thruV x).p] 39) = w6 at S6 ⊢
    clear S5 hV
    have hVX : X ≠ V := fun e => S6.hs.2.1 2 0 _ _ (by decide) rfl rfl e
    have v0 := S6.hs.cell 0 0 rfl rfl
    have v1 := S6.hs.cell 0 1 rfl rfl
    have c1 := S6.hs.cell 2 1 rfl rfl
    have c2 := S6.hs.cell 2 2 rfl rfl
    have f1 := S6.hs.thaw 2 1 rfl
    have f2 := S6.hs.thaw 2 2 rfl
    refine wp_region_held_drew (S := (fun w' => w'.cell? ⟨V, 0, none⟩ = some (.int .u64 (thruV x).r) ∧ w'.cell? ⟨V, 1, none⟩ = some (.int .u32 (thruV x).c))) (by kernel_rfl) ⟨v0, v1⟩ (fun hHeld => ?_)
    refine wpAnyH_take (i := 0) (v := ?_) rfl (by kernel_rfl) (by kernel_rfl) (by kernel_rfl) (fun _ _ _ h => h) (Or.inl ⟨by kernel_rfl, ?_⟩) (by assumption) ?_
    rotate_left
    · intro w hSw; (try dsimp only at hSw); go_simp; with_reducible rfl
    try simp only [Act.put, List.setIfInBounds_toArray, List.set_cons_succ]
    refine wpAnyH_take (i := 1) (v := ?_) rfl (by kernel_rfl) (by kernel_rfl) (by kernel_rfl) (fun _ _ _ h => h) (Or.inl ⟨by kernel_rfl, ?_⟩) (by assumption) ?_
    rotate_left
    · intro w hSw; (try dsimp only at hSw); go_simp; with_reducible rfl
    try simp only [Act.put, List.setIfInBounds_toArray, List.set_cons_succ]
    refine wpAnyH_take (i := 2) (v := ?_) rfl (by kernel_rfl) (by kernel_rfl) (by kernel_rfl) (fun _ _ _ h => h) (Or.inl ⟨by kernel_rfl, ?_⟩) (by assumption) ?_
    rotate_left
    · intro w hSw; (try dsimp only at hSw); go_simp; with_reducible rfl
    try simp only [Act.put, List.setIfInBounds_toArray, List.set_cons_succ]
    refine wpAnyH_take (i := 3) (v := ?_) rfl (by kernel_rfl) (by kernel_rfl) (by kernel_rfl) (fun _ _ _ h => h) (Or.inl ⟨by kernel_rfl, ?_⟩) (by assumption) ?_
    rotate_left
    · intro w hSw; (try dsimp only at hSw); go_simp; with_reducible rfl
    try simp only [Act.put, List.setIfInBounds_toArray, List.set_cons_succ]
    refine wpAnyH_take (i := 4) (v := ?_) rfl (by kernel_rfl) (by kernel_rfl) (by kernel_rfl) (fun _ _ _ h => h) (Or.inl ⟨by kernel_rfl, ?_⟩) (by assumption) ?_
    rotate_left
    · intro w hSw; (try dsimp only at hSw); go_simp; with_reducible rfl
    try simp only [Act.put, List.setIfInBounds_toArray, List.set_cons_succ]
    refine wpAnyH_ready (rs := [5]) (by kernel_rfl) (by simp) ?_
    refine AllReadyH.cons rfl (fun K hK => ?_) AllReadyH.nil
    go_simp
    refine hK.out _ _ (⟨(World.cell?_setCell_far _ _ _ _ hVX).trans hHeld.1, (World.cell?_setCell_far _ _ _ _ hVX).trans hHeld.2⟩) (fun hHeld => ?_)
    clear hK K
    try simp only [Act.put, List.setIfInBounds_toArray, List.set_cons_succ]
    refine wpAnyH_take (i := 6) (v := ?_) rfl (by kernel_rfl) (by kernel_rfl) (by kernel_rfl) (fun _ _ _ h => h) (Or.inl ⟨by kernel_rfl, ?_⟩) (by assumption) ?_
    rotate_left
    · intro w hSw; (try dsimp only at hSw); go_simp; with_reducible rfl
    try simp only [Act.put, List.setIfInBounds_toArray, List.set_cons_succ]
    refine wpAnyH_ready (rs := [7]) (by kernel_rfl) (by simp) ?_
    refine AllReadyH.cons rfl (fun K hK => ?_) AllReadyH.nil
    go_simp
    refine hK.out _ _ (⟨(World.cell?_setCell_far _ _ _ _ hVX).trans hHeld.1, (World.cell?_setCell_far _ _ _ _ hVX).trans hHeld.2⟩) (fun hHeld => ?_)
    clear hK K
    try simp only [Act.put, List.setIfInBounds_toArray, List.set_cons_succ]
    refine wpAnyH_done (by kernel_rfl) ?_ _
    have S7 : TS w [(V, 39, [.int .u64 (thruV x).r, .int .u32 (thruV x).c, .int .u64 (thruV x).b, .int .u16 (thruV x).p]), (Y, 31, [.int .u64 0, .int .u64 0, .int .u32 0, .int .i64 0, .int .i64 0, .int .i64 0, .int .i64 0, .int .i64 0, .int .i64 0, .int .i64 0, .bool false, .bool false, .bool false, .int .i64 0, .bool false, .int .i64 0, .bool false, .int .i64 0, .slice none 0 0]), (X, 31, lT { t with rp := (j : Int), ro := x.hr, co := farI x.hc x.co } D n cap')] D L _ := (S6.set 2 rfl 1 (.int .u64 (thruV x).r)).set 2 rfl 2 (.int .u32 (thruV x).c)
    have e2 : ({ t with rp := (j : Int), ro := x.hr, co := farI x.hc x.co } : Th) = selectT t L := by rw [← HS.out]; simp only [selT, HX0.out]
    rw [e2] at S7
    have S8 := S7.below (wy := World.drew _) ((Below.refl _ _).drew)
    generalize ((w6.setCell ⟨X, 1, none⟩ (.int .u64 (thruV x).r)).setCell ⟨X, 2, none⟩ (.int .u32 (thruV x).c)).drew = w7 at S8 ⊢
    clear S7 S6 hHeld v0 v1 c1 c2 f1 f2 e2
    have hx := S8.hs.bk 2 rfl
    have hy := S8.hs.bk 1 rfl
    go_wp2_with (first | (refine wpList_load_row rfl 31 _ rfl X rfl _ _ (0, 0) _ hx Try.underlying31 rfl (by kernel_rfl) ?_) | (refine wpList_store_row rfl 31 _ _ rfl Y _ rfl rfl _ _ hy (by kernel_rfl) (by kernel_rfl) (by kernel_rfl) ?_))
    exact bodyPost_ret (v := .agg (lT (selectT t L) D n cap').toArray) (results_cell_row rfl _ _ Y _ _ _ _ rfl (setRow_heap _ _ _ _ _ _ hy) Try.underlying31 rfl (by kernel_rfl)) rfl ⟨D, cap', rfl, HZ.out, (S8.row 1 rfl (lT (selectT t L) D n cap')).nobox⟩

end Go.Proofs.Ytkdbhioneoknjaa
