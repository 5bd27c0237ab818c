/- The law PortPlays, walked: a text for each state that a port may be in; made by wip/plays12.py. -/
import Derived.Test.YtcbdfkgfidlkeaaPortRow
import Derived.Deep.DeepCutAuto
namespace Go.Proofs.Ytcbdfkgfidlkeaa
open Go.ChangeShapes Go.WideShapes Go.ChangeAt Go.RowKit
set_option linter.unusedVariables false

set_option maxRecDepth 100000 in
set_option maxHeartbeats 2000000 in
theorem plays_0 (p : Po) (hf : fitsB p = true) (hk : p.st = 0) (w : World) :
    Calls Try.prog 3 #[.agg (lP p).toArray] w fun e w' => e = .returned (.bool true) ∧ Below w.heap.size w w' := by
  have HA := fun W => Lib.hid (awake_port W)
  have HF := fun W => Lib.hid (fits_row p true (Lib.hid hf) W)
  have HR := fun W => Lib.hid (rise_row p { p with st := 0 } (Lib.hid (by cases p; simp only at hk; subst hk; simp [riseP])) W)
  have HB := fun W => Lib.hid (block_row p { p with st := 0 } false (Lib.hid (by cases p; simp only at hk; subst hk; simp [blockP])) W)
  have HN := fun W => Lib.hid (next_row p { p with st := 0 } false (Lib.hid (by cases p; simp only at hk; subst hk; simp [nextP])) W)
  have GR := fun W => Lib.hid (rrise_is 0 0 0 (Lib.hid (rfl)) W)
  have GB := fun W => Lib.hid (rblock_is 0 0 0 0 (Lib.hid (rfl)) W)
  have GN := fun W => Lib.hid (rnext_is 0 0 0 0 (Lib.hid (rfl)) W)
  have HLe := fun W => Lib.hid (learns_is 0 false (Lib.hid (rfl)) W)
  have HFo : ∀ W, Hid (Calls Try.prog 16 #[.int .i64 0] W fun e w' => e = .returned (.bool false) ∧ W = w') := fun W => Lib.hid (by have := fwd_is 0 W; exact this)
  have K1 : (lP p)[1]? = some (.int .i64 0) := by rw [← hk]; rfl
  clear hf hk
  have E1 := same_row { p with st := 0 }
  have E2 := same_row { p with st := 0 }
  have E3 := same_row { p with st := 0 }
  obtain ⟨wb, hwb, S⟩ := hs_one w 32 (lP p)
  go_enter Try.func3, Try.ntmps3
  go_upto_region 1 with fail
  clear hwb
  obtain ⟨X, hX⟩ : ∃ X, w.heap.size = X := ⟨_, rfl⟩
  rw [hX] at S ⊢
  go_wp2_with fail
  (with_reducible refine (HA _).out.mono ?_); rintro e w1 ⟨rfl, b1⟩
  have S1 := S.below b1
  clear S b1
  have hx := S1.bk 0 rfl
  go_wp2_with (first | (with_reducible refine wpList_load_rowG (by kernel_rfl) 32 (.tmp 1) rfl X (by kernel_rfl) _ _ (0, 0) _ hx Try.underlying32 (by kernel_rfl) (by kernel_rfl) ?_) | fail)
  (with_reducible refine (HF _).out.mono ?_); rintro e w2 ⟨rfl, b2⟩
  have S2 := S1.below b2
  clear S1 b2
  clear hx HA HF
  have hx := S2.bk 0 rfl
  go_upto_region 4 with (first | (with_reducible refine wpList_load_rowG (by kernel_rfl) 32 (.tmp 1) rfl X (by kernel_rfl) _ _ (0, 0) _ hx Try.underlying32 (by kernel_rfl) (by kernel_rfl) ?_) | (with_reducible refine wpList_store_row rfl 32 (.tmp 3) _ rfl _ (lP p).toArray (by kernel_rfl) (by kernel_rfl) _ _ (heap_alloc_new _ _) (by kernel_rfl) (by kernel_rfl) (by kernel_rfl) ?_))
  rw [alloc_row]
  have S3 := S2.al rfl 32 (lP p)
  obtain ⟨Y, hY⟩ : ∃ Y, w2.heap.size = Y := ⟨_, rfl⟩
  rw [hY] at S3 ⊢
  generalize w2.alloc (.cells (lP p).toArray 32) = w3 at S3 ⊢
  clear S2 hY
  clear hx
  have c1 := S3.cell 1 1 rfl K1
  have y1 := S3.cell 0 1 rfl rfl
  have f1 := S3.thaw 0 1 rfl
  have y11 := S3.cell 0 11 rfl rfl
  have f11 := S3.thaw 0 11 rfl
  have y12 := S3.cell 0 12 rfl rfl
  have f12 := S3.thaw 0 12 rfl
  go_upto_region 8 with (go_at_call 9; (with_reducible refine (GR _).out.mono ?_); rintro e w' ⟨rfl, rfl⟩)
  have S4 : Hs w [(Y, 32, lP { p with st := 0 }), (X, 32, lP p)] _ := S3.set 0 rfl 1 (.int .i64 0)
  generalize w3.setCell ⟨Y, 1, none⟩ (.int .i64 0) = w4 at S4 ⊢
  clear S3 GR c1 y1 y11 y12 f1 f11 f12
  have HX := fun q : LaterW w4 => HR q.w'
  refine region_later mixedL (by kernel_rfl) ?_
  (refine BigFrame.wpQuiet_want (by kernel_rfl) (fun K hK => ?_); refine quiet_load_row 32 _ rfl X (by kernel_rfl) _ _ (0, 0) _ (S4.bkq 1 rfl) Try.underlying32 rfl (by kernel_rfl) ?_; refine hK _ ?_; clear hK; go_simp)
  go_big_quiet_step ((go_at_call 10; with_reducible exact Calls.later (HX _).out))
  (refine BigFrame.wpQuiet_want (by kernel_rfl) (fun K hK => ?_); refine quiet_load_row 32 _ rfl Y (by kernel_rfl) _ _ (0, 0) _ (S4.bkq 0 rfl) Try.underlying32 rfl (by kernel_rfl) ?_; refine hK _ ?_; clear hK; go_simp)
  repeat (go_big_quiet_step (fail))
  refine wpQuiet_nil ?_
  intro r
  have S5 := S4.below r.h
  generalize r.w' = w5 at S5 ⊢
  clear S4 HX HR E1
  have hx := S5.bk 1 rfl
  have hy := S5.bk 0 rfl
  go_upto_region 11 with (first | (with_reducible refine wpList_load_rowG (by kernel_rfl) 32 (.tmp 1) rfl X (by kernel_rfl) _ _ (0, 0) _ hx Try.underlying32 (by kernel_rfl) (by kernel_rfl) ?_) | (with_reducible refine wpList_store_row rfl 32 (.tmp 3) _ rfl Y (lP p).toArray (by kernel_rfl) (by kernel_rfl) _ _ hy (by kernel_rfl) (by kernel_rfl) (by kernel_rfl) ?_))
  have S6 := S5.row 0 rfl (lP p)
  simp only [List.set] at S6
  generalize w5.setRow Y (lP p).toArray = w6 at S6 ⊢
  clear S5 hy
  clear hx
  have c1 := S6.cell 1 1 rfl K1
  have y1 := S6.cell 0 1 rfl rfl
  have f1 := S6.thaw 0 1 rfl
  have y11 := S6.cell 0 11 rfl rfl
  have f11 := S6.thaw 0 11 rfl
  have y12 := S6.cell 0 12 rfl rfl
  have f12 := S6.thaw 0 12 rfl
  go_upto_region 15 with (go_at_call 11; (with_reducible refine (GB _).out.mono ?_); rintro e w' ⟨rfl, rfl⟩)
  have S7 : Hs w [(Y, 32, lP { p with st := 0 }), (X, 32, lP p)] _ := S6.set 0 rfl 1 (.int .i64 0)
  generalize w6.setCell ⟨Y, 1, none⟩ (.int .i64 0) = w7 at S7 ⊢
  clear S6 GB c1 y1 y11 y12 f1 f11 f12
  have hx := S7.bk 1 rfl
  go_wp2_with (first | (with_reducible refine wpList_load_rowG (by kernel_rfl) 32 (.tmp 1) rfl X (by kernel_rfl) _ _ (0, 0) _ hx Try.underlying32 (by kernel_rfl) (by kernel_rfl) ?_) | fail)
  (with_reducible refine (HB _).out.mono ?_); rintro e w8 ⟨rfl, b8⟩
  have S8 := S7.below b8
  clear S7 b8
  clear hx HB
  go_upto_region 16 with (with_reducible refine wpList_store_row rfl 32 (.tmp 8) _ rfl _ (lP { p with st := 0 }).toArray (by kernel_rfl) (by kernel_rfl) _ _ (heap_alloc_new _ _) (by kernel_rfl) (by kernel_rfl) (by kernel_rfl) ?_)
  rw [alloc_row]
  have S9 := S8.al rfl 32 (lP { p with st := 0 })
  obtain ⟨B, hB⟩ : ∃ B, w8.heap.size = B := ⟨_, rfl⟩
  rw [hB] at S9 ⊢
  generalize w8.alloc (.cells (lP { p with st := 0 }).toArray 32) = w9 at S9 ⊢
  clear S8 hB
  have hB := S9.bk 0 rfl
  have hy := S9.bk 1 rfl
  have hx := S9.bk 2 rfl
  go_upto_region 19 with (first | (with_reducible refine wpList_load_rowG (by kernel_rfl) 32 (.tmp 8) rfl B (by kernel_rfl) _ _ (0, 0) _ hB Try.underlying32 (by kernel_rfl) (by kernel_rfl) ?_) | (with_reducible refine wpList_load_rowG (by kernel_rfl) 32 (.tmp 3) rfl Y (by kernel_rfl) _ _ (0, 0) _ hy Try.underlying32 (by kernel_rfl) (by kernel_rfl) ?_) | (with_reducible refine wpList_load_rowG (by kernel_rfl) 32 (.tmp 1) rfl X (by kernel_rfl) _ _ (0, 0) _ hx Try.underlying32 (by kernel_rfl) (by kernel_rfl) ?_) | (with_reducible refine wpList_store_row rfl 32 (.tmp 3) _ rfl Y (lP p).toArray (by kernel_rfl) (by kernel_rfl) _ _ hy (by kernel_rfl) (by kernel_rfl) (by kernel_rfl) ?_))
  have S10 := S9.row 1 rfl (lP p)
  simp only [List.set] at S10
  generalize w9.setRow Y (lP p).toArray = w10 at S10 ⊢
  clear S9 hy hB E2
  clear hx
  have c1 := S10.cell 2 1 rfl K1
  have y1 := S10.cell 1 1 rfl rfl
  have f1 := S10.thaw 1 1 rfl
  have y11 := S10.cell 1 11 rfl rfl
  have f11 := S10.thaw 1 11 rfl
  have y12 := S10.cell 1 12 rfl rfl
  have f12 := S10.thaw 1 12 rfl
  go_upto_region 23 with (go_at_call 13; (with_reducible refine (GN _).out.mono ?_); rintro e w' ⟨rfl, rfl⟩)
  have S11 : Hs w [(B, 32, lP { p with st := 0 }), (Y, 32, lP { p with st := 0 }), (X, 32, lP p)] _ := S10.set 1 rfl 1 (.int .i64 0)
  generalize w10.setCell ⟨Y, 1, none⟩ (.int .i64 0) = w11 at S11 ⊢
  clear S10 GN c1 y1 y11 y12 f1 f11 f12
  have hx := S11.bk 2 rfl
  go_wp2_with (first | (with_reducible refine wpList_load_rowG (by kernel_rfl) 32 (.tmp 1) rfl X (by kernel_rfl) _ _ (0, 0) _ hx Try.underlying32 (by kernel_rfl) (by kernel_rfl) ?_) | fail)
  (with_reducible refine (HN _).out.mono ?_); rintro e w12 ⟨rfl, b12⟩
  have S12 := S11.below b12
  clear S11 b12
  clear hx HN
  go_upto_region 24 with (with_reducible refine wpList_store_row rfl 32 (.tmp 11) _ rfl _ (lP { p with st := 0 }).toArray (by kernel_rfl) (by kernel_rfl) _ _ (heap_alloc_new _ _) (by kernel_rfl) (by kernel_rfl) (by kernel_rfl) ?_)
  rw [alloc_row]
  have S13 := S12.al rfl 32 (lP { p with st := 0 })
  obtain ⟨D, hD⟩ : ∃ D, w12.heap.size = D := ⟨_, rfl⟩
  rw [hD] at S13 ⊢
  generalize w12.alloc (.cells (lP { p with st := 0 }).toArray 32) = w13 at S13 ⊢
  clear S12 hD
  have k1 := fun q : LaterW w13 => (S13.below q.h).cell 3 1 rfl K1
  have LX := fun q : LaterW w13 => HLe q.w'
  have FX := fun q : LaterW w13 => HFo q.w'
  refine region_later mixedL (by kernel_rfl) ?_
  (refine BigFrame.wpQuiet_want (by kernel_rfl) (fun K hK => ?_); refine quiet_load_row 32 _ rfl D (by kernel_rfl) _ _ (0, 0) _ (S13.bkq 0 rfl) Try.underlying32 rfl (by kernel_rfl) ?_; refine hK _ ?_; clear hK; go_simp)
  (refine BigFrame.wpQuiet_want (by kernel_rfl) (fun K hK => ?_); refine quiet_load_row 32 _ rfl Y (by kernel_rfl) _ _ (0, 0) _ (S13.bkq 2 rfl) Try.underlying32 rfl (by kernel_rfl) ?_; refine hK _ ?_; clear hK; go_simp)
  repeat (go_big_quiet_step (first | (go_at_call 15; with_reducible exact Calls.later_same (LX _).out) | (go_at_call 16; with_reducible exact Calls.later_same (FX _).out)))
  refine wpQuiet_nil ?_
  intro r
  go_wp2
  go_ret
  exact ⟨rfl, (S13.below r.h).old⟩

set_option maxRecDepth 100000 in
set_option maxHeartbeats 2000000 in
theorem plays_1 (p : Po) (hf : fitsB p = true) (hk : p.st = 1) (w : World) :
    Calls Try.prog 3 #[.agg (lP p).toArray] w fun e w' => e = .returned (.bool true) ∧ Below w.heap.size w w' := by
  have HA := fun W => Lib.hid (awake_port W)
  have HF := fun W => Lib.hid (fits_row p true (Lib.hid hf) W)
  have HR := fun W => Lib.hid (rise_row p { p with st := 2, yo := true, yv := 0 } (Lib.hid (by cases p; simp only at hk; subst hk; simp [riseP])) W)
  have HB := fun W => Lib.hid (block_row p { p with st := 1 } false (Lib.hid (by cases p; simp only at hk; subst hk; simp [blockP])) W)
  have HN := fun W => Lib.hid (next_row p { p with st := 1 } false (Lib.hid (by cases p; simp only at hk; subst hk; simp [nextP])) W)
  have GR := fun W => Lib.hid (rrise_is 1 2 1 (Lib.hid (rfl)) W)
  have GB := fun W => Lib.hid (rblock_is 1 1 0 0 (Lib.hid (rfl)) W)
  have GN := fun W => Lib.hid (rnext_is 1 1 0 0 (Lib.hid (rfl)) W)
  have HLe := fun W => Lib.hid (learns_is 1 false (Lib.hid (rfl)) W)
  have HFo : ∀ W, Hid (Calls Try.prog 16 #[.int .i64 1] W fun e w' => e = .returned (.bool false) ∧ W = w') := fun W => Lib.hid (by have := fwd_is 1 W; exact this)
  have K1 : (lP p)[1]? = some (.int .i64 1) := by rw [← hk]; rfl
  clear hf hk
  have E1 := same_row { p with st := 2, yo := true, yv := 0 }
  have E2 := same_row { p with st := 1 }
  have E3 := same_row { p with st := 1 }
  obtain ⟨wb, hwb, S⟩ := hs_one w 32 (lP p)
  go_enter Try.func3, Try.ntmps3
  go_upto_region 1 with fail
  clear hwb
  obtain ⟨X, hX⟩ : ∃ X, w.heap.size = X := ⟨_, rfl⟩
  rw [hX] at S ⊢
  go_wp2_with fail
  (with_reducible refine (HA _).out.mono ?_); rintro e w1 ⟨rfl, b1⟩
  have S1 := S.below b1
  clear S b1
  have hx := S1.bk 0 rfl
  go_wp2_with (first | (with_reducible refine wpList_load_rowG (by kernel_rfl) 32 (.tmp 1) rfl X (by kernel_rfl) _ _ (0, 0) _ hx Try.underlying32 (by kernel_rfl) (by kernel_rfl) ?_) | fail)
  (with_reducible refine (HF _).out.mono ?_); rintro e w2 ⟨rfl, b2⟩
  have S2 := S1.below b2
  clear S1 b2
  clear hx HA HF
  have hx := S2.bk 0 rfl
  go_upto_region 4 with (first | (with_reducible refine wpList_load_rowG (by kernel_rfl) 32 (.tmp 1) rfl X (by kernel_rfl) _ _ (0, 0) _ hx Try.underlying32 (by kernel_rfl) (by kernel_rfl) ?_) | (with_reducible refine wpList_store_row rfl 32 (.tmp 3) _ rfl _ (lP p).toArray (by kernel_rfl) (by kernel_rfl) _ _ (heap_alloc_new _ _) (by kernel_rfl) (by kernel_rfl) (by kernel_rfl) ?_))
  rw [alloc_row]
  have S3 := S2.al rfl 32 (lP p)
  obtain ⟨Y, hY⟩ : ∃ Y, w2.heap.size = Y := ⟨_, rfl⟩
  rw [hY] at S3 ⊢
  generalize w2.alloc (.cells (lP p).toArray 32) = w3 at S3 ⊢
  clear S2 hY
  clear hx
  have c1 := S3.cell 1 1 rfl K1
  have y1 := S3.cell 0 1 rfl rfl
  have f1 := S3.thaw 0 1 rfl
  have y11 := S3.cell 0 11 rfl rfl
  have f11 := S3.thaw 0 11 rfl
  have y12 := S3.cell 0 12 rfl rfl
  have f12 := S3.thaw 0 12 rfl
  go_upto_region 8 with (go_at_call 9; (with_reducible refine (GR _).out.mono ?_); rintro e w' ⟨rfl, rfl⟩)
  have S4 : Hs w [(Y, 32, lP { p with st := 2, yo := true, yv := 0 }), (X, 32, lP p)] _ := ((S3.set 0 rfl 1 (.int .i64 2)).set 0 rfl 11 (.bool true)).set 0 rfl 12 (.int .i64 0)
  generalize ((w3.setCell ⟨Y, 1, none⟩ (.int .i64 2)).setCell ⟨Y, 11, none⟩ (.bool true)).setCell ⟨Y, 12, none⟩ (.int .i64 0) = w4 at S4 ⊢
  clear S3 GR c1 y1 y11 y12 f1 f11 f12
  have HX := fun q : LaterW w4 => HR q.w'
  refine region_later mixedL (by kernel_rfl) ?_
  (refine BigFrame.wpQuiet_want (by kernel_rfl) (fun K hK => ?_); refine quiet_load_row 32 _ rfl X (by kernel_rfl) _ _ (0, 0) _ (S4.bkq 1 rfl) Try.underlying32 rfl (by kernel_rfl) ?_; refine hK _ ?_; clear hK; go_simp)
  go_big_quiet_step ((go_at_call 10; with_reducible exact Calls.later (HX _).out))
  (refine BigFrame.wpQuiet_want (by kernel_rfl) (fun K hK => ?_); refine quiet_load_row 32 _ rfl Y (by kernel_rfl) _ _ (0, 0) _ (S4.bkq 0 rfl) Try.underlying32 rfl (by kernel_rfl) ?_; refine hK _ ?_; clear hK; go_simp)
  repeat (go_big_quiet_step (fail))
  refine wpQuiet_nil ?_
  intro r
  have S5 := S4.below r.h
  generalize r.w' = w5 at S5 ⊢
  clear S4 HX HR E1
  have hx := S5.bk 1 rfl
  have hy := S5.bk 0 rfl
  go_upto_region 11 with (first | (with_reducible refine wpList_load_rowG (by kernel_rfl) 32 (.tmp 1) rfl X (by kernel_rfl) _ _ (0, 0) _ hx Try.underlying32 (by kernel_rfl) (by kernel_rfl) ?_) | (with_reducible refine wpList_store_row rfl 32 (.tmp 3) _ rfl Y (lP p).toArray (by kernel_rfl) (by kernel_rfl) _ _ hy (by kernel_rfl) (by kernel_rfl) (by kernel_rfl) ?_))
  have S6 := S5.row 0 rfl (lP p)
  simp only [List.set] at S6
  generalize w5.setRow Y (lP p).toArray = w6 at S6 ⊢
  clear S5 hy
  clear hx
  have c1 := S6.cell 1 1 rfl K1
  have y1 := S6.cell 0 1 rfl rfl
  have f1 := S6.thaw 0 1 rfl
  have y11 := S6.cell 0 11 rfl rfl
  have f11 := S6.thaw 0 11 rfl
  have y12 := S6.cell 0 12 rfl rfl
  have f12 := S6.thaw 0 12 rfl
  go_upto_region 15 with (go_at_call 11; (with_reducible refine (GB _).out.mono ?_); rintro e w' ⟨rfl, rfl⟩)
  have S7 : Hs w [(Y, 32, lP { p with st := 1 }), (X, 32, lP p)] _ := S6.set 0 rfl 1 (.int .i64 1)
  generalize w6.setCell ⟨Y, 1, none⟩ (.int .i64 1) = w7 at S7 ⊢
  clear S6 GB c1 y1 y11 y12 f1 f11 f12
  have hx := S7.bk 1 rfl
  go_wp2_with (first | (with_reducible refine wpList_load_rowG (by kernel_rfl) 32 (.tmp 1) rfl X (by kernel_rfl) _ _ (0, 0) _ hx Try.underlying32 (by kernel_rfl) (by kernel_rfl) ?_) | fail)
  (with_reducible refine (HB _).out.mono ?_); rintro e w8 ⟨rfl, b8⟩
  have S8 := S7.below b8
  clear S7 b8
  clear hx HB
  go_upto_region 16 with (with_reducible refine wpList_store_row rfl 32 (.tmp 8) _ rfl _ (lP { p with st := 1 }).toArray (by kernel_rfl) (by kernel_rfl) _ _ (heap_alloc_new _ _) (by kernel_rfl) (by kernel_rfl) (by kernel_rfl) ?_)
  rw [alloc_row]
  have S9 := S8.al rfl 32 (lP { p with st := 1 })
  obtain ⟨B, hB⟩ : ∃ B, w8.heap.size = B := ⟨_, rfl⟩
  rw [hB] at S9 ⊢
  generalize w8.alloc (.cells (lP { p with st := 1 }).toArray 32) = w9 at S9 ⊢
  clear S8 hB
  have hB := S9.bk 0 rfl
  have hy := S9.bk 1 rfl
  have hx := S9.bk 2 rfl
  go_upto_region 19 with (first | (with_reducible refine wpList_load_rowG (by kernel_rfl) 32 (.tmp 8) rfl B (by kernel_rfl) _ _ (0, 0) _ hB Try.underlying32 (by kernel_rfl) (by kernel_rfl) ?_) | (with_reducible refine wpList_load_rowG (by kernel_rfl) 32 (.tmp 3) rfl Y (by kernel_rfl) _ _ (0, 0) _ hy Try.underlying32 (by kernel_rfl) (by kernel_rfl) ?_) | (with_reducible refine wpList_load_rowG (by kernel_rfl) 32 (.tmp 1) rfl X (by kernel_rfl) _ _ (0, 0) _ hx Try.underlying32 (by kernel_rfl) (by kernel_rfl) ?_) | (with_reducible refine wpList_store_row rfl 32 (.tmp 3) _ rfl Y (lP p).toArray (by kernel_rfl) (by kernel_rfl) _ _ hy (by kernel_rfl) (by kernel_rfl) (by kernel_rfl) ?_))
  have S10 := S9.row 1 rfl (lP p)
  simp only [List.set] at S10
  generalize w9.setRow Y (lP p).toArray = w10 at S10 ⊢
  clear S9 hy hB E2
  clear hx
  have c1 := S10.cell 2 1 rfl K1
  have y1 := S10.cell 1 1 rfl rfl
  have f1 := S10.thaw 1 1 rfl
  have y11 := S10.cell 1 11 rfl rfl
  have f11 := S10.thaw 1 11 rfl
  have y12 := S10.cell 1 12 rfl rfl
  have f12 := S10.thaw 1 12 rfl
  go_upto_region 23 with (go_at_call 13; (with_reducible refine (GN _).out.mono ?_); rintro e w' ⟨rfl, rfl⟩)
  have S11 : Hs w [(B, 32, lP { p with st := 1 }), (Y, 32, lP { p with st := 1 }), (X, 32, lP p)] _ := S10.set 1 rfl 1 (.int .i64 1)
  generalize w10.setCell ⟨Y, 1, none⟩ (.int .i64 1) = w11 at S11 ⊢
  clear S10 GN c1 y1 y11 y12 f1 f11 f12
  have hx := S11.bk 2 rfl
  go_wp2_with (first | (with_reducible refine wpList_load_rowG (by kernel_rfl) 32 (.tmp 1) rfl X (by kernel_rfl) _ _ (0, 0) _ hx Try.underlying32 (by kernel_rfl) (by kernel_rfl) ?_) | fail)
  (with_reducible refine (HN _).out.mono ?_); rintro e w12 ⟨rfl, b12⟩
  have S12 := S11.below b12
  clear S11 b12
  clear hx HN
  go_upto_region 24 with (with_reducible refine wpList_store_row rfl 32 (.tmp 11) _ rfl _ (lP { p with st := 1 }).toArray (by kernel_rfl) (by kernel_rfl) _ _ (heap_alloc_new _ _) (by kernel_rfl) (by kernel_rfl) (by kernel_rfl) ?_)
  rw [alloc_row]
  have S13 := S12.al rfl 32 (lP { p with st := 1 })
  obtain ⟨D, hD⟩ : ∃ D, w12.heap.size = D := ⟨_, rfl⟩
  rw [hD] at S13 ⊢
  generalize w12.alloc (.cells (lP { p with st := 1 }).toArray 32) = w13 at S13 ⊢
  clear S12 hD
  have k1 := fun q : LaterW w13 => (S13.below q.h).cell 3 1 rfl K1
  have LX := fun q : LaterW w13 => HLe q.w'
  have FX := fun q : LaterW w13 => HFo q.w'
  refine region_later mixedL (by kernel_rfl) ?_
  (refine BigFrame.wpQuiet_want (by kernel_rfl) (fun K hK => ?_); refine quiet_load_row 32 _ rfl D (by kernel_rfl) _ _ (0, 0) _ (S13.bkq 0 rfl) Try.underlying32 rfl (by kernel_rfl) ?_; refine hK _ ?_; clear hK; go_simp)
  (refine BigFrame.wpQuiet_want (by kernel_rfl) (fun K hK => ?_); refine quiet_load_row 32 _ rfl Y (by kernel_rfl) _ _ (0, 0) _ (S13.bkq 2 rfl) Try.underlying32 rfl (by kernel_rfl) ?_; refine hK _ ?_; clear hK; go_simp)
  repeat (go_big_quiet_step (first | (go_at_call 15; with_reducible exact Calls.later_same (LX _).out) | (go_at_call 16; with_reducible exact Calls.later_same (FX _).out)))
  refine wpQuiet_nil ?_
  intro r
  go_wp2
  go_ret
  exact ⟨rfl, (S13.below r.h).old⟩

set_option maxRecDepth 100000 in
set_option maxHeartbeats 2000000 in
theorem plays_2 (p : Po) (hf : fitsB p = true) (hk : p.st = 2) (w : World) :
    Calls Try.prog 3 #[.agg (lP p).toArray] w fun e w' => e = .returned (.bool true) ∧ Below w.heap.size w w' := by
  have HA := fun W => Lib.hid (awake_port W)
  have HF := fun W => Lib.hid (fits_row p true (Lib.hid hf) W)
  have HR := fun W => Lib.hid (rise_row p { p with st := 2 } (Lib.hid (by cases p; simp only at hk; subst hk; simp [riseP])) W)
  have HB := fun W => Lib.hid (block_row p { p with st := 1, yo := false, yv := 0 } false (Lib.hid (by cases p; simp only at hk; subst hk; simp [blockP, learnsB])) W)
  have HN := fun W => Lib.hid (next_row p { p with st := 3, yo := true, yv := 0 } false (Lib.hid (by cases p; simp only at hk; subst hk; simp [nextP])) W)
  have GR := fun W => Lib.hid (rrise_is 2 2 0 (Lib.hid (rfl)) W)
  have GB := fun W => Lib.hid (rblock_is 2 1 1 0 (Lib.hid (rfl)) W)
  have GN := fun W => Lib.hid (rnext_is 2 3 1 0 (Lib.hid (rfl)) W)
  have HLe := fun W => Lib.hid (learns_is 2 false (Lib.hid (rfl)) W)
  have HFo : ∀ W, Hid (Calls Try.prog 16 #[.int .i64 2] W fun e w' => e = .returned (.bool false) ∧ W = w') := fun W => Lib.hid (by have := fwd_is 2 W; exact this)
  have K1 : (lP p)[1]? = some (.int .i64 2) := by rw [← hk]; rfl
  clear hf hk
  have E1 := same_row { p with st := 2 }
  have E2 := same_row { p with st := 1, yo := false, yv := 0 }
  have E3 := same_row { p with st := 3, yo := true, yv := 0 }
  obtain ⟨wb, hwb, S⟩ := hs_one w 32 (lP p)
  go_enter Try.func3, Try.ntmps3
  go_upto_region 1 with fail
  clear hwb
  obtain ⟨X, hX⟩ : ∃ X, w.heap.size = X := ⟨_, rfl⟩
  rw [hX] at S ⊢
  go_wp2_with fail
  (with_reducible refine (HA _).out.mono ?_); rintro e w1 ⟨rfl, b1⟩
  have S1 := S.below b1
  clear S b1
  have hx := S1.bk 0 rfl
  go_wp2_with (first | (with_reducible refine wpList_load_rowG (by kernel_rfl) 32 (.tmp 1) rfl X (by kernel_rfl) _ _ (0, 0) _ hx Try.underlying32 (by kernel_rfl) (by kernel_rfl) ?_) | fail)
  (with_reducible refine (HF _).out.mono ?_); rintro e w2 ⟨rfl, b2⟩
  have S2 := S1.below b2
  clear S1 b2
  clear hx HA HF
  have hx := S2.bk 0 rfl
  go_upto_region 4 with (first | (with_reducible refine wpList_load_rowG (by kernel_rfl) 32 (.tmp 1) rfl X (by kernel_rfl) _ _ (0, 0) _ hx Try.underlying32 (by kernel_rfl) (by kernel_rfl) ?_) | (with_reducible refine wpList_store_row rfl 32 (.tmp 3) _ rfl _ (lP p).toArray (by kernel_rfl) (by kernel_rfl) _ _ (heap_alloc_new _ _) (by kernel_rfl) (by kernel_rfl) (by kernel_rfl) ?_))
  rw [alloc_row]
  have S3 := S2.al rfl 32 (lP p)
  obtain ⟨Y, hY⟩ : ∃ Y, w2.heap.size = Y := ⟨_, rfl⟩
  rw [hY] at S3 ⊢
  generalize w2.alloc (.cells (lP p).toArray 32) = w3 at S3 ⊢
  clear S2 hY
  clear hx
  have c1 := S3.cell 1 1 rfl K1
  have y1 := S3.cell 0 1 rfl rfl
  have f1 := S3.thaw 0 1 rfl
  have y11 := S3.cell 0 11 rfl rfl
  have f11 := S3.thaw 0 11 rfl
  have y12 := S3.cell 0 12 rfl rfl
  have f12 := S3.thaw 0 12 rfl
  go_upto_region 8 with (go_at_call 9; (with_reducible refine (GR _).out.mono ?_); rintro e w' ⟨rfl, rfl⟩)
  have S4 : Hs w [(Y, 32, lP { p with st := 2 }), (X, 32, lP p)] _ := S3.set 0 rfl 1 (.int .i64 2)
  generalize w3.setCell ⟨Y, 1, none⟩ (.int .i64 2) = w4 at S4 ⊢
  clear S3 GR c1 y1 y11 y12 f1 f11 f12
  have HX := fun q : LaterW w4 => HR q.w'
  refine region_later mixedL (by kernel_rfl) ?_
  (refine BigFrame.wpQuiet_want (by kernel_rfl) (fun K hK => ?_); refine quiet_load_row 32 _ rfl X (by kernel_rfl) _ _ (0, 0) _ (S4.bkq 1 rfl) Try.underlying32 rfl (by kernel_rfl) ?_; refine hK _ ?_; clear hK; go_simp)
  go_big_quiet_step ((go_at_call 10; with_reducible exact Calls.later (HX _).out))
  (refine BigFrame.wpQuiet_want (by kernel_rfl) (fun K hK => ?_); refine quiet_load_row 32 _ rfl Y (by kernel_rfl) _ _ (0, 0) _ (S4.bkq 0 rfl) Try.underlying32 rfl (by kernel_rfl) ?_; refine hK _ ?_; clear hK; go_simp)
  repeat (go_big_quiet_step (fail))
  refine wpQuiet_nil ?_
  intro r
  have S5 := S4.below r.h
  generalize r.w' = w5 at S5 ⊢
  clear S4 HX HR E1
  have hx := S5.bk 1 rfl
  have hy := S5.bk 0 rfl
  go_upto_region 11 with (first | (with_reducible refine wpList_load_rowG (by kernel_rfl) 32 (.tmp 1) rfl X (by kernel_rfl) _ _ (0, 0) _ hx Try.underlying32 (by kernel_rfl) (by kernel_rfl) ?_) | (with_reducible refine wpList_store_row rfl 32 (.tmp 3) _ rfl Y (lP p).toArray (by kernel_rfl) (by kernel_rfl) _ _ hy (by kernel_rfl) (by kernel_rfl) (by kernel_rfl) ?_))
  have S6 := S5.row 0 rfl (lP p)
  simp only [List.set] at S6
  generalize w5.setRow Y (lP p).toArray = w6 at S6 ⊢
  clear S5 hy
  clear hx
  have c1 := S6.cell 1 1 rfl K1
  have y1 := S6.cell 0 1 rfl rfl
  have f1 := S6.thaw 0 1 rfl
  have y11 := S6.cell 0 11 rfl rfl
  have f11 := S6.thaw 0 11 rfl
  have y12 := S6.cell 0 12 rfl rfl
  have f12 := S6.thaw 0 12 rfl
  go_upto_region 15 with (go_at_call 11; (with_reducible refine (GB _).out.mono ?_); rintro e w' ⟨rfl, rfl⟩)
  have S7 : Hs w [(Y, 32, lP { p with st := 1, yo := false, yv := 0 }), (X, 32, lP p)] _ := ((S6.set 0 rfl 1 (.int .i64 1)).set 0 rfl 11 (.bool false)).set 0 rfl 12 (.int .i64 0)
  generalize ((w6.setCell ⟨Y, 1, none⟩ (.int .i64 1)).setCell ⟨Y, 11, none⟩ (.bool false)).setCell ⟨Y, 12, none⟩ (.int .i64 0) = w7 at S7 ⊢
  clear S6 GB c1 y1 y11 y12 f1 f11 f12
  have hx := S7.bk 1 rfl
  go_wp2_with (first | (with_reducible refine wpList_load_rowG (by kernel_rfl) 32 (.tmp 1) rfl X (by kernel_rfl) _ _ (0, 0) _ hx Try.underlying32 (by kernel_rfl) (by kernel_rfl) ?_) | fail)
  (with_reducible refine (HB _).out.mono ?_); rintro e w8 ⟨rfl, b8⟩
  have S8 := S7.below b8
  clear S7 b8
  clear hx HB
  go_upto_region 16 with (with_reducible refine wpList_store_row rfl 32 (.tmp 8) _ rfl _ (lP { p with st := 1, yo := false, yv := 0 }).toArray (by kernel_rfl) (by kernel_rfl) _ _ (heap_alloc_new _ _) (by kernel_rfl) (by kernel_rfl) (by kernel_rfl) ?_)
  rw [alloc_row]
  have S9 := S8.al rfl 32 (lP { p with st := 1, yo := false, yv := 0 })
  obtain ⟨B, hB⟩ : ∃ B, w8.heap.size = B := ⟨_, rfl⟩
  rw [hB] at S9 ⊢
  generalize w8.alloc (.cells (lP { p with st := 1, yo := false, yv := 0 }).toArray 32) = w9 at S9 ⊢
  clear S8 hB
  have hB := S9.bk 0 rfl
  have hy := S9.bk 1 rfl
  have hx := S9.bk 2 rfl
  go_upto_region 19 with (first | (with_reducible refine wpList_load_rowG (by kernel_rfl) 32 (.tmp 8) rfl B (by kernel_rfl) _ _ (0, 0) _ hB Try.underlying32 (by kernel_rfl) (by kernel_rfl) ?_) | (with_reducible refine wpList_load_rowG (by kernel_rfl) 32 (.tmp 3) rfl Y (by kernel_rfl) _ _ (0, 0) _ hy Try.underlying32 (by kernel_rfl) (by kernel_rfl) ?_) | (with_reducible refine wpList_load_rowG (by kernel_rfl) 32 (.tmp 1) rfl X (by kernel_rfl) _ _ (0, 0) _ hx Try.underlying32 (by kernel_rfl) (by kernel_rfl) ?_) | (with_reducible refine wpList_store_row rfl 32 (.tmp 3) _ rfl Y (lP p).toArray (by kernel_rfl) (by kernel_rfl) _ _ hy (by kernel_rfl) (by kernel_rfl) (by kernel_rfl) ?_))
  have S10 := S9.row 1 rfl (lP p)
  simp only [List.set] at S10
  generalize w9.setRow Y (lP p).toArray = w10 at S10 ⊢
  clear S9 hy hB E2
  clear hx
  have c1 := S10.cell 2 1 rfl K1
  have y1 := S10.cell 1 1 rfl rfl
  have f1 := S10.thaw 1 1 rfl
  have y11 := S10.cell 1 11 rfl rfl
  have f11 := S10.thaw 1 11 rfl
  have y12 := S10.cell 1 12 rfl rfl
  have f12 := S10.thaw 1 12 rfl
  go_upto_region 23 with (go_at_call 13; (with_reducible refine (GN _).out.mono ?_); rintro e w' ⟨rfl, rfl⟩)
  have S11 : Hs w [(B, 32, lP { p with st := 1, yo := false, yv := 0 }), (Y, 32, lP { p with st := 3, yo := true, yv := 0 }), (X, 32, lP p)] _ := ((S10.set 1 rfl 1 (.int .i64 3)).set 1 rfl 11 (.bool true)).set 1 rfl 12 (.int .i64 0)
  generalize ((w10.setCell ⟨Y, 1, none⟩ (.int .i64 3)).setCell ⟨Y, 11, none⟩ (.bool true)).setCell ⟨Y, 12, none⟩ (.int .i64 0) = w11 at S11 ⊢
  clear S10 GN c1 y1 y11 y12 f1 f11 f12
  have hx := S11.bk 2 rfl
  go_wp2_with (first | (with_reducible refine wpList_load_rowG (by kernel_rfl) 32 (.tmp 1) rfl X (by kernel_rfl) _ _ (0, 0) _ hx Try.underlying32 (by kernel_rfl) (by kernel_rfl) ?_) | fail)
  (with_reducible refine (HN _).out.mono ?_); rintro e w12 ⟨rfl, b12⟩
  have S12 := S11.below b12
  clear S11 b12
  clear hx HN
  go_upto_region 24 with (with_reducible refine wpList_store_row rfl 32 (.tmp 11) _ rfl _ (lP { p with st := 3, yo := true, yv := 0 }).toArray (by kernel_rfl) (by kernel_rfl) _ _ (heap_alloc_new _ _) (by kernel_rfl) (by kernel_rfl) (by kernel_rfl) ?_)
  rw [alloc_row]
  have S13 := S12.al rfl 32 (lP { p with st := 3, yo := true, yv := 0 })
  obtain ⟨D, hD⟩ : ∃ D, w12.heap.size = D := ⟨_, rfl⟩
  rw [hD] at S13 ⊢
  generalize w12.alloc (.cells (lP { p with st := 3, yo := true, yv := 0 }).toArray 32) = w13 at S13 ⊢
  clear S12 hD
  have k1 := fun q : LaterW w13 => (S13.below q.h).cell 3 1 rfl K1
  have LX := fun q : LaterW w13 => HLe q.w'
  have FX := fun q : LaterW w13 => HFo q.w'
  refine region_later mixedL (by kernel_rfl) ?_
  (refine BigFrame.wpQuiet_want (by kernel_rfl) (fun K hK => ?_); refine quiet_load_row 32 _ rfl D (by kernel_rfl) _ _ (0, 0) _ (S13.bkq 0 rfl) Try.underlying32 rfl (by kernel_rfl) ?_; refine hK _ ?_; clear hK; go_simp)
  (refine BigFrame.wpQuiet_want (by kernel_rfl) (fun K hK => ?_); refine quiet_load_row 32 _ rfl Y (by kernel_rfl) _ _ (0, 0) _ (S13.bkq 2 rfl) Try.underlying32 rfl (by kernel_rfl) ?_; refine hK _ ?_; clear hK; go_simp)
  repeat (go_big_quiet_step (first | (go_at_call 15; with_reducible exact Calls.later_same (LX _).out) | (go_at_call 16; with_reducible exact Calls.later_same (FX _).out)))
  refine wpQuiet_nil ?_
  intro r
  go_wp2
  go_ret
  exact ⟨rfl, (S13.below r.h).old⟩

set_option maxRecDepth 100000 in
set_option maxHeartbeats 2000000 in
theorem plays_3 (p : Po) (hf : fitsB p = true) (hk : p.st = 3) (w : World) :
    Calls Try.prog 3 #[.agg (lP p).toArray] w fun e w' => e = .returned (.bool true) ∧ Below w.heap.size w w' := by
  have HA := fun W => Lib.hid (awake_port W)
  have HF := fun W => Lib.hid (fits_row p true (Lib.hid hf) W)
  have HR := fun W => Lib.hid (rise_row p { p with st := 3 } (Lib.hid (by cases p; simp only at hk; subst hk; simp [riseP])) W)
  have HB := fun W => Lib.hid (block_row p { p with st := 1, yo := false, yv := 0 } true (Lib.hid (by cases p; simp only at hk; subst hk; simp [blockP, learnsB])) W)
  have HN := fun W => Lib.hid (next_row p { p with st := 4 } true (Lib.hid (by cases p; simp only at hk; subst hk; simp [nextP])) W)
  have GR := fun W => Lib.hid (rrise_is 3 3 0 (Lib.hid (rfl)) W)
  have GB := fun W => Lib.hid (rblock_is 3 1 1 1 (Lib.hid (rfl)) W)
  have GN := fun W => Lib.hid (rnext_is 3 4 0 1 (Lib.hid (rfl)) W)
  have HLe := fun W => Lib.hid (learns_is 3 true (Lib.hid (rfl)) W)
  have HFo : ∀ W, Hid (Calls Try.prog 16 #[.int .i64 3] W fun e w' => e = .returned (.bool false) ∧ W = w') := fun W => Lib.hid (by have := fwd_is 3 W; exact this)
  have K1 : (lP p)[1]? = some (.int .i64 3) := by rw [← hk]; rfl
  clear hf hk
  have E1 := same_row { p with st := 3 }
  have E2 := same_row { p with st := 1, yo := false, yv := 0 }
  have E3 := same_row { p with st := 4 }
  obtain ⟨wb, hwb, S⟩ := hs_one w 32 (lP p)
  go_enter Try.func3, Try.ntmps3
  go_upto_region 1 with fail
  clear hwb
  obtain ⟨X, hX⟩ : ∃ X, w.heap.size = X := ⟨_, rfl⟩
  rw [hX] at S ⊢
  go_wp2_with fail
  (with_reducible refine (HA _).out.mono ?_); rintro e w1 ⟨rfl, b1⟩
  have S1 := S.below b1
  clear S b1
  have hx := S1.bk 0 rfl
  go_wp2_with (first | (with_reducible refine wpList_load_rowG (by kernel_rfl) 32 (.tmp 1) rfl X (by kernel_rfl) _ _ (0, 0) _ hx Try.underlying32 (by kernel_rfl) (by kernel_rfl) ?_) | fail)
  (with_reducible refine (HF _).out.mono ?_); rintro e w2 ⟨rfl, b2⟩
  have S2 := S1.below b2
  clear S1 b2
  clear hx HA HF
  have hx := S2.bk 0 rfl
  go_upto_region 4 with (first | (with_reducible refine wpList_load_rowG (by kernel_rfl) 32 (.tmp 1) rfl X (by kernel_rfl) _ _ (0, 0) _ hx Try.underlying32 (by kernel_rfl) (by kernel_rfl) ?_) | (with_reducible refine wpList_store_row rfl 32 (.tmp 3) _ rfl _ (lP p).toArray (by kernel_rfl) (by kernel_rfl) _ _ (heap_alloc_new _ _) (by kernel_rfl) (by kernel_rfl) (by kernel_rfl) ?_))
  rw [alloc_row]
  have S3 := S2.al rfl 32 (lP p)
  obtain ⟨Y, hY⟩ : ∃ Y, w2.heap.size = Y := ⟨_, rfl⟩
  rw [hY] at S3 ⊢
  generalize w2.alloc (.cells (lP p).toArray 32) = w3 at S3 ⊢
  clear S2 hY
  clear hx
  have c1 := S3.cell 1 1 rfl K1
  have y1 := S3.cell 0 1 rfl rfl
  have f1 := S3.thaw 0 1 rfl
  have y11 := S3.cell 0 11 rfl rfl
  have f11 := S3.thaw 0 11 rfl
  have y12 := S3.cell 0 12 rfl rfl
  have f12 := S3.thaw 0 12 rfl
  go_upto_region 8 with (go_at_call 9; (with_reducible refine (GR _).out.mono ?_); rintro e w' ⟨rfl, rfl⟩)
  have S4 : Hs w [(Y, 32, lP { p with st := 3 }), (X, 32, lP p)] _ := S3.set 0 rfl 1 (.int .i64 3)
  generalize w3.setCell ⟨Y, 1, none⟩ (.int .i64 3) = w4 at S4 ⊢
  clear S3 GR c1 y1 y11 y12 f1 f11 f12
  have HX := fun q : LaterW w4 => HR q.w'
  refine region_later mixedL (by kernel_rfl) ?_
  (refine BigFrame.wpQuiet_want (by kernel_rfl) (fun K hK => ?_); refine quiet_load_row 32 _ rfl X (by kernel_rfl) _ _ (0, 0) _ (S4.bkq 1 rfl) Try.underlying32 rfl (by kernel_rfl) ?_; refine hK _ ?_; clear hK; go_simp)
  go_big_quiet_step ((go_at_call 10; with_reducible exact Calls.later (HX _).out))
  (refine BigFrame.wpQuiet_want (by kernel_rfl) (fun K hK => ?_); refine quiet_load_row 32 _ rfl Y (by kernel_rfl) _ _ (0, 0) _ (S4.bkq 0 rfl) Try.underlying32 rfl (by kernel_rfl) ?_; refine hK _ ?_; clear hK; go_simp)
  repeat (go_big_quiet_step (fail))
  refine wpQuiet_nil ?_
  intro r
  have S5 := S4.below r.h
  generalize r.w' = w5 at S5 ⊢
  clear S4 HX HR E1
  have hx := S5.bk 1 rfl
  have hy := S5.bk 0 rfl
  go_upto_region 11 with (first | (with_reducible refine wpList_load_rowG (by kernel_rfl) 32 (.tmp 1) rfl X (by kernel_rfl) _ _ (0, 0) _ hx Try.underlying32 (by kernel_rfl) (by kernel_rfl) ?_) | (with_reducible refine wpList_store_row rfl 32 (.tmp 3) _ rfl Y (lP p).toArray (by kernel_rfl) (by kernel_rfl) _ _ hy (by kernel_rfl) (by kernel_rfl) (by kernel_rfl) ?_))
  have S6 := S5.row 0 rfl (lP p)
  simp only [List.set] at S6
  generalize w5.setRow Y (lP p).toArray = w6 at S6 ⊢
  clear S5 hy
  clear hx
  have c1 := S6.cell 1 1 rfl K1
  have y1 := S6.cell 0 1 rfl rfl
  have f1 := S6.thaw 0 1 rfl
  have y11 := S6.cell 0 11 rfl rfl
  have f11 := S6.thaw 0 11 rfl
  have y12 := S6.cell 0 12 rfl rfl
  have f12 := S6.thaw 0 12 rfl
  go_upto_region 15 with (go_at_call 11; (with_reducible refine (GB _).out.mono ?_); rintro e w' ⟨rfl, rfl⟩)
  have S7 : Hs w [(Y, 32, lP { p with st := 1, yo := false, yv := 0 }), (X, 32, lP p)] _ := ((S6.set 0 rfl 1 (.int .i64 1)).set 0 rfl 11 (.bool false)).set 0 rfl 12 (.int .i64 0)
  generalize ((w6.setCell ⟨Y, 1, none⟩ (.int .i64 1)).setCell ⟨Y, 11, none⟩ (.bool false)).setCell ⟨Y, 12, none⟩ (.int .i64 0) = w7 at S7 ⊢
  clear S6 GB c1 y1 y11 y12 f1 f11 f12
  have hx := S7.bk 1 rfl
  go_wp2_with (first | (with_reducible refine wpList_load_rowG (by kernel_rfl) 32 (.tmp 1) rfl X (by kernel_rfl) _ _ (0, 0) _ hx Try.underlying32 (by kernel_rfl) (by kernel_rfl) ?_) | fail)
  (with_reducible refine (HB _).out.mono ?_); rintro e w8 ⟨rfl, b8⟩
  have S8 := S7.below b8
  clear S7 b8
  clear hx HB
  go_upto_region 16 with (with_reducible refine wpList_store_row rfl 32 (.tmp 8) _ rfl _ (lP { p with st := 1, yo := false, yv := 0 }).toArray (by kernel_rfl) (by kernel_rfl) _ _ (heap_alloc_new _ _) (by kernel_rfl) (by kernel_rfl) (by kernel_rfl) ?_)
  rw [alloc_row]
  have S9 := S8.al rfl 32 (lP { p with st := 1, yo := false, yv := 0 })
  obtain ⟨B, hB⟩ : ∃ B, w8.heap.size = B := ⟨_, rfl⟩
  rw [hB] at S9 ⊢
  generalize w8.alloc (.cells (lP { p with st := 1, yo := false, yv := 0 }).toArray 32) = w9 at S9 ⊢
  clear S8 hB
  have hB := S9.bk 0 rfl
  have hy := S9.bk 1 rfl
  have hx := S9.bk 2 rfl
  go_upto_region 19 with (first | (with_reducible refine wpList_load_rowG (by kernel_rfl) 32 (.tmp 8) rfl B (by kernel_rfl) _ _ (0, 0) _ hB Try.underlying32 (by kernel_rfl) (by kernel_rfl) ?_) | (with_reducible refine wpList_load_rowG (by kernel_rfl) 32 (.tmp 3) rfl Y (by kernel_rfl) _ _ (0, 0) _ hy Try.underlying32 (by kernel_rfl) (by kernel_rfl) ?_) | (with_reducible refine wpList_load_rowG (by kernel_rfl) 32 (.tmp 1) rfl X (by kernel_rfl) _ _ (0, 0) _ hx Try.underlying32 (by kernel_rfl) (by kernel_rfl) ?_) | (with_reducible refine wpList_store_row rfl 32 (.tmp 3) _ rfl Y (lP p).toArray (by kernel_rfl) (by kernel_rfl) _ _ hy (by kernel_rfl) (by kernel_rfl) (by kernel_rfl) ?_))
  have S10 := S9.row 1 rfl (lP p)
  simp only [List.set] at S10
  generalize w9.setRow Y (lP p).toArray = w10 at S10 ⊢
  clear S9 hy hB E2
  clear hx
  have c1 := S10.cell 2 1 rfl K1
  have y1 := S10.cell 1 1 rfl rfl
  have f1 := S10.thaw 1 1 rfl
  have y11 := S10.cell 1 11 rfl rfl
  have f11 := S10.thaw 1 11 rfl
  have y12 := S10.cell 1 12 rfl rfl
  have f12 := S10.thaw 1 12 rfl
  go_upto_region 23 with (go_at_call 13; (with_reducible refine (GN _).out.mono ?_); rintro e w' ⟨rfl, rfl⟩)
  have S11 : Hs w [(B, 32, lP { p with st := 1, yo := false, yv := 0 }), (Y, 32, lP { p with st := 4 }), (X, 32, lP p)] _ := S10.set 1 rfl 1 (.int .i64 4)
  generalize w10.setCell ⟨Y, 1, none⟩ (.int .i64 4) = w11 at S11 ⊢
  clear S10 GN c1 y1 y11 y12 f1 f11 f12
  have hx := S11.bk 2 rfl
  go_wp2_with (first | (with_reducible refine wpList_load_rowG (by kernel_rfl) 32 (.tmp 1) rfl X (by kernel_rfl) _ _ (0, 0) _ hx Try.underlying32 (by kernel_rfl) (by kernel_rfl) ?_) | fail)
  (with_reducible refine (HN _).out.mono ?_); rintro e w12 ⟨rfl, b12⟩
  have S12 := S11.below b12
  clear S11 b12
  clear hx HN
  go_upto_region 24 with (with_reducible refine wpList_store_row rfl 32 (.tmp 11) _ rfl _ (lP { p with st := 4 }).toArray (by kernel_rfl) (by kernel_rfl) _ _ (heap_alloc_new _ _) (by kernel_rfl) (by kernel_rfl) (by kernel_rfl) ?_)
  rw [alloc_row]
  have S13 := S12.al rfl 32 (lP { p with st := 4 })
  obtain ⟨D, hD⟩ : ∃ D, w12.heap.size = D := ⟨_, rfl⟩
  rw [hD] at S13 ⊢
  generalize w12.alloc (.cells (lP { p with st := 4 }).toArray 32) = w13 at S13 ⊢
  clear S12 hD
  have k1 := fun q : LaterW w13 => (S13.below q.h).cell 3 1 rfl K1
  have LX := fun q : LaterW w13 => HLe q.w'
  have FX := fun q : LaterW w13 => HFo q.w'
  refine region_later mixedL (by kernel_rfl) ?_
  (refine BigFrame.wpQuiet_want (by kernel_rfl) (fun K hK => ?_); refine quiet_load_row 32 _ rfl D (by kernel_rfl) _ _ (0, 0) _ (S13.bkq 0 rfl) Try.underlying32 rfl (by kernel_rfl) ?_; refine hK _ ?_; clear hK; go_simp)
  (refine BigFrame.wpQuiet_want (by kernel_rfl) (fun K hK => ?_); refine quiet_load_row 32 _ rfl Y (by kernel_rfl) _ _ (0, 0) _ (S13.bkq 2 rfl) Try.underlying32 rfl (by kernel_rfl) ?_; refine hK _ ?_; clear hK; go_simp)
  repeat (go_big_quiet_step (first | (go_at_call 15; with_reducible exact Calls.later_same (LX _).out) | (go_at_call 16; with_reducible exact Calls.later_same (FX _).out)))
  refine wpQuiet_nil ?_
  intro r
  go_wp2
  go_ret
  exact ⟨rfl, (S13.below r.h).old⟩

set_option maxRecDepth 100000 in
set_option maxHeartbeats 2000000 in
theorem plays_4 (p : Po) (hf : fitsB p = true) (hk : p.st = 4) (w : World) :
    Calls Try.prog 3 #[.agg (lP p).toArray] w fun e w' => e = .returned (.bool true) ∧ Below w.heap.size w w' := by
  have HA := fun W => Lib.hid (awake_port W)
  have HF := fun W => Lib.hid (fits_row p true (Lib.hid hf) W)
  have HR := fun W => Lib.hid (rise_row p { p with st := 4 } (Lib.hid (by cases p; simp only at hk; subst hk; simp [riseP])) W)
  have HB := fun W => Lib.hid (block_row p { p with st := 1, yo := false, yv := 0 } true (Lib.hid (by cases p; simp only at hk; subst hk; simp [blockP, learnsB])) W)
  have HN := fun W => Lib.hid (next_row p { p with st := 4 } false (Lib.hid (by cases p; simp only at hk; subst hk; simp [nextP])) W)
  have GR := fun W => Lib.hid (rrise_is 4 4 0 (Lib.hid (rfl)) W)
  have GB := fun W => Lib.hid (rblock_is 4 1 1 1 (Lib.hid (rfl)) W)
  have GN := fun W => Lib.hid (rnext_is 4 4 0 0 (Lib.hid (rfl)) W)
  have HLe := fun W => Lib.hid (learns_is 4 true (Lib.hid (rfl)) W)
  have HFo : ∀ W, Hid (Calls Try.prog 16 #[.int .i64 4] W fun e w' => e = .returned (.bool true) ∧ W = w') := fun W => Lib.hid (by have := fwd_is 4 W; exact this)
  have K1 : (lP p)[1]? = some (.int .i64 4) := by rw [← hk]; rfl
  clear hf hk
  have E1 := same_row { p with st := 4 }
  have E2 := same_row { p with st := 1, yo := false, yv := 0 }
  have E3 := same_row { p with st := 4 }
  obtain ⟨wb, hwb, S⟩ := hs_one w 32 (lP p)
  go_enter Try.func3, Try.ntmps3
  go_upto_region 1 with fail
  clear hwb
  obtain ⟨X, hX⟩ : ∃ X, w.heap.size = X := ⟨_, rfl⟩
  rw [hX] at S ⊢
  go_wp2_with fail
  (with_reducible refine (HA _).out.mono ?_); rintro e w1 ⟨rfl, b1⟩
  have S1 := S.below b1
  clear S b1
  have hx := S1.bk 0 rfl
  go_wp2_with (first | (with_reducible refine wpList_load_rowG (by kernel_rfl) 32 (.tmp 1) rfl X (by kernel_rfl) _ _ (0, 0) _ hx Try.underlying32 (by kernel_rfl) (by kernel_rfl) ?_) | fail)
  (with_reducible refine (HF _).out.mono ?_); rintro e w2 ⟨rfl, b2⟩
  have S2 := S1.below b2
  clear S1 b2
  clear hx HA HF
  have hx := S2.bk 0 rfl
  go_upto_region 4 with (first | (with_reducible refine wpList_load_rowG (by kernel_rfl) 32 (.tmp 1) rfl X (by kernel_rfl) _ _ (0, 0) _ hx Try.underlying32 (by kernel_rfl) (by kernel_rfl) ?_) | (with_reducible refine wpList_store_row rfl 32 (.tmp 3) _ rfl _ (lP p).toArray (by kernel_rfl) (by kernel_rfl) _ _ (heap_alloc_new _ _) (by kernel_rfl) (by kernel_rfl) (by kernel_rfl) ?_))
  rw [alloc_row]
  have S3 := S2.al rfl 32 (lP p)
  obtain ⟨Y, hY⟩ : ∃ Y, w2.heap.size = Y := ⟨_, rfl⟩
  rw [hY] at S3 ⊢
  generalize w2.alloc (.cells (lP p).toArray 32) = w3 at S3 ⊢
  clear S2 hY
  clear hx
  have c1 := S3.cell 1 1 rfl K1
  have y1 := S3.cell 0 1 rfl rfl
  have f1 := S3.thaw 0 1 rfl
  have y11 := S3.cell 0 11 rfl rfl
  have f11 := S3.thaw 0 11 rfl
  have y12 := S3.cell 0 12 rfl rfl
  have f12 := S3.thaw 0 12 rfl
  go_upto_region 8 with (go_at_call 9; (with_reducible refine (GR _).out.mono ?_); rintro e w' ⟨rfl, rfl⟩)
  have S4 : Hs w [(Y, 32, lP { p with st := 4 }), (X, 32, lP p)] _ := S3.set 0 rfl 1 (.int .i64 4)
  generalize w3.setCell ⟨Y, 1, none⟩ (.int .i64 4) = w4 at S4 ⊢
  clear S3 GR c1 y1 y11 y12 f1 f11 f12
  have HX := fun q : LaterW w4 => HR q.w'
  refine region_later mixedL (by kernel_rfl) ?_
  (refine BigFrame.wpQuiet_want (by kernel_rfl) (fun K hK => ?_); refine quiet_load_row 32 _ rfl X (by kernel_rfl) _ _ (0, 0) _ (S4.bkq 1 rfl) Try.underlying32 rfl (by kernel_rfl) ?_; refine hK _ ?_; clear hK; go_simp)
  go_big_quiet_step ((go_at_call 10; with_reducible exact Calls.later (HX _).out))
  (refine BigFrame.wpQuiet_want (by kernel_rfl) (fun K hK => ?_); refine quiet_load_row 32 _ rfl Y (by kernel_rfl) _ _ (0, 0) _ (S4.bkq 0 rfl) Try.underlying32 rfl (by kernel_rfl) ?_; refine hK _ ?_; clear hK; go_simp)
  repeat (go_big_quiet_step (fail))
  refine wpQuiet_nil ?_
  intro r
  have S5 := S4.below r.h
  generalize r.w' = w5 at S5 ⊢
  clear S4 HX HR E1
  have hx := S5.bk 1 rfl
  have hy := S5.bk 0 rfl
  go_upto_region 11 with (first | (with_reducible refine wpList_load_rowG (by kernel_rfl) 32 (.tmp 1) rfl X (by kernel_rfl) _ _ (0, 0) _ hx Try.underlying32 (by kernel_rfl) (by kernel_rfl) ?_) | (with_reducible refine wpList_store_row rfl 32 (.tmp 3) _ rfl Y (lP p).toArray (by kernel_rfl) (by kernel_rfl) _ _ hy (by kernel_rfl) (by kernel_rfl) (by kernel_rfl) ?_))
  have S6 := S5.row 0 rfl (lP p)
  simp only [List.set] at S6
  generalize w5.setRow Y (lP p).toArray = w6 at S6 ⊢
  clear S5 hy
  clear hx
  have c1 := S6.cell 1 1 rfl K1
  have y1 := S6.cell 0 1 rfl rfl
  have f1 := S6.thaw 0 1 rfl
  have y11 := S6.cell 0 11 rfl rfl
  have f11 := S6.thaw 0 11 rfl
  have y12 := S6.cell 0 12 rfl rfl
  have f12 := S6.thaw 0 12 rfl
  go_upto_region 15 with (go_at_call 11; (with_reducible refine (GB _).out.mono ?_); rintro e w' ⟨rfl, rfl⟩)
  have S7 : Hs w [(Y, 32, lP { p with st := 1, yo := false, yv := 0 }), (X, 32, lP p)] _ := ((S6.set 0 rfl 1 (.int .i64 1)).set 0 rfl 11 (.bool false)).set 0 rfl 12 (.int .i64 0)
  generalize ((w6.setCell ⟨Y, 1, none⟩ (.int .i64 1)).setCell ⟨Y, 11, none⟩ (.bool false)).setCell ⟨Y, 12, none⟩ (.int .i64 0) = w7 at S7 ⊢
  clear S6 GB c1 y1 y11 y12 f1 f11 f12
  have hx := S7.bk 1 rfl
  go_wp2_with (first | (with_reducible refine wpList_load_rowG (by kernel_rfl) 32 (.tmp 1) rfl X (by kernel_rfl) _ _ (0, 0) _ hx Try.underlying32 (by kernel_rfl) (by kernel_rfl) ?_) | fail)
  (with_reducible refine (HB _).out.mono ?_); rintro e w8 ⟨rfl, b8⟩
  have S8 := S7.below b8
  clear S7 b8
  clear hx HB
  go_upto_region 16 with (with_reducible refine wpList_store_row rfl 32 (.tmp 8) _ rfl _ (lP { p with st := 1, yo := false, yv := 0 }).toArray (by kernel_rfl) (by kernel_rfl) _ _ (heap_alloc_new _ _) (by kernel_rfl) (by kernel_rfl) (by kernel_rfl) ?_)
  rw [alloc_row]
  have S9 := S8.al rfl 32 (lP { p with st := 1, yo := false, yv := 0 })
  obtain ⟨B, hB⟩ : ∃ B, w8.heap.size = B := ⟨_, rfl⟩
  rw [hB] at S9 ⊢
  generalize w8.alloc (.cells (lP { p with st := 1, yo := false, yv := 0 }).toArray 32) = w9 at S9 ⊢
  clear S8 hB
  have hB := S9.bk 0 rfl
  have hy := S9.bk 1 rfl
  have hx := S9.bk 2 rfl
  go_upto_region 19 with (first | (with_reducible refine wpList_load_rowG (by kernel_rfl) 32 (.tmp 8) rfl B (by kernel_rfl) _ _ (0, 0) _ hB Try.underlying32 (by kernel_rfl) (by kernel_rfl) ?_) | (with_reducible refine wpList_load_rowG (by kernel_rfl) 32 (.tmp 3) rfl Y (by kernel_rfl) _ _ (0, 0) _ hy Try.underlying32 (by kernel_rfl) (by kernel_rfl) ?_) | (with_reducible refine wpList_load_rowG (by kernel_rfl) 32 (.tmp 1) rfl X (by kernel_rfl) _ _ (0, 0) _ hx Try.underlying32 (by kernel_rfl) (by kernel_rfl) ?_) | (with_reducible refine wpList_store_row rfl 32 (.tmp 3) _ rfl Y (lP p).toArray (by kernel_rfl) (by kernel_rfl) _ _ hy (by kernel_rfl) (by kernel_rfl) (by kernel_rfl) ?_))
  have S10 := S9.row 1 rfl (lP p)
  simp only [List.set] at S10
  generalize w9.setRow Y (lP p).toArray = w10 at S10 ⊢
  clear S9 hy hB E2
  clear hx
  have c1 := S10.cell 2 1 rfl K1
  have y1 := S10.cell 1 1 rfl rfl
  have f1 := S10.thaw 1 1 rfl
  have y11 := S10.cell 1 11 rfl rfl
  have f11 := S10.thaw 1 11 rfl
  have y12 := S10.cell 1 12 rfl rfl
  have f12 := S10.thaw 1 12 rfl
  go_upto_region 23 with (go_at_call 13; (with_reducible refine (GN _).out.mono ?_); rintro e w' ⟨rfl, rfl⟩)
  have S11 : Hs w [(B, 32, lP { p with st := 1, yo := false, yv := 0 }), (Y, 32, lP { p with st := 4 }), (X, 32, lP p)] _ := S10.set 1 rfl 1 (.int .i64 4)
  generalize w10.setCell ⟨Y, 1, none⟩ (.int .i64 4) = w11 at S11 ⊢
  clear S10 GN c1 y1 y11 y12 f1 f11 f12
  have hx := S11.bk 2 rfl
  go_wp2_with (first | (with_reducible refine wpList_load_rowG (by kernel_rfl) 32 (.tmp 1) rfl X (by kernel_rfl) _ _ (0, 0) _ hx Try.underlying32 (by kernel_rfl) (by kernel_rfl) ?_) | fail)
  (with_reducible refine (HN _).out.mono ?_); rintro e w12 ⟨rfl, b12⟩
  have S12 := S11.below b12
  clear S11 b12
  clear hx HN
  go_upto_region 24 with (with_reducible refine wpList_store_row rfl 32 (.tmp 11) _ rfl _ (lP { p with st := 4 }).toArray (by kernel_rfl) (by kernel_rfl) _ _ (heap_alloc_new _ _) (by kernel_rfl) (by kernel_rfl) (by kernel_rfl) ?_)
  rw [alloc_row]
  have S13 := S12.al rfl 32 (lP { p with st := 4 })
  obtain ⟨D, hD⟩ : ∃ D, w12.heap.size = D := ⟨_, rfl⟩
  rw [hD] at S13 ⊢
  generalize w12.alloc (.cells (lP { p with st := 4 }).toArray 32) = w13 at S13 ⊢
  clear S12 hD
  have k1 := fun q : LaterW w13 => (S13.below q.h).cell 3 1 rfl K1
  have LX := fun q : LaterW w13 => HLe q.w'
  have FX := fun q : LaterW w13 => HFo q.w'
  refine region_later mixedL (by kernel_rfl) ?_
  (refine BigFrame.wpQuiet_want (by kernel_rfl) (fun K hK => ?_); refine quiet_load_row 32 _ rfl D (by kernel_rfl) _ _ (0, 0) _ (S13.bkq 0 rfl) Try.underlying32 rfl (by kernel_rfl) ?_; refine hK _ ?_; clear hK; go_simp)
  (refine BigFrame.wpQuiet_want (by kernel_rfl) (fun K hK => ?_); refine quiet_load_row 32 _ rfl Y (by kernel_rfl) _ _ (0, 0) _ (S13.bkq 2 rfl) Try.underlying32 rfl (by kernel_rfl) ?_; refine hK _ ?_; clear hK; go_simp)
  repeat (go_big_quiet_step (first | (go_at_call 15; with_reducible exact Calls.later_same (LX _).out) | (go_at_call 16; with_reducible exact Calls.later_same (FX _).out)))
  refine wpQuiet_nil ?_
  intro r
  go_wp2
  go_ret
  exact ⟨rfl, (S13.below r.h).old⟩

set_option maxRecDepth 100000 in
set_option maxHeartbeats 2000000 in
theorem plays_o (p : Po) (hf : fitsB p = true) (k : Int) (hk : p.st = k) (b0 : ¬ k = 0) (b1 : ¬ k = 1) (b2 : ¬ k = 2) (b3 : ¬ k = 3) (b4 : ¬ k = 4) (w : World) :
    Calls Try.prog 3 #[.agg (lP p).toArray] w fun e w' => e = .returned (.bool true) ∧ Below w.heap.size w w' := by
  have HA := fun W => Lib.hid (awake_port W)
  have HF := fun W => Lib.hid (fits_row p true (Lib.hid hf) W)
  have HR := fun W => Lib.hid (rise_row p { p with st := k } (Lib.hid (by cases p; simp only at hk; subst hk; simp_all [riseP])) W)
  have HB := fun W => Lib.hid (block_row p { p with st := 1, yo := false, yv := 0 } false (Lib.hid (by cases p; simp only at hk; subst hk; simp_all [blockP, learnsB])) W)
  have HN := fun W => Lib.hid (next_row p { p with st := k } false (Lib.hid (by cases p; simp only at hk; subst hk; simp_all [nextP])) W)
  have GR := fun W => Lib.hid (rrise_is k k 0 (Lib.hid (by simp_all [rriseI])) W)
  have GB := fun W => Lib.hid (rblock_is k 1 1 0 (Lib.hid (by simp_all [rblockI])) W)
  have GN := fun W => Lib.hid (rnext_is k k 0 0 (Lib.hid (by simp_all [rnextI])) W)
  have HLe := fun W => Lib.hid (learns_is k false (Lib.hid (by simp_all [learnsB])) W)
  have HFo : ∀ W, Hid (Calls Try.prog 16 #[.int .i64 k] W fun e w' => e = .returned (.bool false) ∧ W = w') := fun W => Lib.hid (by have := fwd_is k W; rwa [decide_eq_false b4] at this)
  have K1 : (lP p)[1]? = some (.int .i64 k) := by rw [← hk]; rfl
  have n3 : (k == 3) = false := by simpa using b3
  have n4 : (k == 4) = false := by simpa using b4
  clear b0 b1 b2 b3 b4
  clear hf hk
  have E1 := same_row { p with st := k }
  have E2 := same_row { p with st := 1, yo := false, yv := 0 }
  have E3 := same_row { p with st := k }
  obtain ⟨wb, hwb, S⟩ := hs_one w 32 (lP p)
  go_enter Try.func3, Try.ntmps3
  go_upto_region 1 with fail
  clear hwb
  obtain ⟨X, hX⟩ : ∃ X, w.heap.size = X := ⟨_, rfl⟩
  rw [hX] at S ⊢
  go_wp2_with fail
  (with_reducible refine (HA _).out.mono ?_); rintro e w1 ⟨rfl, b1⟩
  have S1 := S.below b1
  clear S b1
  have hx := S1.bk 0 rfl
  go_wp2_with (first | (with_reducible refine wpList_load_rowG (by kernel_rfl) 32 (.tmp 1) rfl X (by kernel_rfl) _ _ (0, 0) _ hx Try.underlying32 (by kernel_rfl) (by kernel_rfl) ?_) | fail)
  (with_reducible refine (HF _).out.mono ?_); rintro e w2 ⟨rfl, b2⟩
  have S2 := S1.below b2
  clear S1 b2
  clear hx HA HF
  have hx := S2.bk 0 rfl
  go_upto_region 4 with (first | (with_reducible refine wpList_load_rowG (by kernel_rfl) 32 (.tmp 1) rfl X (by kernel_rfl) _ _ (0, 0) _ hx Try.underlying32 (by kernel_rfl) (by kernel_rfl) ?_) | (with_reducible refine wpList_store_row rfl 32 (.tmp 3) _ rfl _ (lP p).toArray (by kernel_rfl) (by kernel_rfl) _ _ (heap_alloc_new _ _) (by kernel_rfl) (by kernel_rfl) (by kernel_rfl) ?_))
  rw [alloc_row]
  have S3 := S2.al rfl 32 (lP p)
  obtain ⟨Y, hY⟩ : ∃ Y, w2.heap.size = Y := ⟨_, rfl⟩
  rw [hY] at S3 ⊢
  generalize w2.alloc (.cells (lP p).toArray 32) = w3 at S3 ⊢
  clear S2 hY
  clear hx
  have c1 := S3.cell 1 1 rfl K1
  have y1 := S3.cell 0 1 rfl rfl
  have f1 := S3.thaw 0 1 rfl
  have y11 := S3.cell 0 11 rfl rfl
  have f11 := S3.thaw 0 11 rfl
  have y12 := S3.cell 0 12 rfl rfl
  have f12 := S3.thaw 0 12 rfl
  go_upto_region 8 with (go_at_call 9; (with_reducible refine (GR _).out.mono ?_); rintro e w' ⟨rfl, rfl⟩)
  have S4 : Hs w [(Y, 32, lP { p with st := k }), (X, 32, lP p)] _ := S3.set 0 rfl 1 (.int .i64 k)
  generalize w3.setCell ⟨Y, 1, none⟩ (.int .i64 k) = w4 at S4 ⊢
  clear S3 GR c1 y1 y11 y12 f1 f11 f12
  have HX := fun q : LaterW w4 => HR q.w'
  refine region_later mixedL (by kernel_rfl) ?_
  (refine BigFrame.wpQuiet_want (by kernel_rfl) (fun K hK => ?_); refine quiet_load_row 32 _ rfl X (by kernel_rfl) _ _ (0, 0) _ (S4.bkq 1 rfl) Try.underlying32 rfl (by kernel_rfl) ?_; refine hK _ ?_; clear hK; go_simp)
  go_big_quiet_step ((go_at_call 10; with_reducible exact Calls.later (HX _).out))
  (refine BigFrame.wpQuiet_want (by kernel_rfl) (fun K hK => ?_); refine quiet_load_row 32 _ rfl Y (by kernel_rfl) _ _ (0, 0) _ (S4.bkq 0 rfl) Try.underlying32 rfl (by kernel_rfl) ?_; refine hK _ ?_; clear hK; go_simp)
  repeat (go_big_quiet_step (fail))
  refine wpQuiet_nil ?_
  intro r
  have S5 := S4.below r.h
  generalize r.w' = w5 at S5 ⊢
  clear S4 HX HR E1
  have hx := S5.bk 1 rfl
  have hy := S5.bk 0 rfl
  go_upto_region 11 with (first | (with_reducible refine wpList_load_rowG (by kernel_rfl) 32 (.tmp 1) rfl X (by kernel_rfl) _ _ (0, 0) _ hx Try.underlying32 (by kernel_rfl) (by kernel_rfl) ?_) | (with_reducible refine wpList_store_row rfl 32 (.tmp 3) _ rfl Y (lP p).toArray (by kernel_rfl) (by kernel_rfl) _ _ hy (by kernel_rfl) (by kernel_rfl) (by kernel_rfl) ?_))
  have S6 := S5.row 0 rfl (lP p)
  simp only [List.set] at S6
  generalize w5.setRow Y (lP p).toArray = w6 at S6 ⊢
  clear S5 hy
  clear hx
  have c1 := S6.cell 1 1 rfl K1
  have y1 := S6.cell 0 1 rfl rfl
  have f1 := S6.thaw 0 1 rfl
  have y11 := S6.cell 0 11 rfl rfl
  have f11 := S6.thaw 0 11 rfl
  have y12 := S6.cell 0 12 rfl rfl
  have f12 := S6.thaw 0 12 rfl
  go_upto_region 15 with (go_at_call 11; (with_reducible refine (GB _).out.mono ?_); rintro e w' ⟨rfl, rfl⟩)
  have S7 : Hs w [(Y, 32, lP { p with st := 1, yo := false, yv := 0 }), (X, 32, lP p)] _ := ((S6.set 0 rfl 1 (.int .i64 1)).set 0 rfl 11 (.bool false)).set 0 rfl 12 (.int .i64 0)
  generalize ((w6.setCell ⟨Y, 1, none⟩ (.int .i64 1)).setCell ⟨Y, 11, none⟩ (.bool false)).setCell ⟨Y, 12, none⟩ (.int .i64 0) = w7 at S7 ⊢
  clear S6 GB c1 y1 y11 y12 f1 f11 f12
  have hx := S7.bk 1 rfl
  go_wp2_with (first | (with_reducible refine wpList_load_rowG (by kernel_rfl) 32 (.tmp 1) rfl X (by kernel_rfl) _ _ (0, 0) _ hx Try.underlying32 (by kernel_rfl) (by kernel_rfl) ?_) | fail)
  (with_reducible refine (HB _).out.mono ?_); rintro e w8 ⟨rfl, b8⟩
  have S8 := S7.below b8
  clear S7 b8
  clear hx HB
  go_upto_region 16 with (with_reducible refine wpList_store_row rfl 32 (.tmp 8) _ rfl _ (lP { p with st := 1, yo := false, yv := 0 }).toArray (by kernel_rfl) (by kernel_rfl) _ _ (heap_alloc_new _ _) (by kernel_rfl) (by kernel_rfl) (by kernel_rfl) ?_)
  rw [alloc_row]
  have S9 := S8.al rfl 32 (lP { p with st := 1, yo := false, yv := 0 })
  obtain ⟨B, hB⟩ : ∃ B, w8.heap.size = B := ⟨_, rfl⟩
  rw [hB] at S9 ⊢
  generalize w8.alloc (.cells (lP { p with st := 1, yo := false, yv := 0 }).toArray 32) = w9 at S9 ⊢
  clear S8 hB
  have hB := S9.bk 0 rfl
  have hy := S9.bk 1 rfl
  have hx := S9.bk 2 rfl
  go_upto_region 19 with (first | (with_reducible refine wpList_load_rowG (by kernel_rfl) 32 (.tmp 8) rfl B (by kernel_rfl) _ _ (0, 0) _ hB Try.underlying32 (by kernel_rfl) (by kernel_rfl) ?_) | (with_reducible refine wpList_load_rowG (by kernel_rfl) 32 (.tmp 3) rfl Y (by kernel_rfl) _ _ (0, 0) _ hy Try.underlying32 (by kernel_rfl) (by kernel_rfl) ?_) | (with_reducible refine wpList_load_rowG (by kernel_rfl) 32 (.tmp 1) rfl X (by kernel_rfl) _ _ (0, 0) _ hx Try.underlying32 (by kernel_rfl) (by kernel_rfl) ?_) | (with_reducible refine wpList_store_row rfl 32 (.tmp 3) _ rfl Y (lP p).toArray (by kernel_rfl) (by kernel_rfl) _ _ hy (by kernel_rfl) (by kernel_rfl) (by kernel_rfl) ?_))
  have S10 := S9.row 1 rfl (lP p)
  simp only [List.set] at S10
  generalize w9.setRow Y (lP p).toArray = w10 at S10 ⊢
  clear S9 hy hB E2
  clear hx
  have c1 := S10.cell 2 1 rfl K1
  have y1 := S10.cell 1 1 rfl rfl
  have f1 := S10.thaw 1 1 rfl
  have y11 := S10.cell 1 11 rfl rfl
  have f11 := S10.thaw 1 11 rfl
  have y12 := S10.cell 1 12 rfl rfl
  have f12 := S10.thaw 1 12 rfl
  go_upto_region 23 with (go_at_call 13; (with_reducible refine (GN _).out.mono ?_); rintro e w' ⟨rfl, rfl⟩)
  have S11 : Hs w [(B, 32, lP { p with st := 1, yo := false, yv := 0 }), (Y, 32, lP { p with st := k }), (X, 32, lP p)] _ := S10.set 1 rfl 1 (.int .i64 k)
  generalize w10.setCell ⟨Y, 1, none⟩ (.int .i64 k) = w11 at S11 ⊢
  clear S10 GN c1 y1 y11 y12 f1 f11 f12
  have hx := S11.bk 2 rfl
  go_wp2_with (first | (with_reducible refine wpList_load_rowG (by kernel_rfl) 32 (.tmp 1) rfl X (by kernel_rfl) _ _ (0, 0) _ hx Try.underlying32 (by kernel_rfl) (by kernel_rfl) ?_) | fail)
  (with_reducible refine (HN _).out.mono ?_); rintro e w12 ⟨rfl, b12⟩
  have S12 := S11.below b12
  clear S11 b12
  clear hx HN
  go_upto_region 24 with (with_reducible refine wpList_store_row rfl 32 (.tmp 11) _ rfl _ (lP { p with st := k }).toArray (by kernel_rfl) (by kernel_rfl) _ _ (heap_alloc_new _ _) (by kernel_rfl) (by kernel_rfl) (by kernel_rfl) ?_)
  rw [alloc_row]
  have S13 := S12.al rfl 32 (lP { p with st := k })
  obtain ⟨D, hD⟩ : ∃ D, w12.heap.size = D := ⟨_, rfl⟩
  rw [hD] at S13 ⊢
  generalize w12.alloc (.cells (lP { p with st := k }).toArray 32) = w13 at S13 ⊢
  clear S12 hD
  have k1 := fun q : LaterW w13 => (S13.below q.h).cell 3 1 rfl K1
  have LX := fun q : LaterW w13 => HLe q.w'
  have FX := fun q : LaterW w13 => HFo q.w'
  refine region_later mixedL (by kernel_rfl) ?_
  (refine BigFrame.wpQuiet_want (by kernel_rfl) (fun K hK => ?_); refine quiet_load_row 32 _ rfl D (by kernel_rfl) _ _ (0, 0) _ (S13.bkq 0 rfl) Try.underlying32 rfl (by kernel_rfl) ?_; refine hK _ ?_; clear hK; go_simp)
  (refine BigFrame.wpQuiet_want (by kernel_rfl) (fun K hK => ?_); refine quiet_load_row 32 _ rfl Y (by kernel_rfl) _ _ (0, 0) _ (S13.bkq 2 rfl) Try.underlying32 rfl (by kernel_rfl) ?_; refine hK _ ?_; clear hK; go_simp)
  repeat (go_big_quiet_step (first | (go_at_call 15; with_reducible exact Calls.later_same (LX _).out) | (go_at_call 16; with_reducible exact Calls.later_same (FX _).out)))
  refine wpQuiet_nil ?_
  intro r
  go_wp2
  go_ret
  exact ⟨rfl, (S13.below r.h).old⟩

theorem plays_off (p : Po) (hf : fitsB p = false) (w : World) :
    Calls Try.prog 3 #[.agg (lP p).toArray] w fun e w' => e = .returned (.bool true) ∧ Below w.heap.size w w' := by
  have HA := fun W => Lib.hid (awake_port W)
  have HF := fun W => Lib.hid (fits_row p false (Lib.hid hf) W)
  obtain ⟨wb, hwb, S⟩ := hs_one w 32 (lP p)
  go_enter Try.func3, Try.ntmps3
  go_upto_region 1 with fail
  clear hwb
  obtain ⟨X, hX⟩ : ∃ X, w.heap.size = X := ⟨_, rfl⟩
  rw [hX] at S ⊢
  go_wp2_with fail
  (with_reducible refine (HA _).out.mono ?_); rintro e w1 ⟨rfl, b1⟩
  have S1 := S.below b1
  clear S b1
  have hx := S1.bk 0 rfl
  go_wp2_with (first | (with_reducible refine wpList_load_rowG (by kernel_rfl) 32 (.tmp 1) rfl X (by kernel_rfl) _ _ (0, 0) _ hx Try.underlying32 (by kernel_rfl) (by kernel_rfl) ?_) | fail)
  (with_reducible refine (HF _).out.mono ?_); rintro e w2 ⟨rfl, b2⟩
  have S2 := S1.below b2
  clear S1 b2
  go_wp2_with fail
  (with_reducible refine (HA _).out.mono ?_); rintro e w3 ⟨rfl, b3⟩
  have S3 := S2.below b3
  clear S2 b3
  go_wp2
  go_ret
  exact ⟨rfl, S3.old⟩

theorem PortPlays_walk (p : Po) (w : World) :
    Calls Try.prog 3 #[.agg #[.int .u16 p.id, .int .i64 p.st, .int .u32 p.co, .int .u64 p.hr, .int .u32 p.hc, .int .u64 p.hb, .int .u16 p.hp, .bool p.ak, .bool p.pe, .bool p.ao, .int .i64 p.av, .bool p.yo, .int .i64 p.yv, .bool p.ho, .int .i64 p.hv]] w fun e w' => e = .returned (.bool true) ∧ Below w.heap.size w w' := by
  show Calls Try.prog 3 #[.agg (lP p).toArray] w _
  cases hf : fitsB p with
  | false => exact plays_off p hf w
  | true =>
    by_cases h0 : p.st = 0
    · exact plays_0 p hf h0 w
    by_cases h1 : p.st = 1
    · exact plays_1 p hf h1 w
    by_cases h2 : p.st = 2
    · exact plays_2 p hf h2 w
    by_cases h3 : p.st = 3
    · exact plays_3 p hf h3 w
    by_cases h4 : p.st = 4
    · exact plays_4 p hf h4 w
    exact plays_o p hf p.st rfl h0 h1 h2 h3 h4 w

end Go.Proofs.Ytcbdfkgfidlkeaa
