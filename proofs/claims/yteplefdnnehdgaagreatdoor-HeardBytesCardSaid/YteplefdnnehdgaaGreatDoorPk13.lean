/- Several texts in one, one behind the other: SendDet, HeardSettle, HeardYield, HeardFollow. -/
import Derived.Test.YteplefdnnehdgaaGreatDoorPk11
import Derived.Test.YteplefdnnehdgaaGreatDoorPk09
import Derived.Test.YteplefdnnehdgaaGreatDoorPk12

/- Tcn, Acked, Detect: contracts. -/
namespace Go.Proofs.YteplefdnnehdgaaGreatDoor
set_option maxRecDepth 100000
open Go.ChangeShapes Go.WideShapes Go.ChangeAt Go.RowKit
set_option linter.unusedVariables false
set_option linter.unusedSimpArgs false

set_option maxHeartbeats 1000000 in
theorem stcn_is (t : Th) (A : Option Addr) (n cap : Nat) (ht : Hid (ThB t)) (w : World) (hd : Hd w) :
    Calls Tryz.prog 63 #[.agg (lT t A n cap).toArray] w (OutsEnd w (tcnR t n)) := by
  obtain ⟨R, hR⟩ : ∃ R, tcnR t n = R := ⟨_, rfl⟩
  rw [hR]
  have HR := Lib.hid hR
  clear hR
  have HD := Lib.hid hd
  clear hd
  have HOT : ∀ W, Hd W → Hid (Calls Tryz.prog 80 #[.agg (lT t A n cap).toArray, .int .i64 t.rp, .agg #[.bool true, .bool false, .bool false, .int .u64 0, .int .u32 0, .int .u64 0, .int .u16 0, .int .u16 0, .int .u16 0, .int .u16 0, .int .u16 0]] W (OutEnd W ⟨t.rp, t.ow % 281474976710656, tcnQ⟩)) := fun W h => Lib.hid (goes_is t A n cap t.rp tcnQ (by unfold BqIn BpIn tcnQ; decide) ht.out.1 W h)
  obtain ⟨q, hq⟩ : ∃ q, (decide (0 ≤ t.rp) && decide (t.rp < (n : Int))) = q := ⟨_, rfl⟩
  have HT := fun W => Lib.hid (there_is t A n cap t.rp q (Lib.hid hq) W)
  have HQ := Lib.hid hq
  clear hq
  obtain ⟨wb, hwb, S⟩ := hs_one w 31 (lT t A n cap)
  go_enter Tryz.func63, Tryz.ntmps63
  go_upto_region 1 with fail
  clear hwb
  obtain ⟨X, hX⟩ : ∃ X, w.heap.size = X := ⟨_, rfl⟩
  rw [hX] at S ⊢
  clear hX
  have hx := S.bk 0 rfl
  have c3 := S.cell 0 3 rfl rfl
  go_wp2_with (with_reducible refine wpList_load_row rfl 31 (.tmp 1) rfl X (by kernel_rfl) _ _ (0, 0) _ hx Tryz.underlying31 rfl (by kernel_rfl) ?_)
  (with_reducible refine (HT _).out.mono ?_); rintro e w1 ⟨rfl, b1⟩
  have S1 := S.below b1
  clear S hx c3 HT b1
  cases q with
  | false =>
    obtain rfl : [] = R := by
      rw [← HR.out, tcnR, if_neg]
      have h := HQ.out
      simp only [Bool.and_eq_false_iff, decide_eq_false_iff_not] at h
      omega
    go_wp2
    go_ret
    exact ⟨_, rfl, OutsR.nil _ _, S1.old⟩
  | true =>
    obtain rfl : [⟨t.rp, t.ow % 281474976710656, tcnQ⟩] = R := by
      rw [← HR.out, tcnR, if_pos]
      have h := HQ.out
      simp only [Bool.and_eq_true, decide_eq_true_eq] at h
      exact h
    have HO := HOT w1 (HD.out.below S1.old (Nat.le_refl _))
    have hx := S1.bk 0 rfl
    have c3 := S1.cell 0 3 rfl rfl
    clear HOT HD
    go_wp2_with (with_reducible refine wpList_load_row rfl 31 (.tmp 1) rfl X (by kernel_rfl) _ _ (0, 0) _ hx Tryz.underlying31 rfl (by kernel_rfl) ?_)
    (with_reducible refine HO.out.mono ?_); rintro e w2 ⟨g, c, rfl, hoc, b2⟩
    have hoc2 : OcAt w2 w.heap.size ⟨⟨t.rp, t.ow % 281474976710656, tcnQ⟩, g, c⟩ := ⟨Nat.le_trans S1.old.size hoc.1, hoc.2⟩
    have S2 := S1.below b2
    have hO := outs_one (w := w) S2.old.size hoc2
    have B3 := S2.old.trans ((new_below w2 (.cells (lO ⟨⟨t.rp, t.ow % 281474976710656, tcnQ⟩, g, c⟩).toArray 60)).mono S2.old.size)
    obtain ⟨oc, hoc0⟩ : ∃ q : Oc, (⟨⟨t.rp, t.ow % 281474976710656, tcnQ⟩, g, c⟩ : Oc) = q := ⟨_, rfl⟩
    rw [hoc0] at hO B3 ⊢
    have hlen := lO_len oc
    have hfold : List.foldl (fun (cs : Array Value) (x : Value × Nat) => cs.setIfInBounds x.snd x.fst) #[.int .i64 0, .int .u64 0, .int .u64 0, .int .u16 0, .slice none 0 0] (lO oc).zipIdx = (lO oc).toArray := rfl
    have HO := Lib.hid hO
    have HB3 := Lib.hid B3
    have HQ := Lib.hid hoc0
    clear hO B3 hoc hoc2 S1 S2 b2 hx c3 hoc0
    go_wp2
    go_ret
    refine ⟨_, rfl, ?_, HB3.out⟩
    have := HO.out
    rw [← HQ.out] at this ⊢
    exact this

set_option maxHeartbeats 1000000 in
theorem acked_is (t : Th) (A : Option Addr) (n cap : Nat) (L : List Po) (hL : Hid (L.length = n)) (hf : n ≤ 200) (hc : Hid (A = none → cap = 0)) (w : World) (hp : Hid (PoAt w A w.heap.size L)) :
    Calls Tryz.prog 78 #[.agg (lT t A n cap).toArray] w (TOut w { t with de := false, xo := false, xv := 0 } n L) := by
  obtain ⟨wb, hwb, S⟩ := hs_two w 31 31 (lT t A n cap) [.int .u64 0, .int .u64 0, .int .u32 0, .int .i64 0, .int .i64 0, .int .i64 0, .int .i64 0, .int .i64 0, .int .i64 0, .int .i64 0, .bool false, .bool false, .bool false, .int .i64 0, .bool false, .int .i64 0, .bool false, .int .i64 0, .slice none 0 0]
  go_enter Tryz.func78, Tryz.ntmps78
  go_upto_region 1 with fail
  clear hwb
  obtain ⟨X, hX⟩ : ∃ X, w.heap.size = X := ⟨_, rfl⟩
  rw [hX] at S
  obtain ⟨Y, hY⟩ : ∃ Y, X + 1 = Y := ⟨_, rfl⟩
  rw [hY] at S
  rw [hX]
  rw [hY]
  clear hX hY
  have hp1 := Lib.hid ((hp.out.below S.old (Nat.le_refl _)).wide S.old.size)
  have HC := Lib.hid (tcopy_is t A n cap L hL hf hc wb hp1)
  have hx := S.bk 1 rfl
  go_wp2_with (with_reducible refine wpList_load_row rfl 31 (.tmp 1) rfl X (by kernel_rfl) _ _ (0, 0) _ hx Tryz.underlying31 rfl (by kernel_rfl) ?_)
  (with_reducible refine HC.out.mono ?_); rintro e w1 ⟨D, cap', rfl, hz, k1⟩
  have S1 := TS.take S k1
  have HZ := Lib.hid hz
  clear S hx HC hp1 k1 hz
  have hx := S1.hs.bk 1 rfl
  go_upto_region 2 with (refine wpList_store_row rfl 31 _ _ rfl X _ rfl rfl _ _ hx (by kernel_rfl) (by kernel_rfl) (by kernel_rfl) ?_)
  have S2 : TS w [(Y, 31, [.int .u64 0, .int .u64 0, .int .u32 0, .int .i64 0, .int .i64 0, .int .i64 0, .int .i64 0, .int .i64 0, .int .i64 0, .int .i64 0, .bool false, .bool false, .bool false, .int .i64 0, .bool false, .int .i64 0, .bool false, .int .i64 0, .slice none 0 0]), (X, 31, lT t D n cap')] D L _ := S1.row 1 rfl (lT t D n cap')
  generalize w1.setRow X (lT t D n cap').toArray = w2 at S2 ⊢
  clear S1 hx
  have ca := S2.hs.cell 1 10 rfl rfl
  have fa := S2.hs.thaw 1 10 rfl
  go_upto_region 3 with fail
  have S3 : TS w [(Y, 31, [.int .u64 0, .int .u64 0, .int .u32 0, .int .i64 0, .int .i64 0, .int .i64 0, .int .i64 0, .int .i64 0, .int .i64 0, .int .i64 0, .bool false, .bool false, .bool false, .int .i64 0, .bool false, .int .i64 0, .bool false, .int .i64 0, .slice none 0 0]), (X, 31, lT { t with de := false } D n cap')] D L (w2.setCell ⟨X, 10, none⟩ (.bool false)) := S2.set 1 rfl 10 (.bool false)
  generalize w2.setCell ⟨X, 10, none⟩ (.bool false) = w3 at S3 ⊢
  clear S2 ca fa
  go_wp2_with fail
  (with_reducible refine (stop_is _).mono ?_); rintro e w4 ⟨rfl, b4⟩
  have S4 := S3.below b4
  clear S3 b4
  have ca := S4.hs.cell 1 14 rfl rfl
  have cb := S4.hs.cell 1 15 rfl rfl
  have fa := S4.hs.thaw 1 14 rfl
  have fb := S4.hs.thaw 1 15 rfl
  go_upto_region 4 with fail
  have S5 : TS w [(Y, 31, [.int .u64 0, .int .u64 0, .int .u32 0, .int .i64 0, .int .i64 0, .int .i64 0, .int .i64 0, .int .i64 0, .int .i64 0, .int .i64 0, .bool false, .bool false, .bool false, .int .i64 0, .bool false, .int .i64 0, .bool false, .int .i64 0, .slice none 0 0]), (X, 31, lT { t with de := false, xo := false, xv := 0 } D n cap')] D L ((w4.setCell ⟨X, 14, none⟩ (.bool false)).setCell ⟨X, 15, none⟩ (.int .i64 0)) := (S4.set 1 rfl 14 (.bool false)).set 1 rfl 15 (.int .i64 0)
  generalize (w4.setCell ⟨X, 14, none⟩ (.bool false)).setCell ⟨X, 15, none⟩ (.int .i64 0) = w5 at S5 ⊢
  clear S4 ca cb fa fb
  have hx := S5.hs.bk 1 rfl
  have hy := S5.hs.bk 0 rfl
  go_wp2_with (first | (with_reducible refine wpList_load_row rfl 31 (.tmp 1) rfl X (by kernel_rfl) _ _ (0, 0) _ hx Tryz.underlying31 rfl (by kernel_rfl) ?_) | (refine wpList_store_row rfl 31 _ _ rfl Y _ rfl rfl _ _ hy (by kernel_rfl) (by kernel_rfl) (by kernel_rfl) ?_))
  exact bodyPost_ret (v := .agg (lT { t with de := false, xo := false, xv := 0 } D n cap').toArray) (results_cell_row rfl _ _ Y _ _ _ _ rfl (setRow_heap _ _ _ _ _ _ hy) Tryz.underlying31 rfl (by kernel_rfl)) rfl ⟨D, cap', rfl, HZ.out, (S5.row 0 rfl (lT { t with de := false, xo := false, xv := 0 } D n cap')).nobox⟩

set_option maxHeartbeats 2000000 in
theorem sdetect_is (t : Th) (A : Option Addr) (n cap : Nat) (L : List Po) (hL : Hid (L.length = n)) (hf : n ≤ 200) (ht : Hid (ThB t)) (hc : Hid (A = none → cap = 0)) (w : World) (hd : Hd w) (hp : Hid (PoAt w A w.heap.size L)) :
    Calls Tryz.prog 33 #[.agg (lT t A n cap).toArray] w (ConfEnd w (detT t) n (L, detO t n)) := by
  unfold ConfEnd
  obtain ⟨T, hT⟩ : ∃ T, detT t = T := ⟨_, rfl⟩
  obtain ⟨R, hR⟩ : ∃ R, detO t n = R := ⟨_, rfl⟩
  rw [hT, hR]
  have HT := Lib.hid hT
  have HR := Lib.hid hR
  clear hT hR
  have HD := Lib.hid hd
  clear hd
  obtain ⟨wb, hwb, S⟩ := hs_two w 31 31 (lT t A n cap) [.int .u64 0, .int .u64 0, .int .u32 0, .int .i64 0, .int .i64 0, .int .i64 0, .int .i64 0, .int .i64 0, .int .i64 0, .int .i64 0, .bool false, .bool false, .bool false, .int .i64 0, .bool false, .int .i64 0, .bool false, .int .i64 0, .slice none 0 0]
  go_enter Tryz.func33, Tryz.ntmps33
  go_upto_region 1 with fail
  clear hwb
  obtain ⟨X, hX⟩ : ∃ X, w.heap.size = X := ⟨_, rfl⟩
  rw [hX] at S
  obtain ⟨Y, hY⟩ : ∃ Y, X + 1 = Y := ⟨_, rfl⟩
  rw [hY] at S
  rw [hX]
  rw [hY]
  clear hX hY
  have hp1 := Lib.hid ((hp.out.below S.old (Nat.le_refl _)).wide S.old.size)
  have HC := Lib.hid (tcopy_is t A n cap L hL hf hc wb hp1)
  have hx := S.bk 1 rfl
  go_wp2_with (with_reducible refine wpList_load_row rfl 31 (.tmp 1) rfl X (by kernel_rfl) _ _ (0, 0) _ hx Tryz.underlying31 rfl (by kernel_rfl) ?_)
  (with_reducible refine HC.out.mono ?_); rintro e w1 ⟨D, cap', rfl, hz, k1⟩
  have S1 := TS.take S k1
  have HZ := Lib.hid hz
  clear S hx HC hp1 k1 hz
  have hx := S1.hs.bk 1 rfl
  go_upto_region 2 with (refine wpList_store_row rfl 31 _ _ rfl X _ rfl rfl _ _ hx (by kernel_rfl) (by kernel_rfl) (by kernel_rfl) ?_)
  have S2 : TS w [(Y, 31, [.int .u64 0, .int .u64 0, .int .u32 0, .int .i64 0, .int .i64 0, .int .i64 0, .int .i64 0, .int .i64 0, .int .i64 0, .int .i64 0, .bool false, .bool false, .bool false, .int .i64 0, .bool false, .int .i64 0, .bool false, .int .i64 0, .slice none 0 0]), (X, 31, lT t D n cap')] D L _ := S1.row 1 rfl (lT t D n cap')
  generalize w1.setRow X (lT t D n cap').toArray = w2 at S2 ⊢
  clear S1 hx
  obtain ⟨q, hq⟩ : ∃ q, decide (t.ro = t.ow) = q := ⟨_, rfl⟩
  have HI := fun W => Lib.hid (isroot_is t D n cap' q (Lib.hid hq) W)
  have HQ := Lib.hid hq
  clear hq
  have hx := S2.hs.bk 1 rfl
  go_wp2_with (with_reducible refine wpList_load_row rfl 31 (.tmp 1) rfl X (by kernel_rfl) _ _ (0, 0) _ hx Tryz.underlying31 rfl (by kernel_rfl) ?_)
  (with_reducible refine (HI _).out.mono ?_); rintro e w3 ⟨rfl, b3⟩
  have S3 := S2.below b3
  clear S2 hx HI b3
  cases q with
  | true =>
    have hro := of_decide_eq_true HQ.out
    obtain rfl : ({ t with de := true, ch := true, zo := true, zv := 0 } : Th) = T := by rw [← HT.out, detT, if_pos hro]
    obtain rfl : [] = R := by rw [← HR.out, detO, if_pos hro]
    clear hro
    have ca := S3.hs.cell 1 10 rfl rfl
    have cb := S3.hs.cell 1 11 rfl rfl
    have fa := S3.hs.thaw 1 10 rfl
    have fb := S3.hs.thaw 1 11 rfl
    go_upto_region 4 with fail
    have S4 : TS w [(Y, 31, [.int .u64 0, .int .u64 0, .int .u32 0, .int .i64 0, .int .i64 0, .int .i64 0, .int .i64 0, .int .i64 0, .int .i64 0, .int .i64 0, .bool false, .bool false, .bool false, .int .i64 0, .bool false, .int .i64 0, .bool false, .int .i64 0, .slice none 0 0]), (X, 31, lT { t with de := true, ch := true } D n cap')] D L ((w3.setCell ⟨X, 10, none⟩ (.bool true)).setCell ⟨X, 11, none⟩ (.bool true)) := (S3.set 1 rfl 10 (.bool true)).set 1 rfl 11 (.bool true)
    generalize (w3.setCell ⟨X, 10, none⟩ (.bool true)).setCell ⟨X, 11, none⟩ (.bool true) = w4 at S4 ⊢
    clear S3 ca cb fa fb
    go_wp2_with fail
    (with_reducible refine (start0 _).mono ?_); rintro e w5 ⟨rfl, b5⟩
    have S5 := S4.below b5
    clear S4 b5
    have ca := S5.hs.cell 1 16 rfl rfl
    have cb := S5.hs.cell 1 17 rfl rfl
    have fa := S5.hs.thaw 1 16 rfl
    have fb := S5.hs.thaw 1 17 rfl
    go_upto_region 9 with fail
    have S6 : TS w [(Y, 31, [.int .u64 0, .int .u64 0, .int .u32 0, .int .i64 0, .int .i64 0, .int .i64 0, .int .i64 0, .int .i64 0, .int .i64 0, .int .i64 0, .bool false, .bool false, .bool false, .int .i64 0, .bool false, .int .i64 0, .bool false, .int .i64 0, .slice none 0 0]), (X, 31, lT { t with de := true, ch := true, zo := true, zv := 0 } D n cap')] D L ((w5.setCell ⟨X, 16, none⟩ (.bool true)).setCell ⟨X, 17, none⟩ (.int .i64 0)) := (S5.set 1 rfl 16 (.bool true)).set 1 rfl 17 (.int .i64 0)
    generalize (w5.setCell ⟨X, 16, none⟩ (.bool true)).setCell ⟨X, 17, none⟩ (.int .i64 0) = w6 at S6 ⊢
    clear S5 ca cb fa fb
    have hx := S6.hs.bk 1 rfl
    have hy := S6.hs.bk 0 rfl
    go_wp2_with (first | (with_reducible refine wpList_load_row rfl 31 (.tmp 1) rfl X (by kernel_rfl) _ _ (0, 0) _ hx Tryz.underlying31 rfl (by kernel_rfl) ?_) | (refine wpList_store_row rfl 31 _ _ rfl Y _ rfl rfl _ _ hy (by kernel_rfl) (by kernel_rfl) (by kernel_rfl) ?_))
    exact bodyPost_ret (v := .tuple #[.agg (lT { t with de := true, ch := true, zo := true, zv := 0 } D n cap').toArray, .slice none 0 0]) (results_two rfl _ _ Y _ _ _ _ rfl _ rfl (setRow_heap _ _ _ _ _ _ hy) Tryz.underlying31 rfl (by kernel_rfl)) rfl ⟨D, cap', _, rfl, HZ.out, (S6.row 0 rfl (lT { t with de := true, ch := true, zo := true, zv := 0 } D n cap')).nobox, OutsR.nil _ _⟩
  | false =>
    have hro : ¬ t.ro = t.ow := of_decide_eq_false HQ.out
    obtain ⟨d, hd⟩ : ∃ d, t.de = d := ⟨_, rfl⟩
    have c10 := S3.hs.cell 1 10 rfl rfl
    cases d with
    | true =>
      obtain rfl : t = T := by rw [← HT.out, detT, if_neg hro, if_pos hd]
      obtain rfl : [] = R := by rw [← HR.out, detO, if_neg hro, if_pos hd]
      rw [hd] at c10
      clear hro hd
      have hx := S3.hs.bk 1 rfl
      have hy := S3.hs.bk 0 rfl
      go_wp2_with (first | (with_reducible refine wpList_load_row rfl 31 (.tmp 1) rfl X (by kernel_rfl) _ _ (0, 0) _ hx Tryz.underlying31 rfl (by kernel_rfl) ?_) | (refine wpList_store_row rfl 31 _ _ rfl Y _ rfl rfl _ _ hy (by kernel_rfl) (by kernel_rfl) (by kernel_rfl) ?_))
      exact bodyPost_ret (v := .tuple #[.agg (lT t D n cap').toArray, .slice none 0 0]) (results_two rfl _ _ Y _ _ _ _ rfl _ rfl (setRow_heap _ _ _ _ _ _ hy) Tryz.underlying31 rfl (by kernel_rfl)) rfl ⟨D, cap', _, rfl, HZ.out, (S3.row 0 rfl (lT t D n cap')).nobox, OutsR.nil _ _⟩
    | false =>
      obtain rfl : ({ t with de := true, xo := true, xv := 0 } : Th) = T := by rw [← HT.out, detT, if_neg hro, if_neg (by rw [hd]; decide)]
      obtain rfl : tcnR t n = R := by rw [← HR.out, detO, if_neg hro, if_neg (by rw [hd]; decide)]
      rw [hd] at c10
      clear hro hd
      go_upto_region 6 with fail
      clear c10
      have ca := S3.hs.cell 1 10 rfl rfl
      have fa := S3.hs.thaw 1 10 rfl
      go_upto_region 7 with fail
      have S4 : TS w [(Y, 31, [.int .u64 0, .int .u64 0, .int .u32 0, .int .i64 0, .int .i64 0, .int .i64 0, .int .i64 0, .int .i64 0, .int .i64 0, .int .i64 0, .bool false, .bool false, .bool false, .int .i64 0, .bool false, .int .i64 0, .bool false, .int .i64 0, .slice none 0 0]), (X, 31, lT { t with de := true } D n cap')] D L (w3.setCell ⟨X, 10, none⟩ (.bool true)) := S3.set 1 rfl 10 (.bool true)
      generalize w3.setCell ⟨X, 10, none⟩ (.bool true) = w4 at S4 ⊢
      clear S3 ca fa
      go_wp2_with fail
      (with_reducible refine (start0 _).mono ?_); rintro e w5 ⟨rfl, b5⟩
      have S5 := S4.below b5
      clear S4 b5
      have ca := S5.hs.cell 1 14 rfl rfl
      have cb := S5.hs.cell 1 15 rfl rfl
      have fa := S5.hs.thaw 1 14 rfl
      have fb := S5.hs.thaw 1 15 rfl
      go_upto_region 8 with fail
      have S6 : TS w [(Y, 31, [.int .u64 0, .int .u64 0, .int .u32 0, .int .i64 0, .int .i64 0, .int .i64 0, .int .i64 0, .int .i64 0, .int .i64 0, .int .i64 0, .bool false, .bool false, .bool false, .int .i64 0, .bool false, .int .i64 0, .bool false, .int .i64 0, .slice none 0 0]), (X, 31, lT { t with de := true, xo := true, xv := 0 } D n cap')] D L ((w5.setCell ⟨X, 14, none⟩ (.bool true)).setCell ⟨X, 15, none⟩ (.int .i64 0)) := (S5.set 1 rfl 14 (.bool true)).set 1 rfl 15 (.int .i64 0)
      generalize (w5.setCell ⟨X, 14, none⟩ (.bool true)).setCell ⟨X, 15, none⟩ (.int .i64 0) = w6 at S6 ⊢
      clear S5 ca cb fa fb
      have HTC := fun W h => Lib.hid (stcn_is { t with de := true, xo := true, xv := 0 } D n cap' (Lib.hid (show ThB { t with de := true, xo := true, xv := 0 } from ht.out)) W h)
      refine wp_region_held_drew (S := (fun w' => Bk w' X 31 (lT { t with de := true, xo := true, xv := 0 } D n cap'))) (by kernel_rfl) ((S6.hs.1 1 _ _ _ rfl).1) (fun hHeld => ?_)
      have S7 := S6.below (wy := World.drew _) ((Below.refl _ _).drew)
      obtain ⟨v7, hv7⟩ : ∃ v, w6.drew = v := ⟨_, rfl⟩
      rw [hv7] at S7 hHeld ⊢
      clear hv7 S6
      refine wpAnyH_take (i := 0) (v := _) rfl (by kernel_rfl) (by kernel_rfl) (by kernel_rfl) (fun _ _ _ h => h) (Or.inl ⟨by kernel_rfl, fun w' hSw => exec_load_row 31 _ rfl X (by kernel_rfl) _ _ (0, 0) _ (hSw) Tryz.underlying31 rfl (by kernel_rfl)⟩) (by assumption) ?_
      try simp only [Act.put, List.getElem_toArray, List.getElem_cons_succ, List.getElem_cons_zero, List.setIfInBounds_toArray, List.set_cons_succ, List.set_cons_zero]
      refine wpAnyH_take (i := 1) (v := _) rfl (by kernel_rfl) (by kernel_rfl) (by kernel_rfl) (fun _ _ _ h => h) (Or.inl ⟨by kernel_rfl, fun w' hSw => exec_load_row 31 _ rfl X (by kernel_rfl) _ _ (0, 0) _ (hSw) Tryz.underlying31 rfl (by kernel_rfl)⟩) (by assumption) ?_
      try simp only [Act.put, List.getElem_toArray, List.getElem_cons_succ, List.getElem_cons_zero, List.setIfInBounds_toArray, List.set_cons_succ, List.set_cons_zero]
      refine wpAnyH_ready (rs := [2]) (by kernel_rfl) (by simp) ?_
      refine AllReadyH.cons rfl (fun K hK => ?_) AllReadyH.nil
      go_simp
      (with_reducible refine (HTC _ (HD.out.below S7.old (Nat.le_refl _))).out.mono ?_); rintro e w8 ⟨v, rfl, hO, b8⟩
      have S8 := S7.below b8
      refine hK.out _ _ ((S8.hs.1 1 _ _ _ rfl).1) (fun hHeld => ?_)
      clear hK K
      try simp only [Act.put, List.getElem_toArray, List.getElem_cons_succ, List.getElem_cons_zero, List.setIfInBounds_toArray, List.set_cons_succ, List.set_cons_zero]
      have hy := S8.hs.bk 0 rfl
      refine wpAnyH_ready (rs := [3]) (by kernel_rfl) (by simp) ?_
      refine AllReadyH.cons rfl (fun K hK => ?_) AllReadyH.nil
      refine exec_if_store (by kernel_rfl) 31 (.tmp 2) (.tmp 20) rfl Y (lT { t with de := true, xo := true, xv := 0 } D n cap').toArray (by kernel_rfl) (by kernel_rfl) _ _ hy (by kernel_rfl) (by kernel_rfl) (by kernel_rfl) ?_
      have S9 := S8.row 0 rfl (lT { t with de := true, xo := true, xv := 0 } D n cap')
      refine hK.out _ _ ((S9.hs.1 1 _ _ _ rfl).1) (fun hHeld => ?_)
      clear hK K
      try simp only [Act.put, List.getElem_toArray, List.getElem_cons_succ, List.getElem_cons_zero, List.setIfInBounds_toArray, List.set_cons_succ, List.set_cons_zero]
      refine wpAnyH_take (i := 4) (v := ?_) rfl (by kernel_rfl) (by kernel_rfl) (by kernel_rfl) (fun _ _ _ h => h) (Or.inl ⟨by kernel_rfl, ?_⟩) (by assumption) ?_
      rotate_left
      · intro w' hSw; (try dsimp only at hSw); go_simp; with_reducible rfl
      try simp only [Act.put, List.getElem_toArray, List.getElem_cons_succ, List.getElem_cons_zero, List.setIfInBounds_toArray, List.set_cons_succ, List.set_cons_zero]
      refine wpAnyH_done (by kernel_rfl) ?_ _
      have hYw : Y < v7.heap.size := S7.hs.lt 0 rfl
      have hOF := (hO.heap (w' := w8.setRow Y (lT { t with de := true, xo := true, xv := 0 } D n cap').toArray) (fun k hk => setRow_other w8 Y k _ (by omega))).mono S7.old.size
      have hyF := setRow_heap w8 Y _ (lT { t with de := true, xo := true, xv := 0 } D n cap').toArray _ _ hy
      go_wp2
      exact bodyPost_ret (v := .tuple #[.agg (lT { t with de := true, xo := true, xv := 0 } D n cap').toArray, v]) (results_two rfl _ _ Y _ _ _ _ rfl _ rfl hyF Tryz.underlying31 rfl (by kernel_rfl)) rfl ⟨D, cap', v, rfl, HZ.out, S9.nobox, hOF⟩

end Go.Proofs.YteplefdnnehdgaaGreatDoor

/- Settle: contract. -/
namespace Go.Proofs.YteplefdnnehdgaaGreatDoor
set_option maxRecDepth 100000
open Go.ChangeShapes Go.WideShapes Go.ChangeAt Go.RowKit
set_option linter.unusedVariables false
set_option linter.unusedSimpArgs false

set_option maxHeartbeats 2000000 in
theorem hsettle_is (t : Th) (A : Option Addr) (n cap : Nat) (L : List Po) (hL : Hid (L.length = n)) (hf : n ≤ 200) (ht : Hid (ThB t)) (hb : Hid (∀ x ∈ L, PoB x)) (hc : Hid (A = none → cap = 0)) (w : World) (hd : Hd w) (hp : Hid (PoAt w A w.heap.size L)) :
    Calls Tryz.prog 51 #[.agg (lT t A n cap).toArray] w (ConfEnd w (settleR t L).1.1 n ((settleR t L).1.2, (settleR t L).2)) := by
  have HD := Lib.hid hd
  clear hd
  obtain ⟨S0, hS0⟩ : ∃ S0, settleR t L = S0 := ⟨_, rfl⟩
  rw [hS0]
  have HS0 := Lib.hid hS0
  clear hS0
  obtain ⟨u, hu⟩ : ∃ u, selectT t L = u := ⟨_, rfl⟩
  have HU := Lib.hid hu
  have htu : ThB u := by rw [← hu]; exact sel_bd (by rw [hL.out]; exact hf) ht.out hb.out
  have HTU := Lib.hid htu
  clear hu htu
  obtain ⟨wb, hwb, S⟩ := hs_two w 31 31 (lT t A n cap) [.int .u64 0, .int .u64 0, .int .u32 0, .int .i64 0, .int .i64 0, .int .i64 0, .int .i64 0, .int .i64 0, .int .i64 0, .int .i64 0, .bool false, .bool false, .bool false, .int .i64 0, .bool false, .int .i64 0, .bool false, .int .i64 0, .slice none 0 0]
  go_enter Tryz.func51, Tryz.ntmps51
  go_upto_region 1 with fail
  clear hwb
  obtain ⟨X, hX⟩ : ∃ q, w.heap.size = q := ⟨_, rfl⟩
  rw [hX] at S
  obtain ⟨Y, hY⟩ : ∃ q, X + 1 = q := ⟨_, rfl⟩
  rw [hY] at S
  rw [hX]
  rw [hY]
  clear hX hY
  have HC1 := Lib.hid (update_is t A n cap L hL hf hb hc wb (Lib.hid ((hp.out.below S.old (Nat.le_refl _)).wide S.old.size)))
  unfold updL updT at HC1
  rw [HU.out] at HC1
  have hx := S.bk 1 rfl
  go_wp2_with (with_reducible refine wpList_load_row rfl 31 (.tmp 1) rfl X (by kernel_rfl) _ _ (0, 0) _ hx Tryz.underlying31 rfl (by kernel_rfl) ?_)
  (with_reducible refine HC1.out.mono ?_); rintro e w1 ⟨D1, c1, rfl, hz1, k1⟩
  have S1 := TS.take S k1
  have HZ1 := Lib.hid hz1
  clear S hx HC1 k1 hz1
  have HL2 := Lib.hid (show (desL u L).length = n by rw [desL_len]; exact hL.out)
  have HC2 := Lib.hid (states_is u D1 n c1 (desL u L) HL2 hf HZ1 w1 (Lib.hid S1.ports))
  obtain ⟨lo, hlo⟩ : ∃ b, lostB u (desL u L) n = b := ⟨_, rfl⟩
  rw [hlo] at HC2
  have HLO := Lib.hid hlo
  clear hlo
  go_wp2_with fail
  (with_reducible refine HC2.out.mono ?_); rintro e w2 ⟨D, cap', rfl, hz, k2⟩
  have S2 := TS.take S1.hs k2
  have HZ := Lib.hid hz
  clear S1 HC2 k2 hz
  have hx := S2.hs.bk 1 rfl
  go_upto_region 2 with (refine wpList_store_row rfl 31 _ _ rfl X _ rfl rfl _ _ hx (by kernel_rfl) (by kernel_rfl) (by kernel_rfl) ?_)
  have S3 : TS w [(Y, 31, [.int .u64 0, .int .u64 0, .int .u32 0, .int .i64 0, .int .i64 0, .int .i64 0, .int .i64 0, .int .i64 0, .int .i64 0, .int .i64 0, .bool false, .bool false, .bool false, .int .i64 0, .bool false, .int .i64 0, .bool false, .int .i64 0, .slice none 0 0]), (X, 31, lT u D n cap')] D _ _ := S2.row 1 rfl (lT u D n cap')
  generalize w2.setRow X (lT u D n cap').toArray = w3 at S3 ⊢
  clear S2 hx
  have hs0 := HS0.out
  unfold settleR at hs0
  rw [HU.out, hL.out, HLO.out] at hs0
  cases lo with
  | false =>
    rw [if_neg (by decide)] at hs0
    subst hs0
    have hx := S3.hs.bk 1 rfl
    have hy := S3.hs.bk 0 rfl
    have S5 := S3.row 0 rfl (lT u D n cap')
    have hyF := S5.hs.bk 0 rfl
    go_wp2_with (first | (with_reducible refine wpList_load_row rfl 31 (.tmp 1) rfl X (by kernel_rfl) _ _ (0, 0) _ hx Tryz.underlying31 rfl (by kernel_rfl) ?_) | (refine wpList_store_row rfl 31 _ _ rfl Y _ rfl rfl _ _ hy (by kernel_rfl) (by kernel_rfl) (by kernel_rfl) ?_))
    exact bodyPost_ret (v := .tuple #[.agg (lT u D n cap').toArray, .slice none 0 0]) (results_two rfl _ _ Y _ _ _ _ rfl _ rfl hyF Tryz.underlying31 rfl (by kernel_rfl)) rfl ⟨D, cap', _, rfl, HZ.out, S5.nobox, OutsR.nil _ _⟩
  | true =>
    rw [if_pos rfl] at hs0
    subst hs0
    have HC4 := Lib.hid (sdetect_is u D n cap' (statesL u (desL u L)) (Lib.hid (by rw [show (statesL u (desL u L)).length = (desL u L).length from allL_len _ _]; exact HL2.out)) hf HTU HZ w3 (HD.out.below S3.old (Nat.le_refl _)) (Lib.hid S3.ports))
    have hx := S3.hs.bk 1 rfl
    go_upto_region 3 with fail
    go_wp2_with (with_reducible refine wpList_load_row rfl 31 (.tmp 1) rfl X (by kernel_rfl) _ _ (0, 0) _ hx Tryz.underlying31 rfl (by kernel_rfl) ?_)
    (with_reducible refine HC4.out.mono ?_); rintro e w5 ⟨D3, c3, v, rfl, hz3, k3, hO⟩
    have S5 := TS.take S3.hs k3
    have hb3 : w.heap.size ≤ w3.heap.size := S3.old.size
    clear hx HC4 k3 S3
    have hy := S5.hs.bk 0 rfl
    have S6 := S5.row 0 rfl (lT (detT u) D3 n c3)
    have hyF := S6.hs.bk 0 rfl
    have hOF := (hO.mono hb3).store S5.hs 0 rfl (lT (detT u) D3 n c3).toArray
    go_wp2_with (refine wpList_store_row rfl 31 _ _ rfl Y _ rfl rfl _ _ hy (by kernel_rfl) (by kernel_rfl) (by kernel_rfl) ?_)
    exact bodyPost_ret (v := .tuple #[.agg (lT (detT u) D3 n c3).toArray, v]) (results_two rfl _ _ Y _ _ _ _ rfl _ rfl hyF Tryz.underlying31 rfl (by kernel_rfl)) rfl ⟨D3, c3, _, rfl, hz3, S6.nobox, hOF⟩

end Go.Proofs.YteplefdnnehdgaaGreatDoor

/- yields: contract. -/
namespace Go.Proofs.YteplefdnnehdgaaGreatDoor
set_option maxRecDepth 100000
open Go.ChangeShapes Go.WideShapes Go.ChangeAt Go.RowKit
set_option linter.unusedVariables false
set_option linter.unusedSimpArgs false

/-- A bridge that takes itself for the root no more. -/
def yieldT (t : Th) : Th := if t.de = true then { t with ho := false, hv := 0, zo := false, zv := 0, xo := true, xv := 0 } else { t with ho := false, hv := 0 }
def yieldO (t : Th) (n : Nat) : List Ou := if t.de = true then tcnR t n else []
def YieldEnd (w : World) (t : Th) (A : Option Addr) (n cap : Nat) (e : Ending) (w' : World) : Prop := ∃ v, e = .returned (.tuple #[.agg (lT (yieldT t) A n cap).toArray, v]) ∧ OutsR w' w.heap.size v (yieldO t n) ∧ Below w.heap.size w w'
theorem late_yield {rb : Bool} {u : Th} (h : (rb && (u.ro != u.ow)) = true) : lateT rb u = yieldT u ∧ ∀ n, lateO rb u n = yieldO u n := late_yes h
theorem yield_few (t : Th) (n : Nat) : (yieldO t n).length ≤ 1 := by
  unfold yieldO
  split
  · exact tcn_few _ _
  · simp

set_option maxHeartbeats 2000000 in
theorem yields_is (t : Th) (A : Option Addr) (n cap : Nat) (ht : Hid (ThB t)) (w : World) (hd : Hd w) :
    Calls Tryz.prog 54 #[.agg (lT t A n cap).toArray] w (YieldEnd w t A n cap) := by
  unfold YieldEnd
  obtain ⟨TT, hTT⟩ : ∃ q, yieldT t = q := ⟨_, rfl⟩
  obtain ⟨R, hR⟩ : ∃ R, yieldO t n = R := ⟨_, rfl⟩
  rw [hTT, hR]
  have HTT := Lib.hid hTT
  have HR := Lib.hid hR
  clear hTT hR
  have HD := Lib.hid hd
  clear hd
  obtain ⟨wb, hwb, S⟩ := hs_two w 31 31 (lT t A n cap) [.int .u64 0, .int .u64 0, .int .u32 0, .int .i64 0, .int .i64 0, .int .i64 0, .int .i64 0, .int .i64 0, .int .i64 0, .int .i64 0, .bool false, .bool false, .bool false, .int .i64 0, .bool false, .int .i64 0, .bool false, .int .i64 0, .slice none 0 0]
  go_enter Tryz.func54, Tryz.ntmps54
  go_upto_region 1 with fail
  clear hwb
  obtain ⟨X, hX⟩ : ∃ q, w.heap.size = q := ⟨_, rfl⟩
  rw [hX] at S
  obtain ⟨Y, hY⟩ : ∃ q, X + 1 = q := ⟨_, rfl⟩
  rw [hY] at S
  rw [hX]
  rw [hY]
  clear hX hY
  go_wp2_with fail
  (with_reducible refine (stop_is _).mono ?_); rintro e w1 ⟨rfl, b1⟩
  have S1 := S.below b1
  clear S b1
  have c12 := S1.cell 1 12 rfl rfl
  have f12 := S1.thaw 1 12 rfl
  have c13 := S1.cell 1 13 rfl rfl
  have f13 := S1.thaw 1 13 rfl
  go_upto_region 2 with fail
  have S2 : Hs w [(Y, 31, [.int .u64 0, .int .u64 0, .int .u32 0, .int .i64 0, .int .i64 0, .int .i64 0, .int .i64 0, .int .i64 0, .int .i64 0, .int .i64 0, .bool false, .bool false, .bool false, .int .i64 0, .bool false, .int .i64 0, .bool false, .int .i64 0, .slice none 0 0]), (X, 31, lT ({ t with ho := false, hv := 0 } : Th) A n cap)] ((w1.setCell ⟨X, 12, none⟩ (.bool false)).setCell ⟨X, 13, none⟩ (.int .i64 0)) := ((S1).set 1 rfl 12 (.bool false)).set 1 rfl 13 (.int .i64 0)
  generalize (w1.setCell ⟨X, 12, none⟩ (.bool false)).setCell ⟨X, 13, none⟩ (.int .i64 0) = w2 at S2 ⊢
  clear S1  c12 f12 c13 f13 
  have c10 := S2.cell 1 10 rfl rfl
  obtain ⟨de, hde⟩ : ∃ d, t.de = d := ⟨_, rfl⟩
  rw [hde] at c10
  cases de with
  | false =>
    obtain rfl : ({ t with ho := false, hv := 0 } : Th) = TT := by rw [← HTT.out, yieldT, if_neg (by rw [hde]; decide)]
    obtain rfl : [] = R := by rw [← HR.out, yieldO, if_neg (by rw [hde]; decide)]
    clear hde
    have hx := S2.bk 1 rfl
    have hy := S2.bk 0 rfl
    have S5 := S2.row 0 rfl (lT ({ t with ho := false, hv := 0 } : Th) A n cap)
    have hyF := S5.bk 0 rfl
    go_wp2_with (first | (with_reducible refine wpList_load_row rfl 31 (.tmp 1) rfl X (by kernel_rfl) _ _ (0, 0) _ hx Tryz.underlying31 rfl (by kernel_rfl) ?_) | (refine wpList_store_row rfl 31 _ _ rfl Y _ rfl rfl _ _ hy (by kernel_rfl) (by kernel_rfl) (by kernel_rfl) ?_))
    exact bodyPost_ret (v := .tuple #[.agg (lT ({ t with ho := false, hv := 0 } : Th) A n cap).toArray, .slice none 0 0]) (results_two rfl _ _ Y _ _ _ _ rfl _ rfl hyF Tryz.underlying31 rfl (by kernel_rfl)) rfl ⟨_, rfl, OutsR.nil _ _, S5.old⟩
  | true =>
    obtain rfl : ({ t with ho := false, hv := 0, zo := false, zv := 0, xo := true, xv := 0 } : Th) = TT := by rw [← HTT.out, yieldT, if_pos hde]
    obtain rfl : tcnR t n = R := by rw [← HR.out, yieldO, if_pos hde]
    clear hde
    go_upto_region 4 with fail
    clear c10
    go_wp2_with fail
    (with_reducible refine (stop_is _).mono ?_); rintro e w3 ⟨rfl, b3⟩
    have S3 := S2.below b3
    clear S2 b3
    have c16 := S3.cell 1 16 rfl rfl
    have f16 := S3.thaw 1 16 rfl
    have c17 := S3.cell 1 17 rfl rfl
    have f17 := S3.thaw 1 17 rfl
    go_upto_region 5 with fail
    have S4 : Hs w [(Y, 31, [.int .u64 0, .int .u64 0, .int .u32 0, .int .i64 0, .int .i64 0, .int .i64 0, .int .i64 0, .int .i64 0, .int .i64 0, .int .i64 0, .bool false, .bool false, .bool false, .int .i64 0, .bool false, .int .i64 0, .bool false, .int .i64 0, .slice none 0 0]), (X, 31, lT ({ t with ho := false, hv := 0, zo := false, zv := 0 } : Th) A n cap)] ((w3.setCell ⟨X, 16, none⟩ (.bool false)).setCell ⟨X, 17, none⟩ (.int .i64 0)) := ((S3).set 1 rfl 16 (.bool false)).set 1 rfl 17 (.int .i64 0)
    generalize (w3.setCell ⟨X, 16, none⟩ (.bool false)).setCell ⟨X, 17, none⟩ (.int .i64 0) = w4 at S4 ⊢
    clear S3  c16 f16 c17 f17 
    go_wp2_with fail
    (with_reducible refine (start0 _).mono ?_); rintro e w5 ⟨rfl, b5⟩
    have S5 := S4.below b5
    clear S4 b5
    have c14 := S5.cell 1 14 rfl rfl
    have f14 := S5.thaw 1 14 rfl
    have c15 := S5.cell 1 15 rfl rfl
    have f15 := S5.thaw 1 15 rfl
    go_upto_region 6 with fail
    have S6 : Hs w [(Y, 31, [.int .u64 0, .int .u64 0, .int .u32 0, .int .i64 0, .int .i64 0, .int .i64 0, .int .i64 0, .int .i64 0, .int .i64 0, .int .i64 0, .bool false, .bool false, .bool false, .int .i64 0, .bool false, .int .i64 0, .bool false, .int .i64 0, .slice none 0 0]), (X, 31, lT ({ t with ho := false, hv := 0, zo := false, zv := 0, xo := true, xv := 0 } : Th) A n cap)] ((w5.setCell ⟨X, 14, none⟩ (.bool true)).setCell ⟨X, 15, none⟩ (.int .i64 0)) := ((S5).set 1 rfl 14 (.bool true)).set 1 rfl 15 (.int .i64 0)
    generalize (w5.setCell ⟨X, 14, none⟩ (.bool true)).setCell ⟨X, 15, none⟩ (.int .i64 0) = w6 at S6 ⊢
    clear S5  c14 f14 c15 f15 
    have HTC := fun W h => Lib.hid (stcn_is ({ t with ho := false, hv := 0, zo := false, zv := 0, xo := true, xv := 0 } : Th) A n cap (Lib.hid (show ThB ({ t with ho := false, hv := 0, zo := false, zv := 0, xo := true, xv := 0 } : Th) from ht.out)) W h)
    refine wp_region_held_drew (S := (fun w' => Bk w' X 31 (lT ({ t with ho := false, hv := 0, zo := false, zv := 0, xo := true, xv := 0 } : Th) A n cap))) (by kernel_rfl) ((S6.1 1 _ _ _ rfl).1) (fun hHeld => ?_)
    have S7 := S6.below (wy := World.drew _) ((Below.refl _ _).drew)
    obtain ⟨v7, hv7⟩ : ∃ v, w6.drew = v := ⟨_, rfl⟩
    rw [hv7] at S7 hHeld ⊢
    clear hv7 S6
    refine wpAnyH_take (i := 0) (v := _) rfl (by kernel_rfl) (by kernel_rfl) (by kernel_rfl) (fun _ _ _ h => h) (Or.inl ⟨by kernel_rfl, fun w' hSw => exec_load_row 31 _ rfl X (by kernel_rfl) _ _ (0, 0) _ (hSw) Tryz.underlying31 rfl (by kernel_rfl)⟩) (by assumption) ?_
    try simp only [Act.put, List.getElem_toArray, List.getElem_cons_succ, List.getElem_cons_zero, List.setIfInBounds_toArray, List.set_cons_succ, List.set_cons_zero]
    refine wpAnyH_take (i := 1) (v := _) rfl (by kernel_rfl) (by kernel_rfl) (by kernel_rfl) (fun _ _ _ h => h) (Or.inl ⟨by kernel_rfl, fun w' hSw => exec_load_row 31 _ rfl X (by kernel_rfl) _ _ (0, 0) _ (hSw) Tryz.underlying31 rfl (by kernel_rfl)⟩) (by assumption) ?_
    try simp only [Act.put, List.getElem_toArray, List.getElem_cons_succ, List.getElem_cons_zero, List.setIfInBounds_toArray, List.set_cons_succ, List.set_cons_zero]
    refine wpAnyH_ready (rs := [2]) (by kernel_rfl) (by simp) ?_
    refine AllReadyH.cons rfl (fun K hK => ?_) AllReadyH.nil
    go_simp
    (with_reducible refine (HTC _ (HD.out.below S7.old (Nat.le_refl _))).out.mono ?_); rintro e w8 ⟨v, rfl, hO, b8⟩
    have S8 := S7.below b8
    refine hK.out _ _ ((S8.1 1 _ _ _ rfl).1) (fun hHeld => ?_)
    clear hK K
    try simp only [Act.put, List.getElem_toArray, List.getElem_cons_succ, List.getElem_cons_zero, List.setIfInBounds_toArray, List.set_cons_succ, List.set_cons_zero]
    have hy := S8.bk 0 rfl
    refine wpAnyH_ready (rs := [3]) (by kernel_rfl) (by simp) ?_
    refine AllReadyH.cons rfl (fun K hK => ?_) AllReadyH.nil
    refine exec_if_store (by kernel_rfl) 31 (.tmp 2) (.tmp 14) rfl Y (lT ({ t with ho := false, hv := 0, zo := false, zv := 0, xo := true, xv := 0 } : Th) A n cap).toArray (by kernel_rfl) (by kernel_rfl) _ _ hy (by kernel_rfl) (by kernel_rfl) (by kernel_rfl) ?_
    have S9 := S8.row 0 rfl (lT ({ t with ho := false, hv := 0, zo := false, zv := 0, xo := true, xv := 0 } : Th) A n cap)
    refine hK.out _ _ ((S9.1 1 _ _ _ rfl).1) (fun hHeld => ?_)
    clear hK K
    try simp only [Act.put, List.getElem_toArray, List.getElem_cons_succ, List.getElem_cons_zero, List.setIfInBounds_toArray, List.set_cons_succ, List.set_cons_zero]
    refine wpAnyH_take (i := 4) (v := ?_) rfl (by kernel_rfl) (by kernel_rfl) (by kernel_rfl) (fun _ _ _ h => h) (Or.inl ⟨by kernel_rfl, ?_⟩) (by assumption) ?_
    rotate_left
    · intro w' hSw; (try dsimp only at hSw); go_simp; with_reducible rfl
    try simp only [Act.put, List.getElem_toArray, List.getElem_cons_succ, List.getElem_cons_zero, List.setIfInBounds_toArray, List.set_cons_succ, List.set_cons_zero]
    refine wpAnyH_done (by kernel_rfl) ?_ _
    have hOF := (hO.mono S7.old.size).store S8 0 rfl (lT ({ t with ho := false, hv := 0, zo := false, zv := 0, xo := true, xv := 0 } : Th) A n cap).toArray
    have hyF := S9.bk 0 rfl
    go_wp2
    exact bodyPost_ret (v := .tuple #[.agg (lT ({ t with ho := false, hv := 0, zo := false, zv := 0, xo := true, xv := 0 } : Th) A n cap).toArray, v]) (results_two rfl _ _ Y _ _ _ _ rfl _ rfl hyF Tryz.underlying31 rfl (by kernel_rfl)) rfl ⟨v, rfl, hOF, S9.old⟩

end Go.Proofs.YteplefdnnehdgaaGreatDoor

/- follows: contract. -/
namespace Go.Proofs.YteplefdnnehdgaaGreatDoor
set_option maxRecDepth 100000
open Go.ChangeShapes Go.WideShapes Go.ChangeAt Go.RowKit
set_option linter.unusedVariables false
set_option linter.unusedSimpArgs false

set_option maxHeartbeats 2000000 in
theorem follows_is (t : Th) (A : Option Addr) (n cap : Nat) (L : List Po) (x : Bq) (hxb : Hid (BqIn x)) (hL : Hid (L.length = n)) (hf : n ≤ 200) (ht : Hid (ThB t)) (hb : Hid (∀ x ∈ L, PoB x)) (hc : Hid (A = none → cap = 0)) (w : World) (hd : Hd w) (hp : Hid (PoAt w A w.heap.size L)) :
    Calls Tryz.prog 55 #[.agg (lT t A n cap).toArray, .agg (lB x).toArray] w (ConfEnd w (ackedT (toldT t x) x) n (allR (toldT t x) L n)) := by
  have HD := Lib.hid hd
  clear hd
  obtain ⟨R, hR⟩ : ∃ R, allR (toldT t x) L n = R := ⟨_, rfl⟩
  rw [hR]
  have HRL := Lib.hid (show R.1.length = n by rw [← hR, (allR_bd (t := toldT t x) hb.out n).1]; exact hL.out)
  have HRR := Lib.hid hR
  clear hR
  obtain ⟨TT, hTT⟩ : ∃ q, ackedT (toldT t x) x = q := ⟨_, rfl⟩
  rw [hTT]
  have HTT := Lib.hid hTT
  clear hTT
  have hxB := hxb.out
  unfold BqIn BpIn at hxB
  have hw_ma : IntKind.i64.wrap x.ma = x.ma := by simp [IntKind.wrap, IntKind.bits, IntKind.signed]; omega
  have hw_he : IntKind.i64.wrap x.he = x.he := by simp [IntKind.wrap, IntKind.bits, IntKind.signed]; omega
  have hw_de : IntKind.i64.wrap x.de = x.de := by simp [IntKind.wrap, IntKind.bits, IntKind.signed]; omega
  have HNT := Lib.hid (show (-9223372036854775808 ≤ (toldT t x).n1 ∧ (toldT t x).n1 ≤ 9223372036854775807 ∧ -9223372036854775808 ≤ (toldT t x).n2 ∧ (toldT t x).n2 ≤ 9223372036854775807 ∧ -9223372036854775808 ≤ (toldT t x).n3 ∧ (toldT t x).n3 ≤ 9223372036854775807) from by unfold toldT; dsimp only; omega)
  have HTB := Lib.hid (show ThB (toldT t x) from ht.out)
  clear hxB
  obtain ⟨wb, hwb, S⟩ := hs_three w 31 56 31 (lT t A n cap) (lB x) [.int .u64 0, .int .u64 0, .int .u32 0, .int .i64 0, .int .i64 0, .int .i64 0, .int .i64 0, .int .i64 0, .int .i64 0, .int .i64 0, .bool false, .bool false, .bool false, .int .i64 0, .bool false, .int .i64 0, .bool false, .int .i64 0, .slice none 0 0]
  go_enter Tryz.func55, Tryz.ntmps55
  go_upto_region 1 with fail
  clear hwb
  obtain ⟨X, hX⟩ : ∃ q, w.heap.size = q := ⟨_, rfl⟩
  rw [hX] at S
  obtain ⟨B, hB⟩ : ∃ q, X + 1 = q := ⟨_, rfl⟩
  rw [hB] at S
  obtain ⟨Y, hY⟩ : ∃ q, B + 1 = q := ⟨_, rfl⟩
  rw [hY] at S
  rw [hX]
  rw [hB]
  rw [hY]
  clear hX hB hY
  have b8 := S.cell 1 8 rfl rfl
  have b9 := S.cell 1 9 rfl rfl
  have b10 := S.cell 1 10 rfl rfl
  have c4 := S.cell 2 4 rfl rfl
  have f4 := S.thaw 2 4 rfl
  have c5 := S.cell 2 5 rfl rfl
  have f5 := S.thaw 2 5 rfl
  have c6 := S.cell 2 6 rfl rfl
  have f6 := S.thaw 2 6 rfl
  go_upto_region 2 with fail
  have S1 : Hs w [(Y, 31, [.int .u64 0, .int .u64 0, .int .u32 0, .int .i64 0, .int .i64 0, .int .i64 0, .int .i64 0, .int .i64 0, .int .i64 0, .int .i64 0, .bool false, .bool false, .bool false, .int .i64 0, .bool false, .int .i64 0, .bool false, .int .i64 0, .slice none 0 0]), (B, 56, lB x), (X, 31, lT ({ t with n1 := x.ma, n2 := x.he, n3 := x.de } : Th) A n cap)] (((wb.setCell ⟨X, 4, none⟩ (.int .i64 x.ma)).setCell ⟨X, 5, none⟩ (.int .i64 x.he)).setCell ⟨X, 6, none⟩ (.int .i64 x.de)) := (((S).set 2 rfl 4 (.int .i64 x.ma)).set 2 rfl 5 (.int .i64 x.he)).set 2 rfl 6 (.int .i64 x.de)
  generalize ((wb.setCell ⟨X, 4, none⟩ (.int .i64 x.ma)).setCell ⟨X, 5, none⟩ (.int .i64 x.he)).setCell ⟨X, 6, none⟩ (.int .i64 x.de) = w1 at S1 ⊢
  clear S  c4 f4 c5 f5 c6 f6 b8 b9 b10 hw_ma hw_he hw_de
  have b1 := S1.cell 1 1 rfl rfl
  have c11 := S1.cell 2 11 rfl rfl
  have f11 := S1.thaw 2 11 rfl
  go_upto_region 3 with fail
  have S2 : Hs w [(Y, 31, [.int .u64 0, .int .u64 0, .int .u32 0, .int .i64 0, .int .i64 0, .int .i64 0, .int .i64 0, .int .i64 0, .int .i64 0, .int .i64 0, .bool false, .bool false, .bool false, .int .i64 0, .bool false, .int .i64 0, .bool false, .int .i64 0, .slice none 0 0]), (B, 56, lB x), (X, 31, lT (toldT t x) A n cap)] (w1.setCell ⟨X, 11, none⟩ (.bool x.ch)) := (S1).set 2 rfl 11 (.bool x.ch)
  generalize w1.setCell ⟨X, 11, none⟩ (.bool x.ch) = w2 at S2 ⊢
  clear S1  c11 f11 b1
  have HC := Lib.hid (sall_ts (toldT t x) A n cap L hL hf HTB HNT hb hc w2 (HD.out.below S2.old (Nat.le_refl _)) (Lib.hid ((hp.out.below S2.old (Nat.le_refl _)).wide S2.old.size)))
  rw [HRR.out] at HC
  have hx := S2.bk 2 rfl
  go_wp2_with (with_reducible refine wpList_load_row rfl 31 (.tmp 2) rfl X (by kernel_rfl) _ _ (0, 0) _ hx Tryz.underlying31 rfl (by kernel_rfl) ?_)
  (with_reducible refine HC.out.mono ?_); rintro e w3 ⟨D, c2, v, rfl, hz, k3, hO⟩
  have S3 := TS.take S2 k3
  have HZ := Lib.hid hz
  have hO3 := hO.mono S2.old.size
  clear S2 hx HC k3 hz hO
  have hx := S3.hs.bk 2 rfl
  go_upto_region 4 with (refine wpList_store_row rfl 31 _ _ rfl X _ rfl rfl _ _ hx (by kernel_rfl) (by kernel_rfl) (by kernel_rfl) ?_)
  have S4 : TS w [(Y, 31, [.int .u64 0, .int .u64 0, .int .u32 0, .int .i64 0, .int .i64 0, .int .i64 0, .int .i64 0, .int .i64 0, .int .i64 0, .int .i64 0, .bool false, .bool false, .bool false, .int .i64 0, .bool false, .int .i64 0, .bool false, .int .i64 0, .slice none 0 0]), (B, 56, lB x), (X, 31, lT (toldT t x) D n c2)] D R.1 _ := S3.row 2 rfl (lT (toldT t x) D n c2)
  have hO4 := hO3.store S3.hs 2 rfl (lT (toldT t x) D n c2).toArray
  generalize w3.setRow X (lT (toldT t x) D n c2).toArray = w4 at S4 hO4 ⊢
  clear S3 hO3 hx
  have b2 := S4.hs.cell 1 2 rfl rfl
  obtain ⟨ak, hak⟩ : ∃ q, x.ak = q := ⟨_, rfl⟩
  rw [hak] at b2
  cases ak with
  | false =>
    obtain rfl : toldT t x = TT := by rw [← HTT.out, ackedT, if_neg (by rw [hak]; decide)]
    clear hak
    have hx := S4.hs.bk 2 rfl
    have hy := S4.hs.bk 0 rfl
    have S5 := S4.row 0 rfl (lT (toldT t x) D n c2)
    have hyF := S5.hs.bk 0 rfl
    have hOF := hO4.store S4.hs 0 rfl (lT (toldT t x) D n c2).toArray
    go_wp2_with (first | (with_reducible refine wpList_load_row rfl 31 (.tmp 2) rfl X (by kernel_rfl) _ _ (0, 0) _ hx Tryz.underlying31 rfl (by kernel_rfl) ?_) | (refine wpList_store_row rfl 31 _ _ rfl Y _ rfl rfl _ _ hy (by kernel_rfl) (by kernel_rfl) (by kernel_rfl) ?_))
    exact bodyPost_ret (v := .tuple #[.agg (lT (toldT t x) D n c2).toArray, v]) (results_two rfl _ _ Y _ _ _ _ rfl _ rfl hyF Tryz.underlying31 rfl (by kernel_rfl)) rfl ⟨D, c2, _, rfl, HZ.out, S5.nobox, hOF⟩
  | true =>
    obtain rfl : ({ toldT t x with de := false, xo := false, xv := 0 } : Th) = TT := by rw [← HTT.out, ackedT, if_pos hak]
    clear hak
    have HC := Lib.hid (acked_is (toldT t x) D n c2 R.1 HRL hf HZ w4 (Lib.hid S4.ports))
    go_upto_region 5 with fail
    clear b2
    have hx := S4.hs.bk 2 rfl
    go_wp2_with (with_reducible refine wpList_load_row rfl 31 (.tmp 2) rfl X (by kernel_rfl) _ _ (0, 0) _ hx Tryz.underlying31 rfl (by kernel_rfl) ?_)
    (with_reducible refine HC.out.mono ?_); rintro e w5 ⟨D3, c3, rfl, hz3, k5⟩
    have S5 := TS.take S4.hs k5
    have HZ3 := Lib.hid hz3
    have hO5 := hO4.below k5.old
    clear S4 hx HC k5 hz3 hO4
    have hx := S5.hs.bk 2 rfl
    go_upto_region 6 with (refine wpList_store_row rfl 31 _ _ rfl X _ rfl rfl _ _ hx (by kernel_rfl) (by kernel_rfl) (by kernel_rfl) ?_)
    have S6 : TS w [(Y, 31, [.int .u64 0, .int .u64 0, .int .u32 0, .int .i64 0, .int .i64 0, .int .i64 0, .int .i64 0, .int .i64 0, .int .i64 0, .int .i64 0, .bool false, .bool false, .bool false, .int .i64 0, .bool false, .int .i64 0, .bool false, .int .i64 0, .slice none 0 0]), (B, 56, lB x), (X, 31, lT ({ toldT t x with de := false, xo := false, xv := 0 } : Th) D3 n c3)] D3 R.1 _ := S5.row 2 rfl (lT ({ toldT t x with de := false, xo := false, xv := 0 } : Th) D3 n c3)
    have hO6 := hO5.store S5.hs 2 rfl (lT ({ toldT t x with de := false, xo := false, xv := 0 } : Th) D3 n c3).toArray
    generalize w5.setRow X (lT ({ toldT t x with de := false, xo := false, xv := 0 } : Th) D3 n c3).toArray = w6 at S6 hO6 ⊢
    clear S5 hO5 hx
    have hx := S6.hs.bk 2 rfl
    have hy := S6.hs.bk 0 rfl
    have S7 := S6.row 0 rfl (lT ({ toldT t x with de := false, xo := false, xv := 0 } : Th) D3 n c3)
    have hyF := S7.hs.bk 0 rfl
    have hOF := hO6.store S6.hs 0 rfl (lT ({ toldT t x with de := false, xo := false, xv := 0 } : Th) D3 n c3).toArray
    go_wp2_with (first | (with_reducible refine wpList_load_row rfl 31 (.tmp 2) rfl X (by kernel_rfl) _ _ (0, 0) _ hx Tryz.underlying31 rfl (by kernel_rfl) ?_) | (refine wpList_store_row rfl 31 _ _ rfl Y _ rfl rfl _ _ hy (by kernel_rfl) (by kernel_rfl) (by kernel_rfl) ?_))
    exact bodyPost_ret (v := .tuple #[.agg (lT ({ toldT t x with de := false, xo := false, xv := 0 } : Th) D3 n c3).toArray, v]) (results_two rfl _ _ Y _ _ _ _ rfl _ rfl hyF Tryz.underlying31 rfl (by kernel_rfl)) rfl ⟨D3, c3, _, rfl, HZ3.out, S7.nobox, hOF⟩

end Go.Proofs.YteplefdnnehdgaaGreatDoor
