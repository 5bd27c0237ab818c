/- best: contract. -/
import Derived.Test.YtkdbhioneoknjaaTreeLeads
namespace Go.Proofs.Ytkdbhioneoknjaa
open Go.ChangeShapes Go.WideShapes Go.ChangeAt Go.RowKit
set_option linter.unusedVariables false

set_option maxRecDepth 100000 in
set_option maxHeartbeats 1000000 in
theorem best_is (t : Th) (A : Option Addr) (n cap : Nat) (L : List Po) (hL : Hid (L.length = n)) (hf : n ≤ 200) (hb : Hid (∀ x ∈ L, PoB x)) (w : World) (hp : Hid (PoAt w A w.heap.size L)) :
    Calls Try.prog 27 #[.agg (lT t A n cap).toArray] w fun e w' => e = .returned (.int .i64 (toI (bst t.ow L n))) ∧ Below w.heap.size w w' := by
  obtain ⟨wb, hwb, S⟩ := hs_one w 31 (lT t A n cap)
  go_enter Try.func27, Try.ntmps27
  go_upto_region 1 with fail
  clear hwb
  obtain ⟨X, hX⟩ : ∃ X, w.heap.size = X := ⟨_, rfl⟩
  rw [hX] at S
  rw [hX]
  have HX := Lib.hid hX
  clear hX
  have c18 := S.cell 0 18 rfl rfl
  go_wp2
  clear c18
  go_loopw [3, 9] (fun f i wr => ∃ k : Nat, k ≤ n ∧ i = .int .i64 k ∧ f = .int .i64 (toI (bst t.ow L k)) ∧ Hs w [(X, 31, lT t A n cap)] wr) (fun f i _ => n - (intOf i).toNat)
  case atStart => exact ⟨0, Nat.zero_le _, rfl, rfl, S⟩
  case round =>
    obtain ⟨k, hk, rfl, rfl, S⟩ := hrel
    by_cases hkn : k < n
    · obtain ⟨x, hx⟩ := po_at hL.out hkn
      have hki : (k : Int) < (n : Int) := by omega
      have hkz : ¬ (n : Int) ≤ (k : Int) := by omega
      have HP := Lib.hid (hp.out.below S.old (Nat.le_refl _))
      obtain ⟨ad, hA⟩ := HP.out.some hx
      have HX := Lib.hid hx
      have hat := HP.out.at hx hA
      have HA := Lib.hid hA
      have hPx := Lib.hid (hb.out x (List.mem_of_getElem? hx))
      rw [hA]
      go_upto_region 5 with (first | (with_reducible refine wpList_load_at rfl 49 (.tmp 12) rfl (ad.add (k * 15)) (by kernel_rfl) _ _ hat Try.underlying49 rfl (by kernel_rfl) ?_) | (refine wpList_store_row rfl 49 _ _ rfl _ _ rfl rfl _ _ (heap_alloc_new _ _) (by kernel_rfl) (by kernel_rfl) (by kernel_rfl) ?_))
      rw [alloc_row]
      have S2 := S.al rfl 49 (lP x)
      obtain ⟨Z, hZ⟩ : ∃ Z, wr.heap.size = Z := ⟨_, rfl⟩
      rw [hZ] at S2 ⊢
      have HP2 := Lib.hid (HP.out.below ((Below.refl wr.heap.size wr).alloc (Nat.le_refl _) (.cells (lP x).toArray 49)) S.old.size)
      generalize wr.alloc (.cells (lP x).toArray 49) = w2 at S2 HP2 ⊢
      clear S HP hat hZ
      have hs2 := S2.old.size
      obtain ⟨m, hm⟩ : ∃ m, mayB x t.ow = m := ⟨_, rfl⟩
      have HM := fun q : LaterW w2 => Lib.hid (may_is x t.ow m (Lib.hid hm) q.w')
      have HMM := Lib.hid hm
      clear hm
      have c0 := fun q : LaterW w2 => (S2.below q.h).cell 1 0 rfl rfl
      cases m with
      | false =>
        refine region_later mixedL (by kernel_rfl) ?_
        (refine BigFrame.wpQuiet_want (by kernel_rfl) (fun K hK => ?_); refine quiet_load_row 49 _ rfl Z (by kernel_rfl) _ _ (0, 0) _ (S2.bkq 0 rfl) Try.underlying49 rfl (by kernel_rfl) ?_; refine hK _ ?_; clear hK; go_simp)
        go_big_quiet_step (fail)
        go_big_quiet_step (fail)
        go_big_quiet_step ((go_at_call 51; with_reducible exact Calls.later (HM _).out))
        repeat (go_big_quiet_step (fail))
        refine wpQuiet_nil ?_
        intro r
        have S3 := S2.below r.h
        generalize r.w' = w3 at S3 ⊢
        clear HM c0 S2
        go_wp2
        rw [← hA]
        go_roundw
        case rel => exact ⟨k + 1, by omega, by go_num, by rw [bst_no HX.out HMM.out], S3.tail⟩
        case measure => simp [intOf]; omega
      | true =>
        obtain ⟨bk, hbk⟩ : ∃ bk, bst t.ow L k = bk := ⟨_, rfl⟩
        rw [hbk]
        have HB := Lib.hid hbk
        clear hbk
        cases bk with
        | none =>
          have hj0 : toI none = -1 := rfl
          rw [hj0]
          clear hj0
          refine region_later mixedL (by kernel_rfl) ?_
          (refine BigFrame.wpQuiet_want (by kernel_rfl) (fun K hK => ?_); refine quiet_load_row 49 _ rfl Z (by kernel_rfl) _ _ (0, 0) _ (S2.bkq 0 rfl) Try.underlying49 rfl (by kernel_rfl) ?_; refine hK _ ?_; clear hK; go_simp)
          go_big_quiet_step (fail)
          go_big_quiet_step (fail)
          go_big_quiet_step ((go_at_call 51; with_reducible exact Calls.later (HM _).out))
          repeat (go_big_quiet_step (fail))
          refine wpQuiet_nil ?_
          intro r
          have S3 := S2.below r.h
          generalize r.w' = w3 at S3 ⊢
          clear HM c0 S2
          go_wp2
          rw [← hA]
          go_roundw
          case rel => exact ⟨k + 1, by omega, by go_num, by rw [bst_first HX.out HMM.out HB.out]; rfl, S3.tail⟩
          case measure => simp [intOf]; omega
        | some j =>
          have hj := bst_lt HB.out
          obtain ⟨y, hy⟩ := po_at (L := L) rfl hj.2
          have HY := Lib.hid hy
          have hPy := Lib.hid (hb.out y (List.mem_of_getElem? hy))
          obtain ⟨b, hbt⟩ : ∃ b, betterB x y = b := ⟨_, rfl⟩
          have HW := fun q : LaterW w2 => Lib.hid (leads_is x y hPx.out hPy.out b (Lib.hid hbt) q.w')
          have HBT := Lib.hid hbt
          have hj1 : ((toI (some j)) == -1) = false := by simp [toI] <;> omega
          have hj2 : toI (some j) = (j : Int) := rfl
          rw [hj2] at hj1 ⊢
          have c18 := fun q : LaterW w2 => (S2.below q.h).cell 1 18 rfl rfl
          rw [hA] at c18
          have hjn : j < n := by have := hL.out; omega
          have hj3 : (j : Int) < (n : Int) := by omega
          have hj4 : ¬ (n : Int) ≤ (j : Int) := by omega
          clear hbt hy hj2
          refine region_later mixedL (by kernel_rfl) ?_
          (refine BigFrame.wpQuiet_want (by kernel_rfl) (fun K hK => ?_); refine quiet_load_row 49 _ rfl Z (by kernel_rfl) _ _ (0, 0) _ (S2.bkq 0 rfl) Try.underlying49 rfl (by kernel_rfl) ?_; refine hK _ ?_; clear hK; go_simp)
          go_big_quiet_step (fail)
          go_big_quiet_step (fail)
          go_big_quiet_step ((go_at_call 51; with_reducible exact Calls.later (HM _).out))
          go_big_quiet_step (fail)
          go_big_quiet_step (fail)
          go_big_quiet_step (fail)
          go_big_quiet_step (fail)
          (refine BigFrame.wpQuiet_want (by kernel_rfl) (fun K hK => ?_); refine quiet_load_row 49 _ rfl Z (by kernel_rfl) _ _ (0, 0) _ (S2.bkq 0 rfl) Try.underlying49 rfl (by kernel_rfl) ?_; refine hK _ ?_; clear hK; go_simp)
          go_big_quiet_step (fail)
          go_big_quiet_step (fail)
          go_big_quiet_step (fail)
          go_big_quiet_step (fail)
          (refine BigFrame.wpQuiet_want (by kernel_rfl) (fun K hK => ?_); refine quiet_load_at 49 _ rfl (ad.add (j * 15)) (by kernel_rfl) _ _ (HP2.out.atq (by omega) HY.out HA.out) Try.underlying49 rfl (by kernel_rfl) ?_; refine hK _ ?_; clear hK; go_simp)
          go_big_quiet_step ((go_at_call 52; with_reducible exact Calls.later (HW _).out))
          repeat (go_big_quiet_step (fail))
          refine wpQuiet_nil ?_
          intro r
          have S3 := S2.below r.h
          generalize r.w' = w3 at S3 ⊢
          clear HM HW c0 c18 S2 HP2
          cases b with
          | false =>
            go_wp2
            rw [← hA]
            go_roundw
            case rel => exact ⟨k + 1, by omega, by go_num, by rw [bst_next HX.out HMM.out HB.out HY.out HBT.out]; rfl, S3.tail⟩
            case measure => simp [intOf]; omega
          | true =>
            go_wp2
            rw [← hA]
            go_roundw
            case rel => exact ⟨k + 1, by omega, by go_num, by rw [bst_next HX.out HMM.out HB.out HY.out HBT.out]; rfl, S3.tail⟩
            case measure => simp [intOf]; omega
    · have hkz : ¬ (k : Int) < (n : Int) := by omega
      have hke : k = n := by omega
      go_wp2
      go_ret
      exact ⟨rfl, S.old⟩

end Go.Proofs.Ytkdbhioneoknjaa
