/- Designate and Update: contracts. -/
import Derived.Test.YtkdbhioneoknjaaTreeSelect
namespace Go.Proofs.Ytkdbhioneoknjaa
open Go.ChangeShapes Go.WideShapes Go.ChangeAt Go.RowKit
set_option linter.unusedVariables false

theorem become_row (p : Po) (t : Th) (w : World) :
    Calls Try.prog 29 #[.agg (lP p).toArray, .agg #[.int .u64 t.ro, .int .u32 t.co, .int .u64 t.ow, .int .u16 0]] w fun e w' => e = .returned (.agg (lP (becomeP t p)).toArray) ∧ Below w.heap.size w w' := become_is p ⟨t.ro, t.co, t.ow, 0⟩ w
theorem keeps_row (t : Th) (p : Po) (r : Bool) (hr : decide (cmpV (ownV t p) (heldV p) ≤ 0) = r) (w : World) :
    Calls Try.prog 30 #[.agg #[.int .u64 (becomeP t p).hr, .int .u32 (becomeP t p).hc, .int .u64 (becomeP t p).hb, .int .u16 (becomeP t p).hp], .agg #[.int .u64 p.hr, .int .u32 p.hc, .int .u64 p.hb, .int .u16 p.hp]] w fun e w' => e = .returned (.bool r) ∧ Below w.heap.size w w' := keeps_is (ownV t p) (heldV p) r hr w

set_option maxRecDepth 100000 in
set_option maxHeartbeats 2000000 in
theorem desig_all (t : Th) (A : Option Addr) (n cap : Nat) (L : List Po) (hL : Hid (L.length = n)) (hf : n ≤ 200) (hc : Hid (A = none → cap = 0)) (w : World) (hp : Hid (PoAt w A w.heap.size L)) :
    Calls Try.prog 11 #[.agg (lT t A n cap).toArray] w (TOut w t n (desL t L)) := by
  obtain ⟨wb, hwb, S⟩ := hs_two w 31 31 (lT t A n cap) [.int .u64 0, .int .u64 0, .int .u32 0, .int .i64 0, .int .i64 0, .int .i64 0, .int .i64 0, .int .i64 0, .int .i64 0, .int .i64 0, .bool false, .bool false, .bool false, .int .i64 0, .bool false, .int .i64 0, .bool false, .int .i64 0, .slice none 0 0]
  go_enter Try.func11, Try.ntmps11
  go_upto_region 1 with fail
  clear hwb
  obtain ⟨X, hX⟩ : ∃ X, w.heap.size = X := ⟨_, rfl⟩
  rw [hX] at S
  obtain ⟨Y, hY⟩ : ∃ Y, X + 1 = Y := ⟨_, rfl⟩
  rw [hY] at S
  rw [hX]
  rw [hY]
  clear hX hY
  have hp1 := Lib.hid ((hp.out.below S.old (Nat.le_refl _)).wide S.old.size)
  have HC := Lib.hid (tcopy_is t A n cap L hL hf hc wb hp1)
  have hx := S.bk 1 rfl
  go_wp2_with (refine wpList_load_row rfl 31 _ rfl X rfl _ _ (0, 0) _ hx Try.underlying31 rfl (by kernel_rfl) ?_)
  (with_reducible refine HC.out.mono ?_); rintro e w1 ⟨D, cap', rfl, hz, k1⟩
  have S1 := TS.take S k1
  have HZ := Lib.hid hz
  clear S hx HC hp1 k1 hz
  have hx := S1.hs.bk 1 rfl
  go_upto_region 2 with (refine wpList_store_row rfl 31 _ _ rfl X _ rfl rfl _ _ hx (by kernel_rfl) (by kernel_rfl) (by kernel_rfl) ?_)
  have S2 : TS w [(Y, 31, [.int .u64 0, .int .u64 0, .int .u32 0, .int .i64 0, .int .i64 0, .int .i64 0, .int .i64 0, .int .i64 0, .int .i64 0, .int .i64 0, .bool false, .bool false, .bool false, .int .i64 0, .bool false, .int .i64 0, .bool false, .int .i64 0, .slice none 0 0]), (X, 31, lT t D n cap')] D L _ := S1.row 1 rfl (lT t D n cap')
  generalize w1.setRow X (lT t D n cap').toArray = w2 at S2 ⊢
  clear S1 hx
  have HT := fun W => Lib.hid (telling_is t D n cap' W)
  have hx := S2.hs.bk 1 rfl
  go_wp2_with (refine wpList_load_row rfl 31 _ rfl X rfl _ _ (0, 0) _ hx Try.underlying31 rfl (by kernel_rfl) ?_)
  (with_reducible refine (HT _).out.mono ?_); rintro e w3 ⟨rfl, b3⟩
  have S3 := S2.below b3
  clear S2 hx HT b3
  go_upto_region 3 with (refine wpList_store_row rfl 39 _ _ rfl _ _ rfl rfl _ _ (heap_alloc_new _ _) (by kernel_rfl) (by kernel_rfl) (by kernel_rfl) ?_)
  rw [alloc_row]
  have S4 := S3.al rfl 39 [.int .u64 t.ro, .int .u32 t.co, .int .u64 t.ow, .int .u16 0]
  obtain ⟨V, hV⟩ : ∃ V, w3.heap.size = V := ⟨_, rfl⟩
  rw [hV] at S4 ⊢
  generalize w3.alloc (.cells #[.int .u64 t.ro, .int .u32 t.co, .int .u64 t.ow, .int .u16 0] 39) = w4 at S4 ⊢
  clear S3 hV
  have c18 := S4.hs.cell 2 18 rfl rfl
  go_wp2
  clear c18
  go_loopw [14] (fun i wr => ∃ k : Nat, k ≤ n ∧ i = .int .i64 k ∧ TS w [(V, 39, [.int .u64 t.ro, .int .u32 t.co, .int .u64 t.ow, .int .u16 0]), (Y, 31, [.int .u64 0, .int .u64 0, .int .u32 0, .int .i64 0, .int .i64 0, .int .i64 0, .int .i64 0, .int .i64 0, .int .i64 0, .int .i64 0, .bool false, .bool false, .bool false, .int .i64 0, .bool false, .int .i64 0, .bool false, .int .i64 0, .slice none 0 0]), (X, 31, lT t D n cap')] D (mixL (fun _ p => desP t p) k L) wr) (fun i _ => n - (intOf i).toNat)
  case atStart => exact ⟨0, Nat.zero_le _, rfl, by rw [mixL_zero]; exact S4⟩
  case round =>
    obtain ⟨k, hk, rfl, S⟩ := hrel
    by_cases hkn : k < n
    · obtain ⟨x, hx⟩ := po_at hL.out hkn
      have hki : (k : Int) < (n : Int) := by omega
      have hkz : ¬ (n : Int) ≤ (k : Int) := by omega
      have hm := mixL_at (f := fun _ p => desP t p) hx
      have HX := Lib.hid hx
      have HM := Lib.hid hm
      obtain ⟨g, hD, hg, hcl, hfz⟩ := S.at hm
      subst hD
      have hat : ∀ i v, (lP x)[i]? = some v → wr.cell? ((⟨g, k * 15, none⟩ : Addr).add i) = some v := fun i v hv => by rw [addr_add]; exact hcl i v hv
      clear hx hm S4
      go_upto_region 6 with (first | (with_reducible refine wpList_load_at rfl 49 (.tmp 17) rfl ⟨g, k * 15, none⟩ (by kernel_rfl) _ _ hat Try.underlying49 rfl (by kernel_rfl) ?_) | (refine wpList_store_row rfl 49 _ _ rfl _ _ rfl rfl _ _ (heap_alloc_new _ _) (by kernel_rfl) (by kernel_rfl) (by kernel_rfl) ?_))
      rw [alloc_row]
      have T1 := S.al rfl 49 (lP x)
      obtain ⟨Z, hZ⟩ : ∃ Z, wr.heap.size = Z := ⟨_, rfl⟩
      rw [hZ] at T1 ⊢
      generalize wr.alloc (.cells (lP x).toArray 49) = v1 at T1 ⊢
      clear S hat hZ hg hcl hfz
      have HBC := fun W => Lib.hid (become_row x t W)
      have hz := T1.hs.bk 0 rfl
      have hv := T1.hs.bk 1 rfl
      go_wp2_with (first | (with_reducible refine wpList_load_row rfl 49 (.tmp 5) rfl Z (by kernel_rfl) _ _ (0, 0) _ hz Try.underlying49 rfl (by kernel_rfl) ?_) | (with_reducible refine wpList_load_row rfl 39 (.tmp 3) rfl V (by kernel_rfl) _ _ (0, 0) _ hv Try.underlying39 rfl (by kernel_rfl) ?_))
      (with_reducible refine (HBC _).out.mono ?_); rintro e v2 ⟨rfl, b2⟩
      have T2 := T1.below b2
      clear T1 HBC b2 hz hv
      go_upto_region 7 with (refine wpList_store_row rfl 49 _ _ rfl _ _ rfl rfl _ _ (heap_alloc_new _ _) (by kernel_rfl) (by kernel_rfl) (by kernel_rfl) ?_)
      rw [alloc_row]
      have T3 := T2.al rfl 49 (lP (becomeP t x))
      obtain ⟨U, hU⟩ : ∃ U, v2.heap.size = U := ⟨_, rfl⟩
      rw [hU] at T3 ⊢
      generalize v2.alloc (.cells (lP (becomeP t x)).toArray 49) = v3 at T3 ⊢
      clear T2 hU
      obtain ⟨d, hd⟩ : ∃ d, desB x t.ow = d := ⟨_, rfl⟩
      have HD := fun W => Lib.hid (desig_row x t.ow d (Lib.hid hd) W)
      have HDD := Lib.hid hd
      clear hd
      have hz := T3.hs.bk 1 rfl
      have c0 := T3.hs.cell 4 0 rfl rfl
      go_wp2_with (with_reducible refine wpList_load_row rfl 49 (.tmp 5) rfl Z (by kernel_rfl) _ _ (0, 0) _ hz Try.underlying49 rfl (by kernel_rfl) ?_)
      (with_reducible refine (HD _).out.mono ?_); rintro e v4 ⟨rfl, b4⟩
      have T4 := T3.below b4
      clear T3 HD hz c0 b4
      cases d with
      | true =>
        have he : desP t x = becomeP t x := by unfold desP; rw [if_pos (by unfold takesB; rw [HDD.out]; rfl)]
        have c18 := T4.hs.cell 4 18 rfl rfl
        have hu := T4.hs.bk 0 rfl
        have hth := T4.there HM.out (becomeP t x)
        go_wp2_with (first | (with_reducible refine wpList_load_row rfl 49 (.tmp 6) rfl U (by kernel_rfl) _ _ (0, 0) _ hu Try.underlying49 rfl (by kernel_rfl) ?_) | (with_reducible refine wpList_store_mid rfl 49 (.tmp 45) _ rfl g (k * 15) (lP (becomeP t x)).toArray (by kernel_rfl) (by kernel_rfl) hth (by kernel_rfl) (by kernel_rfl) ?_))
        go_roundw
        case rel =>
          have T9 := T4.whole HM.out (becomeP t x)
          have q := mixL_set (f := fun _ p => desP t p) HX.out
          rw [he] at q
          rw [q] at T9
          exact ⟨k + 1, by omega, by go_num, T9.tail.tail⟩
        case measure => simp [intOf]; omega
      | false =>
        have z3 := T4.hs.cell 1 3 rfl rfl
        have c1 := T4.hs.cell 4 1 rfl rfl
        by_cases hrr : x.hr = t.ro
        · have hn : (x.hr != t.ro) = false := by simp [hrr]
          obtain ⟨r, hr⟩ : ∃ r, decide (cmpV (ownV t x) (heldV x) ≤ 0) = r := ⟨_, rfl⟩
          have HK := fun W => Lib.hid (keeps_row t x r hr W)
          have HTK := Lib.hid (show takesB t x = r by unfold takesB; rw [HDD.out, hr, show decide (x.hr ≠ t.ro) = false from decide_eq_false (fun k => k hrr)]; rfl)
          clear hrr hr
          have z4 := T4.hs.cell 1 4 rfl rfl
          have z5 := T4.hs.cell 1 5 rfl rfl
          have z6 := T4.hs.cell 1 6 rfl rfl
          have u3 := T4.hs.cell 0 3 rfl rfl
          have u4 := T4.hs.cell 0 4 rfl rfl
          have u5 := T4.hs.cell 0 5 rfl rfl
          have u6 := T4.hs.cell 0 6 rfl rfl
          go_wp2_with fail
          (with_reducible refine (HK _).out.mono ?_); rintro e v5 ⟨rfl, b5⟩
          have T5 := T4.below b5
          clear T4 HK b5 z3 z4 z5 z6 u3 u4 u5 u6 c1 hn
          cases r with
          | true =>
            have he : desP t x = becomeP t x := by unfold desP; rw [if_pos HTK.out]
            have c18 := T5.hs.cell 4 18 rfl rfl
            have hu := T5.hs.bk 0 rfl
            have hth := T5.there HM.out (becomeP t x)
            go_wp2_with (first | (with_reducible refine wpList_load_row rfl 49 (.tmp 6) rfl U (by kernel_rfl) _ _ (0, 0) _ hu Try.underlying49 rfl (by kernel_rfl) ?_) | (with_reducible refine wpList_store_mid rfl 49 (.tmp 45) _ rfl g (k * 15) (lP (becomeP t x)).toArray (by kernel_rfl) (by kernel_rfl) hth (by kernel_rfl) (by kernel_rfl) ?_))
            go_roundw
            case rel =>
              have T9 := T5.whole HM.out (becomeP t x)
              have q := mixL_set (f := fun _ p => desP t p) HX.out
              rw [he] at q
              rw [q] at T9
              exact ⟨k + 1, by omega, by go_num, T9.tail.tail⟩
            case measure => simp [intOf]; omega
          | false =>
            go_wp2
            go_roundw
            case rel =>
              have he : desP t x = x := by unfold desP; rw [if_neg (by rw [HTK.out]; decide)]
              have T9 := T5.tail.tail
              rw [mixL_same (f := fun _ p => desP t p) HX.out he] at T9
              exact ⟨k + 1, by omega, by go_num, T9⟩
            case measure => simp [intOf]; omega
        · have hn : (x.hr != t.ro) = true := by simp [hrr]
          have HTK := Lib.hid (show takesB t x = true by unfold takesB; rw [HDD.out, show decide (x.hr ≠ t.ro) = true from decide_eq_true hrr]; rfl)
          clear hrr
          have he : desP t x = becomeP t x := by unfold desP; rw [if_pos HTK.out]
          have c18 := T4.hs.cell 4 18 rfl rfl
          have hu := T4.hs.bk 0 rfl
          have hth := T4.there HM.out (becomeP t x)
          go_wp2_with (first | (with_reducible refine wpList_load_row rfl 49 (.tmp 6) rfl U (by kernel_rfl) _ _ (0, 0) _ hu Try.underlying49 rfl (by kernel_rfl) ?_) | (with_reducible refine wpList_store_mid rfl 49 (.tmp 45) _ rfl g (k * 15) (lP (becomeP t x)).toArray (by kernel_rfl) (by kernel_rfl) hth (by kernel_rfl) (by kernel_rfl) ?_))
          go_roundw
          case rel =>
            have T9 := T4.whole HM.out (becomeP t x)
            have q := mixL_set (f := fun _ p => desP t p) HX.out
            rw [he] at q
            rw [q] at T9
            exact ⟨k + 1, by omega, by go_num, T9.tail.tail⟩
          case measure => simp [intOf]; omega
    · have hkz : ¬ (k : Int) < (n : Int) := by omega
      have hke : k = n := by omega
      subst hke
      rw [mixL_all (by rw [hL.out]; exact Nat.le_refl _)] at S
      have hx := S.hs.bk 2 rfl
      have hy := S.hs.bk 1 rfl
      go_wp2_with (first | (refine wpList_load_row rfl 31 _ rfl X rfl _ _ (0, 0) _ hx Try.underlying31 rfl (by kernel_rfl) ?_) | (refine wpList_store_row rfl 31 _ _ rfl Y _ rfl rfl _ _ hy (by kernel_rfl) (by kernel_rfl) (by kernel_rfl) ?_))
      exact bodyPost_ret (v := .agg (lT t D k cap').toArray) (results_cell_row rfl _ _ Y _ _ _ _ rfl (setRow_heap _ _ _ _ _ _ hy) Try.underlying31 rfl (by kernel_rfl)) rfl ⟨D, cap', rfl, HZ.out, (S.row 1 rfl (lT t D k cap')).nobox⟩

end Go.Proofs.Ytkdbhioneoknjaa
