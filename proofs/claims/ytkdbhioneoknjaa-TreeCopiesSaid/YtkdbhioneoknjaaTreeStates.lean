/- States: contract. -/
import Derived.Test.YtkdbhioneoknjaaTreeUpdate
namespace Go.Proofs.Ytkdbhioneoknjaa
open Go.ChangeShapes Go.WideShapes Go.ChangeAt Go.RowKit
set_option linter.unusedVariables false
set_option linter.unusedSimpArgs false

/-- What States hands out. -/
def TOut2 (w : World) (t : Th) (n : Nat) (L : List Po) (b : Bool) (e : Ending) (w' : World) : Prop :=
  ∃ D cap, e = .returned (.tuple #[.agg (lT t D n cap).toArray, .bool b]) ∧ (D = none → cap = 0) ∧ TS w [] D L w'

set_option maxRecDepth 100000 in
set_option maxHeartbeats 4000000 in
theorem states_is (t : Th) (A : Option Addr) (n cap : Nat) (L : List Po) (hL : Hid (L.length = n)) (hf : n ≤ 200) (hc : Hid (A = none → cap = 0)) (w : World) (hp : Hid (PoAt w A w.heap.size L)) :
    Calls Try.prog 24 #[.agg (lT t A n cap).toArray] w (TOut2 w t n (statesL t L) (lostB t L n)) := by
  obtain ⟨wb, hwb, S⟩ := hs_two w 31 31 (lT t A n cap) [.int .u64 0, .int .u64 0, .int .u32 0, .int .i64 0, .int .i64 0, .int .i64 0, .int .i64 0, .int .i64 0, .int .i64 0, .int .i64 0, .bool false, .bool false, .bool false, .int .i64 0, .bool false, .int .i64 0, .bool false, .int .i64 0, .slice none 0 0]
  go_enter Try.func24, Try.ntmps24
  go_upto_region 1 with fail
  clear hwb
  obtain ⟨X, hX⟩ : ∃ X, w.heap.size = X := ⟨_, rfl⟩
  rw [hX] at S
  obtain ⟨Y, hY⟩ : ∃ Y, X + 1 = Y := ⟨_, rfl⟩
  rw [hY] at S
  rw [hX]
  rw [hY]
  clear hX hY
  have hp1 := Lib.hid ((hp.out.below S.old (Nat.le_refl _)).wide S.old.size)
  have HC := Lib.hid (tcopy_is t A n cap L hL hf hc wb hp1)
  have hx := S.bk 1 rfl
  go_wp2_with (refine wpList_load_row rfl 31 _ rfl X rfl _ _ (0, 0) _ hx Try.underlying31 rfl (by kernel_rfl) ?_)
  (with_reducible refine HC.out.mono ?_); rintro e w1 ⟨D, cap', rfl, hz, k1⟩
  have S1 := TS.take S k1
  have HZ := Lib.hid hz
  clear S hx HC hp1 k1 hz
  have hx := S1.hs.bk 1 rfl
  go_upto_region 2 with (refine wpList_store_row rfl 31 _ _ rfl X _ rfl rfl _ _ hx (by kernel_rfl) (by kernel_rfl) (by kernel_rfl) ?_)
  have S2 : TS w [(Y, 31, [.int .u64 0, .int .u64 0, .int .u32 0, .int .i64 0, .int .i64 0, .int .i64 0, .int .i64 0, .int .i64 0, .int .i64 0, .int .i64 0, .bool false, .bool false, .bool false, .int .i64 0, .bool false, .int .i64 0, .bool false, .int .i64 0, .slice none 0 0]), (X, 31, lT t D n cap')] D L _ := S1.row 1 rfl (lT t D n cap')
  generalize w1.setRow X (lT t D n cap').toArray = w2 at S2 ⊢
  clear S1 hx
  have c18 := S2.hs.cell 1 18 rfl rfl
  go_wp2
  clear c18
  go_loopw [4, 13] (fun b i wr => ∃ k : Nat, k ≤ n ∧ i = .int .i64 k ∧ b = .bool (lostB t L k) ∧ TS w [(Y, 31, [.int .u64 0, .int .u64 0, .int .u32 0, .int .i64 0, .int .i64 0, .int .i64 0, .int .i64 0, .int .i64 0, .int .i64 0, .int .i64 0, .bool false, .bool false, .bool false, .int .i64 0, .bool false, .int .i64 0, .bool false, .int .i64 0, .slice none 0 0]), (X, 31, lT t D n cap')] D (mixL (fun j p => (stP t j p).1) k L) wr) (fun b i _ => n - (intOf i).toNat)
  case atStart => exact ⟨0, Nat.zero_le _, rfl, rfl, by rw [mixL_zero]; exact S2⟩
  case round =>
    obtain ⟨k, hk, rfl, rfl, S⟩ := hrel
    by_cases hkn : k < n
    · obtain ⟨x, hx⟩ := po_at hL.out hkn
      have hki : (k : Int) < (n : Int) := by omega
      have hkz : ¬ (n : Int) ≤ (k : Int) := by omega
      have hm := mixL_at (f := fun j p => (stP t j p).1) hx
      have HX := Lib.hid hx
      have HM := Lib.hid hm
      obtain ⟨g, hD, hg, hcl, hfz⟩ := S.at hm
      subst hD
      have hat : ∀ i v, (lP x)[i]? = some v → wr.cell? ((⟨g, k * 15, none⟩ : Addr).add i) = some v := fun i v hv => by rw [addr_add]; exact hcl i v hv
      clear hx hm S2
      go_upto_region 6 with (first | (with_reducible refine wpList_load_at rfl 49 (.tmp 16) rfl ⟨g, k * 15, none⟩ (by kernel_rfl) _ _ hat Try.underlying49 rfl (by kernel_rfl) ?_) | (refine wpList_store_row rfl 49 _ _ rfl _ _ rfl rfl _ _ (heap_alloc_new _ _) (by kernel_rfl) (by kernel_rfl) (by kernel_rfl) ?_))
      rw [alloc_row]
      have T1 := S.al rfl 49 (lP x)
      obtain ⟨Z, hZ⟩ : ∃ Z, wr.heap.size = Z := ⟨_, rfl⟩
      rw [hZ] at T1 ⊢
      generalize wr.alloc (.cells (lP x).toArray 49) = v1 at T1 ⊢
      clear S hat hZ hg hcl hfz
      have c3 := T1.hs.cell 2 3 rfl rfl
      by_cases hrp : (k : Int) = t.rp
      · have hb : ((k : Int) == t.rp) = true := by simp [hrp]
        have HRP := Lib.hid hrp
        clear hrp
        have HO := fun W => Lib.hid (owes_is x W)
        have HR := fun W => Lib.hid (rise_row (owesP x) (riseP (owesP x)) (Lib.hid rfl) W)
        have hz := T1.hs.bk 0 rfl
        go_wp2_with (with_reducible refine wpList_load_row rfl 49 (.tmp 6) rfl Z (by kernel_rfl) _ _ (0, 0) _ hz Try.underlying49 rfl (by kernel_rfl) ?_)
        (with_reducible refine (HO _).out.mono ?_); rintro e v2 ⟨rfl, b2⟩
        have T2 := T1.below b2
        clear T1 c3 hz HO b2
        go_wp2_with fail
        (with_reducible refine (HR _).out.mono ?_); rintro e v3 ⟨rfl, b3⟩
        have T3 := T2.below b3
        clear T2 HR b3
        have hz := T3.hs.bk 0 rfl
        go_upto_region 13 with (refine wpList_store_row rfl 49 _ _ rfl Z _ rfl rfl _ _ hz (by kernel_rfl) (by kernel_rfl) (by kernel_rfl) ?_)
        have T4 := T3.row 0 rfl (lP (riseP (owesP x)))
        simp only [List.set] at T4
        generalize v3.setRow Z (lP (riseP (owesP x))).toArray = v4 at T4 ⊢
        clear T3 hz hb
        have hth := T4.there HM.out (riseP (owesP x))
        have c18 := T4.hs.cell 2 18 rfl rfl
        have hz := T4.hs.bk 0 rfl
        go_upto_region 14 with (first | (with_reducible refine wpList_load_row rfl 49 (.tmp 6) rfl Z (by kernel_rfl) _ _ (0, 0) _ hz Try.underlying49 rfl (by kernel_rfl) ?_) | (with_reducible refine wpList_store_mid rfl 49 (.tmp 45) _ rfl g (k * 15) (lP (riseP (owesP x))).toArray (by kernel_rfl) (by kernel_rfl) hth (by kernel_rfl) (by kernel_rfl) ?_))
        have T9 := T4.whole HM.out (riseP (owesP x))
        have hst : stP t k x = ((riseP (owesP x)), false) := by unfold stP; rw [if_pos HRP.out]
        have q : (mixL (fun j p => (stP t j p).1) k L).set k (riseP (owesP x)) = mixL (fun j p => (stP t j p).1) (k + 1) L := (congrArg (fun p : Po × Bool => (mixL (fun j p => (stP t j p).1) k L).set k p.1) hst.symm).trans (mixL_set (f := fun j p => (stP t j p).1) HX.out)
        rw [q] at T9
        have hl := lostB_step (t := t) HX.out
        rw [hst] at hl
        have HLL := Lib.hid hl
        have T8 := T9.tail
        clear hth c18 hz q hst hl T9 T4 HM
        generalize v4.setCells g (k * 15) (lP (riseP (owesP x))) = v9 at T8 ⊢
        obtain ⟨l, hl⟩ : ∃ l, lostB t L k = l := ⟨_, rfl⟩
        rw [hl] at HLL
        rw [hl]
        clear hl
        cases l with
        | false =>
          go_wp2
          go_roundw
          case rel => exact ⟨k + 1, by omega, by go_num, by rw [HLL.out]; rfl, T8⟩
          case measure => simp [intOf]; omega
        | true =>
          go_wp2
          go_roundw
          case rel => exact ⟨k + 1, by omega, by go_num, by rw [HLL.out]; rfl, T8⟩
          case measure => simp [intOf]; omega
      · have hb : ((k : Int) == t.rp) = false := by simp [hrp]
        have HRP := Lib.hid hrp
        clear hrp
        obtain ⟨d, hd⟩ : ∃ d, desB x t.ow = d := ⟨_, rfl⟩
        have HD := fun W => Lib.hid (desig_row x t.ow d (Lib.hid hd) W)
        have HDD := Lib.hid hd
        clear hd
        have hz := T1.hs.bk 0 rfl
        have c0 := T1.hs.cell 2 0 rfl rfl
        go_wp2_with (with_reducible refine wpList_load_row rfl 49 (.tmp 6) rfl Z (by kernel_rfl) _ _ (0, 0) _ hz Try.underlying49 rfl (by kernel_rfl) ?_)
        (with_reducible refine (HD _).out.mono ?_); rintro e v2 ⟨rfl, b2⟩
        have T2 := T1.below b2
        clear T1 c3 c0 hz HD b2
        cases d with
        | true =>
          have HR := fun W => Lib.hid (rise_row (restP x) (riseP (restP x)) (Lib.hid rfl) W)
          go_wp2_with fail
          (with_reducible refine (stop_is _).mono ?_); rintro e v3 ⟨rfl, b3⟩
          have T3 := T2.below b3
          clear T2 b3
          have z9 := T3.hs.cell 0 9 rfl rfl
          have z10 := T3.hs.cell 0 10 rfl rfl
          have f9 := T3.hs.thaw 0 9 rfl
          have f10 := T3.hs.thaw 0 10 rfl
          go_upto_region 12 with fail
          have T4 := (T3.set 0 rfl 9 (.bool false)).set 0 rfl 10 (.int .i64 0)
          simp only [List.set] at T4
          have T5 : TS w [(Z, 49, lP (restP x)), (Y, 31, [.int .u64 0, .int .u64 0, .int .u32 0, .int .i64 0, .int .i64 0, .int .i64 0, .int .i64 0, .int .i64 0, .int .i64 0, .int .i64 0, .bool false, .bool false, .bool false, .int .i64 0, .bool false, .int .i64 0, .bool false, .int .i64 0, .slice none 0 0]), (X, 31, lT t (some ⟨g, 0, none⟩) n cap')] (some ⟨g, 0, none⟩) (mixL (fun j p => (stP t j p).1) k L) _ := T4
          generalize (v3.setCell ⟨Z, 9, none⟩ (.bool false)).setCell ⟨Z, 10, none⟩ (.int .i64 0) = v4 at T5 ⊢
          clear T4 T3 z9 z10 f9 f10
          have hz := T5.hs.bk 0 rfl
          go_wp2_with (with_reducible refine wpList_load_row rfl 49 (.tmp 6) rfl Z (by kernel_rfl) _ _ (0, 0) _ hz Try.underlying49 rfl (by kernel_rfl) ?_)
          (with_reducible refine (HR _).out.mono ?_); rintro e v5 ⟨rfl, b5⟩
          have T6 := T5.below b5
          clear T5 HR b5 hz
          have hz := T6.hs.bk 0 rfl
          go_upto_region 13 with (refine wpList_store_row rfl 49 _ _ rfl Z _ rfl rfl _ _ hz (by kernel_rfl) (by kernel_rfl) (by kernel_rfl) ?_)
          have T7 := T6.row 0 rfl (lP (riseP (restP x)))
          simp only [List.set] at T7
          generalize v5.setRow Z (lP (riseP (restP x))).toArray = v6 at T7 ⊢
          clear T6 hz hb
          have hth := T7.there HM.out (riseP (restP x))
          have c18 := T7.hs.cell 2 18 rfl rfl
          have hz := T7.hs.bk 0 rfl
          go_upto_region 14 with (first | (with_reducible refine wpList_load_row rfl 49 (.tmp 6) rfl Z (by kernel_rfl) _ _ (0, 0) _ hz Try.underlying49 rfl (by kernel_rfl) ?_) | (with_reducible refine wpList_store_mid rfl 49 (.tmp 45) _ rfl g (k * 15) (lP (riseP (restP x))).toArray (by kernel_rfl) (by kernel_rfl) hth (by kernel_rfl) (by kernel_rfl) ?_))
          have T9 := T7.whole HM.out (riseP (restP x))
          have hst : stP t k x = ((riseP (restP x)), false) := by unfold stP; rw [if_neg HRP.out, if_pos HDD.out]
          have q : (mixL (fun j p => (stP t j p).1) k L).set k (riseP (restP x)) = mixL (fun j p => (stP t j p).1) (k + 1) L := (congrArg (fun p : Po × Bool => (mixL (fun j p => (stP t j p).1) k L).set k p.1) hst.symm).trans (mixL_set (f := fun j p => (stP t j p).1) HX.out)
          rw [q] at T9
          have hl := lostB_step (t := t) HX.out
          rw [hst] at hl
          have HLL := Lib.hid hl
          have T8 := T9.tail
          clear hth c18 hz q hst hl T9 T7 HM
          generalize v6.setCells g (k * 15) (lP (riseP (restP x))) = v9 at T8 ⊢
          obtain ⟨l, hl⟩ : ∃ l, lostB t L k = l := ⟨_, rfl⟩
          rw [hl] at HLL
          rw [hl]
          clear hl
          cases l with
          | false =>
            go_wp2
            go_roundw
            case rel => exact ⟨k + 1, by omega, by go_num, by rw [HLL.out]; rfl, T8⟩
            case measure => simp [intOf]; omega
          | true =>
            go_wp2
            go_roundw
            case rel => exact ⟨k + 1, by omega, by go_num, by rw [HLL.out]; rfl, T8⟩
            case measure => simp [intOf]; omega
        | false =>
          have HO := fun W => Lib.hid (owes_is x W)
          obtain ⟨y, bb, hyb⟩ : ∃ y bb, blockP (owesP x) = (y, bb) := ⟨_, _, rfl⟩
          have HB := fun W => Lib.hid (block_row (owesP x) y bb (Lib.hid hyb) W)
          have HYB := Lib.hid hyb
          clear hyb
          have hz := T2.hs.bk 0 rfl
          go_wp2_with (with_reducible refine wpList_load_row rfl 49 (.tmp 6) rfl Z (by kernel_rfl) _ _ (0, 0) _ hz Try.underlying49 rfl (by kernel_rfl) ?_)
          (with_reducible refine (HO _).out.mono ?_); rintro e v3 ⟨rfl, b3⟩
          have T3 := T2.below b3
          clear T2 hz HO b3
          go_wp2_with fail
          (with_reducible refine (HB _).out.mono ?_); rintro e v4 ⟨rfl, b4⟩
          have T4 := T3.below b4
          clear T3 HB b4
          have hz := T4.hs.bk 0 rfl
          go_upto_region 13 with (refine wpList_store_row rfl 49 _ _ rfl Z _ rfl rfl _ _ hz (by kernel_rfl) (by kernel_rfl) (by kernel_rfl) ?_)
          have T7 := T4.row 0 rfl (lP y)
          simp only [List.set] at T7
          generalize v4.setRow Z (lP y).toArray = v6 at T7 ⊢
          clear T4 hz hb
          have hth := T7.there HM.out y
          have c18 := T7.hs.cell 2 18 rfl rfl
          have hz := T7.hs.bk 0 rfl
          go_upto_region 14 with (first | (with_reducible refine wpList_load_row rfl 49 (.tmp 6) rfl Z (by kernel_rfl) _ _ (0, 0) _ hz Try.underlying49 rfl (by kernel_rfl) ?_) | (with_reducible refine wpList_store_mid rfl 49 (.tmp 45) _ rfl g (k * 15) (lP y).toArray (by kernel_rfl) (by kernel_rfl) hth (by kernel_rfl) (by kernel_rfl) ?_))
          have T9 := T7.whole HM.out y
          have hst : stP t k x = (y, bb) := by unfold stP; rw [if_neg HRP.out, if_neg (by rw [HDD.out]; decide)]; exact HYB.out
          have q : (mixL (fun j p => (stP t j p).1) k L).set k y = mixL (fun j p => (stP t j p).1) (k + 1) L := (congrArg (fun p : Po × Bool => (mixL (fun j p => (stP t j p).1) k L).set k p.1) hst.symm).trans (mixL_set (f := fun j p => (stP t j p).1) HX.out)
          rw [q] at T9
          have hl := lostB_step (t := t) HX.out
          rw [hst] at hl
          have HLL := Lib.hid hl
          have T8 := T9.tail
          clear hth c18 hz q hst hl T9 T7 HM
          generalize v6.setCells g (k * 15) (lP y) = v9 at T8 ⊢
          obtain ⟨l, hl⟩ : ∃ l, lostB t L k = l := ⟨_, rfl⟩
          rw [hl] at HLL
          rw [hl]
          clear hl
          cases l with
          | false =>
            go_wp2
            go_roundw
            case rel => exact ⟨k + 1, by omega, by go_num, by rw [HLL.out]; rfl, T8⟩
            case measure => simp [intOf]; omega
          | true =>
            go_wp2
            go_roundw
            case rel => exact ⟨k + 1, by omega, by go_num, by rw [HLL.out]; rfl, T8⟩
            case measure => simp [intOf]; omega
    · have hkz : ¬ (k : Int) < (n : Int) := by omega
      have hke : k = n := by omega
      subst hke
      rw [mixL_all (by rw [hL.out]; exact Nat.le_refl _)] at S
      have hx := S.hs.bk 1 rfl
      have hy := S.hs.bk 0 rfl
      obtain ⟨l, hl⟩ : ∃ l, lostB t L k = l := ⟨_, rfl⟩
      have HLL := Lib.hid hl
      rw [hl]
      clear hl
      go_wp2_with (first | (refine wpList_load_row rfl 31 _ rfl X rfl _ _ (0, 0) _ hx Try.underlying31 rfl (by kernel_rfl) ?_) | (refine wpList_store_row rfl 31 _ _ rfl Y _ rfl rfl _ _ hy (by kernel_rfl) (by kernel_rfl) (by kernel_rfl) ?_))
      exact bodyPost_ret (v := .tuple #[.agg (lT t D k cap').toArray, .bool l]) (results_two rfl _ _ Y _ _ _ _ rfl _ rfl (setRow_heap _ _ _ _ _ _ hy) Try.underlying31 rfl (by kernel_rfl)) rfl ⟨D, cap', by rw [HLL.out], HZ.out, (S.row 0 rfl (lT t D k cap')).nobox⟩

end Go.Proofs.Ytkdbhioneoknjaa
