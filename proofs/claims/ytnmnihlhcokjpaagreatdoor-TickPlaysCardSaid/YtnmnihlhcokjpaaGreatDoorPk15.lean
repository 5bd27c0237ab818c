/- Several texts in one, one behind the other: TreeStates, HeardSettle, TickForget, TickOwed. -/
import Derived.Test.YtnmnihlhcokjpaaGreatDoorPk14
import Derived.Test.YtnmnihlhcokjpaaGreatDoorPk12
import Derived.Test.YtnmnihlhcokjpaaGreatDoorPk13
import Derived.Test.YtnmnihlhcokjpaaGreatDoorPk05
import Derived.Deep.DeepCutAuto
import Derived.Test.YtnmnihlhcokjpaaGreatDoorPk11

/- States: contract. -/
namespace Go.Proofs.YtnmnihlhcokjpaaGreatDoor
set_option maxRecDepth 100000
open Go.ChangeShapes Go.WideShapes Go.ChangeAt Go.RowKit
set_option linter.unusedVariables false
set_option linter.unusedSimpArgs false

/-- What States hands out. -/
def TOut2 (w : World) (t : Th) (n : Nat) (L : List Po) (b : Bool) (e : Ending) (w' : World) : Prop :=
  ∃ D cap, e = .returned (.tuple #[.agg (lT t D n cap).toArray, .bool b]) ∧ (D = none → cap = 0) ∧ TS w [] D L w'

set_option maxRecDepth 100000 in
set_option maxHeartbeats 4000000 in
theorem states_is (t : Th) (A : Option Addr) (n cap : Nat) (L : List Po) (hL : Hid (L.length = n)) (hf : n ≤ 200) (hc : Hid (A = none → cap = 0)) (w : World) (hp : Hid (PoAt w A w.heap.size L)) :
    Calls Tryz.prog 105 #[.agg (lT t A n cap).toArray] w (TOut2 w t n (statesL t L) (lostB t L n)) := by
  obtain ⟨wb, hwb, S⟩ := hs_two w 31 31 (lT t A n cap) [.int .u64 0, .int .u64 0, .int .u32 0, .int .i64 0, .int .i64 0, .int .i64 0, .int .i64 0, .int .i64 0, .int .i64 0, .int .i64 0, .bool false, .bool false, .bool false, .int .i64 0, .bool false, .int .i64 0, .bool false, .int .i64 0, .slice none 0 0]
  go_enter Tryz.func105, Tryz.ntmps105
  go_upto_region 1 with fail
  clear hwb
  obtain ⟨X, hX⟩ : ∃ X, w.heap.size = X := ⟨_, rfl⟩
  rw [hX] at S
  obtain ⟨Y, hY⟩ : ∃ Y, X + 1 = Y := ⟨_, rfl⟩
  rw [hY] at S
  rw [hX]
  rw [hY]
  clear hX hY
  have hp1 := Lib.hid ((hp.out.below S.old (Nat.le_refl _)).wide S.old.size)
  have HC := Lib.hid (tcopy_is t A n cap L hL hf hc wb hp1)
  have hx := S.bk 1 rfl
  go_wp2_with (refine wpList_load_row rfl 31 _ rfl X rfl _ _ (0, 0) _ hx Tryz.underlying31 rfl (by kernel_rfl) ?_)
  (with_reducible refine HC.out.mono ?_); rintro e w1 ⟨D, cap', rfl, hz, k1⟩
  have S1 := TS.take S k1
  have HZ := Lib.hid hz
  clear S hx HC hp1 k1 hz
  have hx := S1.hs.bk 1 rfl
  go_upto_region 2 with (refine wpList_store_row rfl 31 _ _ rfl X _ rfl rfl _ _ hx (by kernel_rfl) (by kernel_rfl) (by kernel_rfl) ?_)
  have S2 : TS w [(Y, 31, [.int .u64 0, .int .u64 0, .int .u32 0, .int .i64 0, .int .i64 0, .int .i64 0, .int .i64 0, .int .i64 0, .int .i64 0, .int .i64 0, .bool false, .bool false, .bool false, .int .i64 0, .bool false, .int .i64 0, .bool false, .int .i64 0, .slice none 0 0]), (X, 31, lT t D n cap')] D L _ := S1.row 1 rfl (lT t D n cap')
  generalize w1.setRow X (lT t D n cap').toArray = w2 at S2 ⊢
  clear S1 hx
  have c18 := S2.hs.cell 1 18 rfl rfl
  go_wp2
  clear c18
  go_loopw [4, 13] (fun b i wr => ∃ k : Nat, k ≤ n ∧ i = .int .i64 k ∧ b = .bool (lostB t L k) ∧ TS w [(Y, 31, [.int .u64 0, .int .u64 0, .int .u32 0, .int .i64 0, .int .i64 0, .int .i64 0, .int .i64 0, .int .i64 0, .int .i64 0, .int .i64 0, .bool false, .bool false, .bool false, .int .i64 0, .bool false, .int .i64 0, .bool false, .int .i64 0, .slice none 0 0]), (X, 31, lT t D n cap')] D (mixL (fun j p => (stP t j p).1) k L) wr) (fun b i _ => n - (intOf i).toNat)
  case atStart => exact ⟨0, Nat.zero_le _, rfl, rfl, by rw [mixL_zero]; exact S2⟩
  case round =>
    obtain ⟨k, hk, rfl, rfl, S⟩ := hrel
    by_cases hkn : k < n
    · obtain ⟨x, hx⟩ := po_at hL.out hkn
      have hki : (k : Int) < (n : Int) := by omega
      have hkz : ¬ (n : Int) ≤ (k : Int) := by omega
      have hm := mixL_at (f := fun j p => (stP t j p).1) hx
      have HX := Lib.hid hx
      have HM := Lib.hid hm
      obtain ⟨g, hD, hg, hcl, hfz⟩ := S.at hm
      subst hD
      have hat : ∀ i v, (lP x)[i]? = some v → wr.cell? ((⟨g, k * 15, none⟩ : Addr).add i) = some v := fun i v hv => by rw [addr_add]; exact hcl i v hv
      clear hx hm S2
      go_upto_region 6 with (first | (with_reducible refine wpList_load_at rfl 63 (.tmp 16) rfl ⟨g, k * 15, none⟩ (by kernel_rfl) _ _ hat Tryz.underlying63 rfl (by kernel_rfl) ?_) | (refine wpList_store_row rfl 63 _ _ rfl _ _ rfl rfl _ _ (heap_alloc_new _ _) (by kernel_rfl) (by kernel_rfl) (by kernel_rfl) ?_))
      rw [alloc_row]
      have T1 := S.al rfl 63 (lP x)
      obtain ⟨Z, hZ⟩ : ∃ Z, wr.heap.size = Z := ⟨_, rfl⟩
      rw [hZ] at T1 ⊢
      generalize wr.alloc (.cells (lP x).toArray 63) = v1 at T1 ⊢
      clear S hat hZ hg hcl hfz
      have c3 := T1.hs.cell 2 3 rfl rfl
      by_cases hrp : (k : Int) = t.rp
      · have hb : ((k : Int) == t.rp) = true := by simp [hrp]
        have HRP := Lib.hid hrp
        clear hrp
        have HO := fun W => Lib.hid (owes_is x W)
        have HR := fun W => Lib.hid (rise_row (owesP x) (riseP (owesP x)) (Lib.hid rfl) W)
        have hz := T1.hs.bk 0 rfl
        go_wp2_with (with_reducible refine wpList_load_row rfl 63 (.tmp 6) rfl Z (by kernel_rfl) _ _ (0, 0) _ hz Tryz.underlying63 rfl (by kernel_rfl) ?_)
        (with_reducible refine (HO _).out.mono ?_); rintro e v2 ⟨rfl, b2⟩
        have T2 := T1.below b2
        clear T1 c3 hz HO b2
        go_wp2_with fail
        (with_reducible refine (HR _).out.mono ?_); rintro e v3 ⟨rfl, b3⟩
        have T3 := T2.below b3
        clear T2 HR b3
        have hz := T3.hs.bk 0 rfl
        go_upto_region 13 with (refine wpList_store_row rfl 63 _ _ rfl Z _ rfl rfl _ _ hz (by kernel_rfl) (by kernel_rfl) (by kernel_rfl) ?_)
        have T4 := T3.row 0 rfl (lP (riseP (owesP x)))
        simp only [List.set] at T4
        generalize v3.setRow Z (lP (riseP (owesP x))).toArray = v4 at T4 ⊢
        clear T3 hz hb
        have hth := T4.there HM.out (riseP (owesP x))
        have c18 := T4.hs.cell 2 18 rfl rfl
        have hz := T4.hs.bk 0 rfl
        go_upto_region 14 with (first | (with_reducible refine wpList_load_row rfl 63 (.tmp 6) rfl Z (by kernel_rfl) _ _ (0, 0) _ hz Tryz.underlying63 rfl (by kernel_rfl) ?_) | (with_reducible refine wpList_store_mid rfl 63 (.tmp 45) _ rfl g (k * 15) (lP (riseP (owesP x))).toArray (by kernel_rfl) (by kernel_rfl) hth (by kernel_rfl) (by kernel_rfl) ?_))
        have T9 := T4.whole HM.out (riseP (owesP x))
        have hst : stP t k x = ((riseP (owesP x)), false) := by unfold stP; rw [if_pos HRP.out]
        have q : (mixL (fun j p => (stP t j p).1) k L).set k (riseP (owesP x)) = mixL (fun j p => (stP t j p).1) (k + 1) L := (congrArg (fun p : Po × Bool => (mixL (fun j p => (stP t j p).1) k L).set k p.1) hst.symm).trans (mixL_set (f := fun j p => (stP t j p).1) HX.out)
        rw [q] at T9
        have hl := lostB_step (t := t) HX.out
        rw [hst] at hl
        have HLL := Lib.hid hl
        have T8 := T9.tail
        clear hth c18 hz q hst hl T9 T4 HM
        generalize v4.setCells g (k * 15) (lP (riseP (owesP x))) = v9 at T8 ⊢
        obtain ⟨l, hl⟩ : ∃ l, lostB t L k = l := ⟨_, rfl⟩
        rw [hl] at HLL
        rw [hl]
        clear hl
        cases l with
        | false =>
          go_wp2
          go_roundw
          case rel => exact ⟨k + 1, by omega, by go_num, by rw [HLL.out]; rfl, T8⟩
          case measure => simp [intOf]; omega
        | true =>
          go_wp2
          go_roundw
          case rel => exact ⟨k + 1, by omega, by go_num, by rw [HLL.out]; rfl, T8⟩
          case measure => simp [intOf]; omega
      · have hb : ((k : Int) == t.rp) = false := by simp [hrp]
        have HRP := Lib.hid hrp
        clear hrp
        obtain ⟨d, hd⟩ : ∃ d, desB x t.ow = d := ⟨_, rfl⟩
        have HD := fun W => Lib.hid (desig_row x t.ow d (Lib.hid hd) W)
        have HDD := Lib.hid hd
        clear hd
        have hz := T1.hs.bk 0 rfl
        have c0 := T1.hs.cell 2 0 rfl rfl
        go_wp2_with (with_reducible refine wpList_load_row rfl 63 (.tmp 6) rfl Z (by kernel_rfl) _ _ (0, 0) _ hz Tryz.underlying63 rfl (by kernel_rfl) ?_)
        (with_reducible refine (HD _).out.mono ?_); rintro e v2 ⟨rfl, b2⟩
        have T2 := T1.below b2
        clear T1 c3 c0 hz HD b2
        cases d with
        | true =>
          have HR := fun W => Lib.hid (rise_row (restP x) (riseP (restP x)) (Lib.hid rfl) W)
          go_wp2_with fail
          (with_reducible refine (stop_is _).mono ?_); rintro e v3 ⟨rfl, b3⟩
          have T3 := T2.below b3
          clear T2 b3
          have z9 := T3.hs.cell 0 9 rfl rfl
          have z10 := T3.hs.cell 0 10 rfl rfl
          have f9 := T3.hs.thaw 0 9 rfl
          have f10 := T3.hs.thaw 0 10 rfl
          go_upto_region 12 with fail
          have T4 := (T3.set 0 rfl 9 (.bool false)).set 0 rfl 10 (.int .i64 0)
          simp only [List.set] at T4
          have T5 : TS w [(Z, 63, lP (restP x)), (Y, 31, [.int .u64 0, .int .u64 0, .int .u32 0, .int .i64 0, .int .i64 0, .int .i64 0, .int .i64 0, .int .i64 0, .int .i64 0, .int .i64 0, .bool false, .bool false, .bool false, .int .i64 0, .bool false, .int .i64 0, .bool false, .int .i64 0, .slice none 0 0]), (X, 31, lT t (some ⟨g, 0, none⟩) n cap')] (some ⟨g, 0, none⟩) (mixL (fun j p => (stP t j p).1) k L) _ := T4
          generalize (v3.setCell ⟨Z, 9, none⟩ (.bool false)).setCell ⟨Z, 10, none⟩ (.int .i64 0) = v4 at T5 ⊢
          clear T4 T3 z9 z10 f9 f10
          have hz := T5.hs.bk 0 rfl
          go_wp2_with (with_reducible refine wpList_load_row rfl 63 (.tmp 6) rfl Z (by kernel_rfl) _ _ (0, 0) _ hz Tryz.underlying63 rfl (by kernel_rfl) ?_)
          (with_reducible refine (HR _).out.mono ?_); rintro e v5 ⟨rfl, b5⟩
          have T6 := T5.below b5
          clear T5 HR b5 hz
          have hz := T6.hs.bk 0 rfl
          go_upto_region 13 with (refine wpList_store_row rfl 63 _ _ rfl Z _ rfl rfl _ _ hz (by kernel_rfl) (by kernel_rfl) (by kernel_rfl) ?_)
          have T7 := T6.row 0 rfl (lP (riseP (restP x)))
          simp only [List.set] at T7
          generalize v5.setRow Z (lP (riseP (restP x))).toArray = v6 at T7 ⊢
          clear T6 hz hb
          have hth := T7.there HM.out (riseP (restP x))
          have c18 := T7.hs.cell 2 18 rfl rfl
          have hz := T7.hs.bk 0 rfl
          go_upto_region 14 with (first | (with_reducible refine wpList_load_row rfl 63 (.tmp 6) rfl Z (by kernel_rfl) _ _ (0, 0) _ hz Tryz.underlying63 rfl (by kernel_rfl) ?_) | (with_reducible refine wpList_store_mid rfl 63 (.tmp 45) _ rfl g (k * 15) (lP (riseP (restP x))).toArray (by kernel_rfl) (by kernel_rfl) hth (by kernel_rfl) (by kernel_rfl) ?_))
          have T9 := T7.whole HM.out (riseP (restP x))
          have hst : stP t k x = ((riseP (restP x)), false) := by unfold stP; rw [if_neg HRP.out, if_pos HDD.out]
          have q : (mixL (fun j p => (stP t j p).1) k L).set k (riseP (restP x)) = mixL (fun j p => (stP t j p).1) (k + 1) L := (congrArg (fun p : Po × Bool => (mixL (fun j p => (stP t j p).1) k L).set k p.1) hst.symm).trans (mixL_set (f := fun j p => (stP t j p).1) HX.out)
          rw [q] at T9
          have hl := lostB_step (t := t) HX.out
          rw [hst] at hl
          have HLL := Lib.hid hl
          have T8 := T9.tail
          clear hth c18 hz q hst hl T9 T7 HM
          generalize v6.setCells g (k * 15) (lP (riseP (restP x))) = v9 at T8 ⊢
          obtain ⟨l, hl⟩ : ∃ l, lostB t L k = l := ⟨_, rfl⟩
          rw [hl] at HLL
          rw [hl]
          clear hl
          cases l with
          | false =>
            go_wp2
            go_roundw
            case rel => exact ⟨k + 1, by omega, by go_num, by rw [HLL.out]; rfl, T8⟩
            case measure => simp [intOf]; omega
          | true =>
            go_wp2
            go_roundw
            case rel => exact ⟨k + 1, by omega, by go_num, by rw [HLL.out]; rfl, T8⟩
            case measure => simp [intOf]; omega
        | false =>
          have HO := fun W => Lib.hid (owes_is x W)
          obtain ⟨y, bb, hyb⟩ : ∃ y bb, blockP (owesP x) = (y, bb) := ⟨_, _, rfl⟩
          have HB := fun W => Lib.hid (block_row (owesP x) y bb (Lib.hid hyb) W)
          have HYB := Lib.hid hyb
          clear hyb
          have hz := T2.hs.bk 0 rfl
          go_wp2_with (with_reducible refine wpList_load_row rfl 63 (.tmp 6) rfl Z (by kernel_rfl) _ _ (0, 0) _ hz Tryz.underlying63 rfl (by kernel_rfl) ?_)
          (with_reducible refine (HO _).out.mono ?_); rintro e v3 ⟨rfl, b3⟩
          have T3 := T2.below b3
          clear T2 hz HO b3
          go_wp2_with fail
          (with_reducible refine (HB _).out.mono ?_); rintro e v4 ⟨rfl, b4⟩
          have T4 := T3.below b4
          clear T3 HB b4
          have hz := T4.hs.bk 0 rfl
          go_upto_region 13 with (refine wpList_store_row rfl 63 _ _ rfl Z _ rfl rfl _ _ hz (by kernel_rfl) (by kernel_rfl) (by kernel_rfl) ?_)
          have T7 := T4.row 0 rfl (lP y)
          simp only [List.set] at T7
          generalize v4.setRow Z (lP y).toArray = v6 at T7 ⊢
          clear T4 hz hb
          have hth := T7.there HM.out y
          have c18 := T7.hs.cell 2 18 rfl rfl
          have hz := T7.hs.bk 0 rfl
          go_upto_region 14 with (first | (with_reducible refine wpList_load_row rfl 63 (.tmp 6) rfl Z (by kernel_rfl) _ _ (0, 0) _ hz Tryz.underlying63 rfl (by kernel_rfl) ?_) | (with_reducible refine wpList_store_mid rfl 63 (.tmp 45) _ rfl g (k * 15) (lP y).toArray (by kernel_rfl) (by kernel_rfl) hth (by kernel_rfl) (by kernel_rfl) ?_))
          have T9 := T7.whole HM.out y
          have hst : stP t k x = (y, bb) := by unfold stP; rw [if_neg HRP.out, if_neg (by rw [HDD.out]; decide)]; exact HYB.out
          have q : (mixL (fun j p => (stP t j p).1) k L).set k y = mixL (fun j p => (stP t j p).1) (k + 1) L := (congrArg (fun p : Po × Bool => (mixL (fun j p => (stP t j p).1) k L).set k p.1) hst.symm).trans (mixL_set (f := fun j p => (stP t j p).1) HX.out)
          rw [q] at T9
          have hl := lostB_step (t := t) HX.out
          rw [hst] at hl
          have HLL := Lib.hid hl
          have T8 := T9.tail
          clear hth c18 hz q hst hl T9 T7 HM
          generalize v6.setCells g (k * 15) (lP y) = v9 at T8 ⊢
          obtain ⟨l, hl⟩ : ∃ l, lostB t L k = l := ⟨_, rfl⟩
          rw [hl] at HLL
          rw [hl]
          clear hl
          cases l with
          | false =>
            go_wp2
            go_roundw
            case rel => exact ⟨k + 1, by omega, by go_num, by rw [HLL.out]; rfl, T8⟩
            case measure => simp [intOf]; omega
          | true =>
            go_wp2
            go_roundw
            case rel => exact ⟨k + 1, by omega, by go_num, by rw [HLL.out]; rfl, T8⟩
            case measure => simp [intOf]; omega
    · have hkz : ¬ (k : Int) < (n : Int) := by omega
      have hke : k = n := by omega
      subst hke
      rw [mixL_all (by rw [hL.out]; exact Nat.le_refl _)] at S
      have hx := S.hs.bk 1 rfl
      have hy := S.hs.bk 0 rfl
      obtain ⟨l, hl⟩ : ∃ l, lostB t L k = l := ⟨_, rfl⟩
      have HLL := Lib.hid hl
      rw [hl]
      clear hl
      go_wp2_with (first | (refine wpList_load_row rfl 31 _ rfl X rfl _ _ (0, 0) _ hx Tryz.underlying31 rfl (by kernel_rfl) ?_) | (refine wpList_store_row rfl 31 _ _ rfl Y _ rfl rfl _ _ hy (by kernel_rfl) (by kernel_rfl) (by kernel_rfl) ?_))
      exact bodyPost_ret (v := .tuple #[.agg (lT t D k cap').toArray, .bool l]) (results_two rfl _ _ Y _ _ _ _ rfl _ rfl (setRow_heap _ _ _ _ _ _ hy) Tryz.underlying31 rfl (by kernel_rfl)) rfl ⟨D, cap', by rw [HLL.out], HZ.out, (S.row 0 rfl (lT t D k cap')).nobox⟩

end Go.Proofs.YtnmnihlhcokjpaaGreatDoor

/- Settle: contract. -/
namespace Go.Proofs.YtnmnihlhcokjpaaGreatDoor
set_option maxRecDepth 100000
open Go.ChangeShapes Go.WideShapes Go.ChangeAt Go.RowKit
set_option linter.unusedVariables false
set_option linter.unusedSimpArgs false

set_option maxHeartbeats 2000000 in
theorem hsettle_is (t : Th) (A : Option Addr) (n cap : Nat) (L : List Po) (hL : Hid (L.length = n)) (hf : n ≤ 200) (ht : Hid (ThB t)) (hb : Hid (∀ x ∈ L, PoB x)) (hc : Hid (A = none → cap = 0)) (w : World) (hd : Hd w) (hp : Hid (PoAt w A w.heap.size L)) :
    Calls Tryz.prog 74 #[.agg (lT t A n cap).toArray] w (ConfEnd w (settleR t L).1.1 n ((settleR t L).1.2, (settleR t L).2)) := by
  have HD := Lib.hid hd
  clear hd
  obtain ⟨S0, hS0⟩ : ∃ S0, settleR t L = S0 := ⟨_, rfl⟩
  rw [hS0]
  have HS0 := Lib.hid hS0
  clear hS0
  obtain ⟨u, hu⟩ : ∃ u, selectT t L = u := ⟨_, rfl⟩
  have HU := Lib.hid hu
  have htu : ThB u := by rw [← hu]; exact sel_bd (by rw [hL.out]; exact hf) ht.out hb.out
  have HTU := Lib.hid htu
  clear hu htu
  obtain ⟨wb, hwb, S⟩ := hs_two w 31 31 (lT t A n cap) [.int .u64 0, .int .u64 0, .int .u32 0, .int .i64 0, .int .i64 0, .int .i64 0, .int .i64 0, .int .i64 0, .int .i64 0, .int .i64 0, .bool false, .bool false, .bool false, .int .i64 0, .bool false, .int .i64 0, .bool false, .int .i64 0, .slice none 0 0]
  go_enter Tryz.func74, Tryz.ntmps74
  go_upto_region 1 with fail
  clear hwb
  obtain ⟨X, hX⟩ : ∃ q, w.heap.size = q := ⟨_, rfl⟩
  rw [hX] at S
  obtain ⟨Y, hY⟩ : ∃ q, X + 1 = q := ⟨_, rfl⟩
  rw [hY] at S
  rw [hX]
  rw [hY]
  clear hX hY
  have HC1 := Lib.hid (update_is t A n cap L hL hf hb hc wb (Lib.hid ((hp.out.below S.old (Nat.le_refl _)).wide S.old.size)))
  unfold updL updT at HC1
  rw [HU.out] at HC1
  have hx := S.bk 1 rfl
  go_wp2_with (with_reducible refine wpList_load_row rfl 31 (.tmp 1) rfl X (by kernel_rfl) _ _ (0, 0) _ hx Tryz.underlying31 rfl (by kernel_rfl) ?_)
  (with_reducible refine HC1.out.mono ?_); rintro e w1 ⟨D1, c1, rfl, hz1, k1⟩
  have S1 := TS.take S k1
  have HZ1 := Lib.hid hz1
  clear S hx HC1 k1 hz1
  have HL2 := Lib.hid (show (desL u L).length = n by rw [desL_len]; exact hL.out)
  have HC2 := Lib.hid (states_is u D1 n c1 (desL u L) HL2 hf HZ1 w1 (Lib.hid S1.ports))
  obtain ⟨lo, hlo⟩ : ∃ b, lostB u (desL u L) n = b := ⟨_, rfl⟩
  rw [hlo] at HC2
  have HLO := Lib.hid hlo
  clear hlo
  go_wp2_with fail
  (with_reducible refine HC2.out.mono ?_); rintro e w2 ⟨D, cap', rfl, hz, k2⟩
  have S2 := TS.take S1.hs k2
  have HZ := Lib.hid hz
  clear S1 HC2 k2 hz
  have hx := S2.hs.bk 1 rfl
  go_upto_region 2 with (refine wpList_store_row rfl 31 _ _ rfl X _ rfl rfl _ _ hx (by kernel_rfl) (by kernel_rfl) (by kernel_rfl) ?_)
  have S3 : TS w [(Y, 31, [.int .u64 0, .int .u64 0, .int .u32 0, .int .i64 0, .int .i64 0, .int .i64 0, .int .i64 0, .int .i64 0, .int .i64 0, .int .i64 0, .bool false, .bool false, .bool false, .int .i64 0, .bool false, .int .i64 0, .bool false, .int .i64 0, .slice none 0 0]), (X, 31, lT u D n cap')] D _ _ := S2.row 1 rfl (lT u D n cap')
  generalize w2.setRow X (lT u D n cap').toArray = w3 at S3 ⊢
  clear S2 hx
  have hs0 := HS0.out
  unfold settleR at hs0
  rw [HU.out, hL.out, HLO.out] at hs0
  cases lo with
  | false =>
    rw [if_neg (by decide)] at hs0
    subst hs0
    have hx := S3.hs.bk 1 rfl
    have hy := S3.hs.bk 0 rfl
    have S5 := S3.row 0 rfl (lT u D n cap')
    have hyF := S5.hs.bk 0 rfl
    go_wp2_with (first | (with_reducible refine wpList_load_row rfl 31 (.tmp 1) rfl X (by kernel_rfl) _ _ (0, 0) _ hx Tryz.underlying31 rfl (by kernel_rfl) ?_) | (refine wpList_store_row rfl 31 _ _ rfl Y _ rfl rfl _ _ hy (by kernel_rfl) (by kernel_rfl) (by kernel_rfl) ?_))
    exact bodyPost_ret (v := .tuple #[.agg (lT u D n cap').toArray, .slice none 0 0]) (results_two rfl _ _ Y _ _ _ _ rfl _ rfl hyF Tryz.underlying31 rfl (by kernel_rfl)) rfl ⟨D, cap', _, rfl, HZ.out, S5.nobox, OutsR.nil _ _⟩
  | true =>
    rw [if_pos rfl] at hs0
    subst hs0
    have HC4 := Lib.hid (sdetect_is u D n cap' (statesL u (desL u L)) (Lib.hid (by rw [show (statesL u (desL u L)).length = (desL u L).length from allL_len _ _]; exact HL2.out)) hf HTU HZ w3 (HD.out.below S3.old (Nat.le_refl _)) (Lib.hid S3.ports))
    have hx := S3.hs.bk 1 rfl
    go_upto_region 3 with fail
    go_wp2_with (with_reducible refine wpList_load_row rfl 31 (.tmp 1) rfl X (by kernel_rfl) _ _ (0, 0) _ hx Tryz.underlying31 rfl (by kernel_rfl) ?_)
    (with_reducible refine HC4.out.mono ?_); rintro e w5 ⟨D3, c3, v, rfl, hz3, k3, hO⟩
    have S5 := TS.take S3.hs k3
    have hb3 : w.heap.size ≤ w3.heap.size := S3.old.size
    clear hx HC4 k3 S3
    have hy := S5.hs.bk 0 rfl
    have S6 := S5.row 0 rfl (lT (detT u) D3 n c3)
    have hyF := S6.hs.bk 0 rfl
    have hOF := (hO.mono hb3).store S5.hs 0 rfl (lT (detT u) D3 n c3).toArray
    go_wp2_with (refine wpList_store_row rfl 31 _ _ rfl Y _ rfl rfl _ _ hy (by kernel_rfl) (by kernel_rfl) (by kernel_rfl) ?_)
    exact bodyPost_ret (v := .tuple #[.agg (lT (detT u) D3 n c3).toArray, v]) (results_two rfl _ _ Y _ _ _ _ rfl _ rfl hyF Tryz.underlying31 rfl (by kernel_rfl)) rfl ⟨D3, c3, _, rfl, hz3, S6.nobox, hOF⟩

end Go.Proofs.YtnmnihlhcokjpaaGreatDoor

/- forget: contract. -/
namespace Go.Proofs.YtnmnihlhcokjpaaGreatDoor
set_option maxRecDepth 100000
open Go.ChangeShapes Go.WideShapes Go.ChangeAt Go.RowKit
set_option linter.unusedVariables false
set_option linter.unusedSimpArgs false

/-- A port that forgets what has become too old. -/
def forgR (t : Th) (L : List Po) (k : Nat) (p : Po) : Tk :=
  if t.ro ≠ t.ow ∧ (settleR t (L.set k (becomeP t p))).1.1.ro = (settleR t (L.set k (becomeP t p))).1.1.ow then leadS (settleR t (L.set k (becomeP t p))) else settleR t (L.set k (becomeP t p))
theorem age_is16 {s : Tk} {k : Nat} {p : Po} (h : s.1.2[k]? = some p) : ageS s k = ((forgR s.1.1 s.1.2 k p).1, s.2 ++ (forgR s.1.1 s.1.2 k p).2) := by
  unfold ageS forgR
  rw [h]
  dsimp only
  split
  · unfold leadS
    dsimp only
    rw [List.append_assoc]
  · rfl
theorem lead_is16 {t : Th} {L : List Po} {M : List Ou} {n : Nat} (hn : L.length = n) (h : t.ro = t.ow) : leadS ((t, L), M) = ((leadT2 t, (allR (leadT t) L n).1), M ++ (leadO t n ++ (allR (leadT t) L n).2)) := by
  unfold leadS leadT2
  rw [lead_root h, List.nil_append, ← hn]
theorem exec_if_load_mid {P : Program} {ops : Array Oper} {o : Oper} {a : Act} {w : World} {K : Act → World → Prop} {Q : Exit → Act → World → Prop} {E : Prop} (hw : Region.wanted o (yielded ops a.tmps) = true) (ty : TypeId) (x : Operand) (ho : o.op = .load ty x)
    (b off : Nat) (hx : a.eval x = .pointer (some ⟨b, off, none⟩)) (cs : List Value) (d : TypeDesc) (hc : w.rangeAt b off cs) (hu : P.underlying ty = some d) (hd : d.isRow = true) (hi : (P.info? ty).map (·.size) = some cs.length)
    (h : K (a.put o.dst (.agg cs.toArray)) w) : if Region.wanted o (yielded ops a.tmps) = true then Oper.wp P o a w K Q else E := by
  rw [if_pos hw]
  exact wp_load_mid ty x ho b off hx cs d hc hu hd hi h
set_option maxHeartbeats 8000000 in
theorem forget_is {w W : World} {l : List (Nat × TypeId × List Value)} (t : Th) (D : Option Addr) (n c : Nat) (L : List Po) (k : Nat) (p : Po) (hk : Hid (L[k]? = some p)) (hT : Hid (TkF t)) (hl : Hid (∀ y ∈ l, 83 ≠ y.2.1)) (hL : Hid (L.length = n)) (hf : n ≤ 200) (ht : Hid (ThB t)) (hn : Hid (-9223372036854775808 ≤ t.n1 ∧ t.n1 ≤ 9223372036854775807 ∧ -9223372036854775808 ≤ t.n2 ∧ t.n2 ≤ 9223372036854775807 ∧ -9223372036854775808 ≤ t.n3 ∧ t.n3 ≤ 9223372036854775807)) (hb : Hid (∀ x ∈ L, PoB x)) (hc : Hid (D = none → c = 0)) (hd : Hd w) (hS : TS w l D L W) :
    Calls Tryz.prog 49 #[.agg (lT t D n c).toArray, .int .i64 k] W (StepEnd w l n W (forgR t L k p)) := by
  have hkn : k < n := by have := po_lt hk.out; have := hL.out; omega
  have hki : (k : Int) < (n : Int) := by omega
  have hkz : ¬ (n : Int) ≤ (k : Int) := by omega
  obtain ⟨g, rfl, -⟩ := hS.at hk.out
  obtain ⟨q, hq⟩ : ∃ q, becomeP t p = q := ⟨_, rfl⟩
  have HBE := fun W => Lib.hid (become_row p t W)
  rw [hq] at HBE
  have HTE := fun W => Lib.hid (telling_is t (some ⟨g, 0, none⟩) n c W)
  obtain ⟨sr, hsr⟩ : ∃ r, settleR t (L.set k q) = r := ⟨_, rfl⟩
  obtain ⟨R, hR⟩ : ∃ R, forgR t L k p = R := ⟨_, rfl⟩
  rw [hR]
  unfold forgR at hR
  rw [hq, hsr] at hR
  have HR := Lib.hid hR
  clear hR
  have HL2 := Lib.hid (show (L.set k q).length = n from set_len hL.out)
  have HB2 := Lib.hid (show ∀ z ∈ L.set k q, PoB z from set_bd hb.out (by rw [← hq]; exact (become_bd ht.out (hb.out p (List.mem_of_getElem? hk.out))).1))
  clear hq
  have HTU := Lib.hid (show ThB sr.1.1 by rw [← hsr]; exact settle_bd (by rw [HL2.out]; exact hf) ht.out HB2.out)
  have HM := Lib.hid (show sr.1.2.length = n by rw [← hsr]; exact settle_n HL2.out)
  have HMB := Lib.hid (show ∀ z ∈ sr.1.2, PoB z by rw [← hsr]; exact settle_pb HB2.out (sel_bd (by rw [HL2.out]; exact hf) ht.out HB2.out))
  have HFW := Lib.hid (show sr.2.length ≤ 1 by rw [← hsr]; exact settle_few _ _)
  have HTM := Lib.hid (show TkF sr.1.1 by rw [← hsr]; exact hT.out.tms (settle_tms _ _))
  have HSR := Lib.hid hsr
  clear hsr
  obtain ⟨rb, hrb⟩ : ∃ b, decide (t.ro = t.ow) = b := ⟨_, rfl⟩
  have HI := fun W => Lib.hid (isroot_is t (some ⟨g, 0, none⟩) n c rb (Lib.hid hrb) W)
  have HRB := Lib.hid hrb
  clear hrb
  have HD := Lib.hid hd
  clear hd
  obtain ⟨wb, hwb, S⟩ := TF.two hS 31 31 (lT t (some ⟨g, 0, none⟩) n c) [.int .u64 0, .int .u64 0, .int .u32 0, .int .i64 0, .int .i64 0, .int .i64 0, .int .i64 0, .int .i64 0, .int .i64 0, .int .i64 0, .bool false, .bool false, .bool false, .int .i64 0, .bool false, .int .i64 0, .bool false, .int .i64 0, .slice none 0 0]
  have HSW := Lib.hid hS.old
  clear hS
  go_enter Tryz.func49, Tryz.ntmps49
  go_upto_region 1 with fail
  clear hwb
  obtain ⟨X, hX⟩ : ∃ q, W.heap.size = q := ⟨_, rfl⟩
  have HXW := Lib.hid (show W.heap.size ≤ X from Nat.le_of_eq hX)
  rw [hX] at S
  obtain ⟨Y, hY⟩ : ∃ q, X + 1 = q := ⟨_, rfl⟩
  have HYW := Lib.hid (show W.heap.size ≤ Y by rw [← hY]; exact Nat.le_succ_of_le HXW.out)
  rw [hY] at S
  rw [hX]
  rw [hY]
  clear hX hY
  have hx := S.hs.bk 1 rfl
  go_wp2_with (with_reducible refine wpList_load_row rfl 31 (.tmp 2) rfl X (by kernel_rfl) _ _ (0, 0) _ hx Tryz.underlying31 rfl (by kernel_rfl) ?_)
  (with_reducible refine (HI _).out.mono ?_); rintro e w1 ⟨rfl, b1⟩
  have S1 := S.below b1
  clear S hx HI b1
  go_upto_region 2 with fail
  go_cut [22] (fun q' wx => TF w ((Y, 31, [.int .u64 0, .int .u64 0, .int .u32 0, .int .i64 0, .int .i64 0, .int .i64 0, .int .i64 0, .int .i64 0, .int .i64 0, .int .i64 0, .bool false, .bool false, .bool false, .int .i64 0, .bool false, .int .i64 0, .bool false, .int .i64 0, .slice none 0 0]) :: (X, 31, lT t (some ⟨g, 0, none⟩) n c) :: l) (some ⟨g, 0, none⟩) (L.set k q) W wx)
  case first =>
    refine wp_region_held_drew (S := (fun w' => Bk w' X 31 (lT t (some ⟨g, 0, none⟩) n c))) (by kernel_rfl) ((S1.hs.1 1 _ _ _ rfl).1) (fun hHeld => ?_)
    have Sd := S1.below ((Below.refl _ _).drew)
    obtain ⟨vd, hvd⟩ : ∃ y, w1.drew = y := ⟨_, rfl⟩
    rw [hvd] at Sd hHeld ⊢
    clear hvd S1
    refine wpAnyH_take (i := 0) (v := ?_) rfl (by kernel_rfl) (by kernel_rfl) (by kernel_rfl) (fun _ _ _ h => h) (Or.inl ⟨by kernel_rfl, ?_⟩) (by assumption) ?_
    rotate_left
    · intro w' hSw; (try dsimp only at hSw); go_simp; with_reducible rfl
    try simp only [Act.put, List.getElem_toArray, List.getElem_cons_succ, List.getElem_cons_zero, List.setIfInBounds_toArray, List.set_cons_succ, List.set_cons_zero]
    refine wpAnyH_take (i := 1) (v := ?_) rfl (by kernel_rfl) (by kernel_rfl) (by kernel_rfl) (fun _ _ _ h => h) (Or.inl ⟨by kernel_rfl, ?_⟩) (by assumption) ?_
    rotate_left
    · intro w' hSw; (try dsimp only at hSw); have c0 : w'.cell? ⟨X, 18, none⟩ = some (.slice (some ⟨g, 0, none⟩) n c) := Bk.cell hSw 18; go_simp; with_reducible rfl
    try simp only [Act.put, List.getElem_toArray, List.getElem_cons_succ, List.getElem_cons_zero, List.setIfInBounds_toArray, List.set_cons_succ, List.set_cons_zero]
    refine wpAnyH_take (i := 2) (v := ?_) rfl (by kernel_rfl) (by kernel_rfl) (by kernel_rfl) (fun _ _ _ h => h) (Or.inl ⟨by kernel_rfl, ?_⟩) (by assumption) ?_
    rotate_left
    · intro w' hSw; (try dsimp only at hSw); go_simp; with_reducible rfl
    try simp only [Act.put, List.getElem_toArray, List.getElem_cons_succ, List.getElem_cons_zero, List.setIfInBounds_toArray, List.set_cons_succ, List.set_cons_zero]
    refine wpAnyH_take (i := 3) (v := ?_) rfl (by kernel_rfl) (by kernel_rfl) (by kernel_rfl) (fun _ _ _ h => h) (Or.inl ⟨by kernel_rfl, ?_⟩) (by assumption) ?_
    rotate_left
    · intro w' hSw; (try dsimp only at hSw); go_simp; with_reducible rfl
    try simp only [Act.put, List.getElem_toArray, List.getElem_cons_succ, List.getElem_cons_zero, List.setIfInBounds_toArray, List.set_cons_succ, List.set_cons_zero]
    refine wpAnyH_take (i := 4) (v := ?_) rfl (by kernel_rfl) (by kernel_rfl) (by kernel_rfl) (fun _ _ _ h => h) (Or.inl ⟨by kernel_rfl, ?_⟩) (by assumption) ?_
    rotate_left
    · intro w' hSw; (try dsimp only at hSw); have c0 : w'.cell? ⟨X, 18, none⟩ = some (.slice (some ⟨g, 0, none⟩) n c) := Bk.cell hSw 18; go_simp; with_reducible rfl
    try simp only [Act.put, List.getElem_toArray, List.getElem_cons_succ, List.getElem_cons_zero, List.setIfInBounds_toArray, List.set_cons_succ, List.set_cons_zero]
    refine wpAnyH_take (i := 5) (v := ?_) rfl (by kernel_rfl) (by kernel_rfl) (by kernel_rfl) (fun _ _ _ h => h) (Or.inl ⟨by kernel_rfl, ?_⟩) (by assumption) ?_
    rotate_left
    · intro w' hSw; (try dsimp only at hSw); go_simp; with_reducible rfl
    try simp only [Act.put, List.getElem_toArray, List.getElem_cons_succ, List.getElem_cons_zero, List.setIfInBounds_toArray, List.set_cons_succ, List.set_cons_zero]
    refine wpAnyH_take (i := 6) (v := ?_) rfl (by kernel_rfl) (by kernel_rfl) (by kernel_rfl) (fun _ _ _ h => h) (Or.inl ⟨by kernel_rfl, ?_⟩) (by assumption) ?_
    rotate_left
    · intro w' hSw; (try dsimp only at hSw); go_simp; with_reducible rfl
    try simp only [Act.put, List.getElem_toArray, List.getElem_cons_succ, List.getElem_cons_zero, List.setIfInBounds_toArray, List.set_cons_succ, List.set_cons_zero]
    refine wpAnyH_take (i := 8) (v := _) rfl (by kernel_rfl) (by kernel_rfl) (by kernel_rfl) (fun _ _ _ h => h) (Or.inl ⟨by kernel_rfl, fun w' hSw => exec_load_row 31 _ rfl X (by kernel_rfl) _ _ (0, 0) _ (hSw) Tryz.underlying31 rfl (by kernel_rfl)⟩) (by assumption) ?_
    try simp only [Act.put, List.getElem_toArray, List.getElem_cons_succ, List.getElem_cons_zero, List.setIfInBounds_toArray, List.set_cons_succ, List.set_cons_zero]
    refine wpAnyH_ready (rs := [7, 9]) (by kernel_rfl) (by simp) ?_
    refine AllReadyH.cons rfl (fun K hK => ?_) (AllReadyH.cons rfl (fun K hK => ?_) AllReadyH.nil)
    · refine exec_if_load_mid (by kernel_rfl) 63 (.tmp 17) rfl g (k * 15) (by kernel_rfl) (lP p) _ (Sd.ts.range hk.out) Tryz.underlying63 rfl (by kernel_rfl) ?_
      refine hK.out _ _ ((Sd.hs.1 1 _ _ _ rfl).1) (fun hHeld => ?_)
      clear hK K
      try simp only [Act.put, List.getElem_toArray, List.getElem_cons_succ, List.getElem_cons_zero, List.setIfInBounds_toArray, List.set_cons_succ, List.set_cons_zero]
      refine wpAnyH_ready (rs := [9]) (by kernel_rfl) (by simp) ?_
      refine AllReadyH.cons rfl (fun K hK => ?_) AllReadyH.nil
      go_simp
      (with_reducible refine (HTE _).out.mono ?_); rintro e w2 ⟨rfl, b2⟩
      have S2 := Sd.below b2
      clear Sd b2
      refine hK.out _ _ ((S2.hs.1 1 _ _ _ rfl).1) (fun hHeld => ?_)
      clear hK K
      try simp only [Act.put, List.getElem_toArray, List.getElem_cons_succ, List.getElem_cons_zero, List.setIfInBounds_toArray, List.set_cons_succ, List.set_cons_zero]
      refine wpAnyH_ready (rs := [10]) (by kernel_rfl) (by simp) ?_
      refine AllReadyH.cons rfl (fun K hK => ?_) AllReadyH.nil
      go_simp
      (with_reducible refine (HBE _).out.mono ?_); rintro e w3 ⟨rfl, b2⟩
      have S3 := S2.below b2
      clear S2 b2
      refine hK.out _ _ ((S3.hs.1 1 _ _ _ rfl).1) (fun hHeld => ?_)
      clear hK K
      try simp only [Act.put, List.getElem_toArray, List.getElem_cons_succ, List.getElem_cons_zero, List.setIfInBounds_toArray, List.set_cons_succ, List.set_cons_zero]
      refine wpAnyH_take (i := 11) (v := ?_) rfl (by kernel_rfl) (by kernel_rfl) (by kernel_rfl) (fun _ _ _ h => h) (Or.inl ⟨by kernel_rfl, ?_⟩) (by assumption) ?_
      rotate_left
      · intro w' hSw; (try dsimp only at hSw); go_simp; with_reducible rfl
      try simp only [Act.put, List.getElem_toArray, List.getElem_cons_succ, List.getElem_cons_zero, List.setIfInBounds_toArray, List.set_cons_succ, List.set_cons_zero]
      refine wpAnyH_ready (rs := [12]) (by kernel_rfl) (by simp) ?_
      refine AllReadyH.cons rfl (fun K hK => ?_) AllReadyH.nil
      have hth := S3.ts.there hk.out q
      refine exec_if_store_mid (by kernel_rfl) 63 (.tmp 22) (.tmp 21) rfl g (k * 15) (lP q).toArray (by kernel_rfl) (by kernel_rfl) hth (by kernel_rfl) (by kernel_rfl) ?_
      have S4 := S3.whole hk.out q
      refine hK.out _ _ ((S4.hs.1 1 _ _ _ rfl).1) (fun hHeld => ?_)
      clear hK K
      try simp only [Act.put, List.getElem_toArray, List.getElem_cons_succ, List.getElem_cons_zero, List.setIfInBounds_toArray, List.set_cons_succ, List.set_cons_zero]
      refine wpAnyH_done (by kernel_rfl) ?_ _
      go_wp2_with fail
      go_meet
      exact S4
    · go_simp
      (with_reducible refine (HTE _).out.mono ?_); rintro e w2 ⟨rfl, b2⟩
      have S2 := Sd.below b2
      clear Sd b2
      refine hK.out _ _ ((S2.hs.1 1 _ _ _ rfl).1) (fun hHeld => ?_)
      clear hK K
      try simp only [Act.put, List.getElem_toArray, List.getElem_cons_succ, List.getElem_cons_zero, List.setIfInBounds_toArray, List.set_cons_succ, List.set_cons_zero]
      refine wpAnyH_ready (rs := [7]) (by kernel_rfl) (by simp) ?_
      refine AllReadyH.cons rfl (fun K hK => ?_) AllReadyH.nil
      refine exec_if_load_mid (by kernel_rfl) 63 (.tmp 17) rfl g (k * 15) (by kernel_rfl) (lP p) _ (S2.ts.range hk.out) Tryz.underlying63 rfl (by kernel_rfl) ?_
      refine hK.out _ _ ((S2.hs.1 1 _ _ _ rfl).1) (fun hHeld => ?_)
      clear hK K
      try simp only [Act.put, List.getElem_toArray, List.getElem_cons_succ, List.getElem_cons_zero, List.setIfInBounds_toArray, List.set_cons_succ, List.set_cons_zero]
      refine wpAnyH_ready (rs := [10]) (by kernel_rfl) (by simp) ?_
      refine AllReadyH.cons rfl (fun K hK => ?_) AllReadyH.nil
      go_simp
      (with_reducible refine (HBE _).out.mono ?_); rintro e w3 ⟨rfl, b2⟩
      have S3 := S2.below b2
      clear S2 b2
      refine hK.out _ _ ((S3.hs.1 1 _ _ _ rfl).1) (fun hHeld => ?_)
      clear hK K
      try simp only [Act.put, List.getElem_toArray, List.getElem_cons_succ, List.getElem_cons_zero, List.setIfInBounds_toArray, List.set_cons_succ, List.set_cons_zero]
      refine wpAnyH_take (i := 11) (v := ?_) rfl (by kernel_rfl) (by kernel_rfl) (by kernel_rfl) (fun _ _ _ h => h) (Or.inl ⟨by kernel_rfl, ?_⟩) (by assumption) ?_
      rotate_left
      · intro w' hSw; (try dsimp only at hSw); go_simp; with_reducible rfl
      try simp only [Act.put, List.getElem_toArray, List.getElem_cons_succ, List.getElem_cons_zero, List.setIfInBounds_toArray, List.set_cons_succ, List.set_cons_zero]
      refine wpAnyH_ready (rs := [12]) (by kernel_rfl) (by simp) ?_
      refine AllReadyH.cons rfl (fun K hK => ?_) AllReadyH.nil
      have hth := S3.ts.there hk.out q
      refine exec_if_store_mid (by kernel_rfl) 63 (.tmp 22) (.tmp 21) rfl g (k * 15) (lP q).toArray (by kernel_rfl) (by kernel_rfl) hth (by kernel_rfl) (by kernel_rfl) ?_
      have S4 := S3.whole hk.out q
      refine hK.out _ _ ((S4.hs.1 1 _ _ _ rfl).1) (fun hHeld => ?_)
      clear hK K
      try simp only [Act.put, List.getElem_toArray, List.getElem_cons_succ, List.getElem_cons_zero, List.setIfInBounds_toArray, List.set_cons_succ, List.set_cons_zero]
      refine wpAnyH_done (by kernel_rfl) ?_ _
      go_wp2_with fail
      go_meet
      exact S4
  case rest =>
    rename World => w4
    have S4 : TF w ((Y, 31, [.int .u64 0, .int .u64 0, .int .u32 0, .int .i64 0, .int .i64 0, .int .i64 0, .int .i64 0, .int .i64 0, .int .i64 0, .int .i64 0, .bool false, .bool false, .bool false, .int .i64 0, .bool false, .int .i64 0, .bool false, .int .i64 0, .slice none 0 0]) :: (X, 31, lT t (some ⟨g, 0, none⟩) n c) :: l) (some ⟨g, 0, none⟩) (L.set k q) W w4 := hcut
    clear hcut S1 HTE HBE
    have HC := Lib.hid (hsettle_is t (some ⟨g, 0, none⟩) n c (L.set k q) HL2 hf ht HB2 hc w4 (HD.out.below S4.old (Nat.le_refl _)) (Lib.hid S4.ts.ports))
    rw [HSR.out] at HC
    have hx := S4.hs.bk 1 rfl
    go_wp2_with (with_reducible refine wpList_load_row rfl 31 (.tmp 2) rfl X (by kernel_rfl) _ _ (0, 0) _ hx Tryz.underlying31 rfl (by kernel_rfl) ?_)
    (with_reducible refine HC.out.mono ?_); rintro e w5 ⟨D1, c1, v, rfl, hz1, k5, hO⟩
    have S5 := S4.take k5
    have hO5 := hO.mono S4.since
    have HZ1 := Lib.hid hz1
    clear S4 hx HC k5 hz1 hO
    obtain ⟨u, hu⟩ : ∃ u, sr.1.1 = u := ⟨_, rfl⟩
    obtain ⟨M, hM⟩ : ∃ u, sr.1.2 = u := ⟨_, rfl⟩
    obtain ⟨o, ho⟩ : ∃ u, sr.2 = u := ⟨_, rfl⟩
    have hsr : sr = ((u, M), o) := by rw [← hu, ← hM, ← ho]
    rw [hu] at HTU HTM
    rw [hM] at HM HMB S5
    rw [ho] at HFW hO5
    have hr := HR.out
    rw [hsr] at hr
    rw [show sr.1.1 = u from hu]
    clear hu hM ho hsr HSR
    have hx := S5.hs.bk 1 rfl
    go_upto_region 4 with (refine wpList_store_row rfl 31 _ _ rfl X _ rfl rfl _ _ hx (by kernel_rfl) (by kernel_rfl) (by kernel_rfl) ?_)
    have S6 : TF w ((Y, 31, [.int .u64 0, .int .u64 0, .int .u32 0, .int .i64 0, .int .i64 0, .int .i64 0, .int .i64 0, .int .i64 0, .int .i64 0, .int .i64 0, .bool false, .bool false, .bool false, .int .i64 0, .bool false, .int .i64 0, .bool false, .int .i64 0, .slice none 0 0]) :: (X, 31, lT u D1 n c1) :: l) D1 M W _ := S5.row 1 rfl (lT u D1 n c1) HXW.out
    have hO6 := hO5.store S5.hs 1 rfl (lT u D1 n c1).toArray
    generalize w5.setRow X (lT u D1 n c1).toArray = w6 at S6 hO6 ⊢
    clear S5 hO5 hx
    try dsimp only at hr
    cases rb with
    | true =>
      have hrb := of_decide_eq_true HRB.out
      rw [if_neg (fun e => e.1 hrb)] at hr
      subst hr
      have hx := S6.hs.bk 1 rfl
      have hy := S6.hs.bk 0 rfl
      have SF := S6.row 0 rfl (lT u D1 n c1) HYW.out
      have hyF := SF.hs.bk 0 rfl
      have hOF := hO6.store S6.hs 0 rfl (lT u D1 n c1).toArray
      go_wp2_with (first | (with_reducible refine wpList_load_row rfl 31 (.tmp 2) rfl X (by kernel_rfl) _ _ (0, 0) _ hx Tryz.underlying31 rfl (by kernel_rfl) ?_) | (refine wpList_store_row rfl 31 _ _ rfl Y _ rfl rfl _ _ hy (by kernel_rfl) (by kernel_rfl) (by kernel_rfl) ?_))
      exact bodyPost_ret (v := .tuple #[.agg (lT u D1 n c1).toArray, v]) (results_two rfl _ _ Y _ _ _ _ rfl _ rfl hyF Tryz.underlying31 rfl (by kernel_rfl)) rfl ⟨D1, c1, _, rfl, HZ1.out, SF.tail.tail.ts, hOF, SF.2⟩
    | false =>
      have hrb := of_decide_eq_false HRB.out
      obtain ⟨qb, hqb⟩ : ∃ b, decide (u.ro = u.ow) = b := ⟨_, rfl⟩
      have HI := fun W => Lib.hid (isroot_is u D1 n c1 qb (Lib.hid hqb) W)
      have HQB := Lib.hid hqb
      have HRR := Lib.hid hr
      have HRN := Lib.hid hrb
      clear hqb hr hrb
      have hx := S6.hs.bk 1 rfl
      go_wp2_with (with_reducible refine wpList_load_rowG (by kernel_rfl) 31 (.tmp 2) rfl X (by kernel_rfl) _ _ (0, 0) _ hx Tryz.underlying31 rfl (by kernel_rfl) ?_)
      (with_reducible refine (HI _).out.mono ?_); rintro e w7 ⟨rfl, b7⟩
      have S7 := S6.below b7
      have hO7 := hO6.below b7
      clear S6 hO6 hx HI b7
      have hr := HRR.out
      clear HRR
      cases qb with
      | false =>
        have hqb := of_decide_eq_false HQB.out
        rw [if_neg (fun e => hqb e.2)] at hr
        subst hr
        have hx := S7.hs.bk 1 rfl
        have hy := S7.hs.bk 0 rfl
        have SF := S7.row 0 rfl (lT u D1 n c1) HYW.out
        have hyF := SF.hs.bk 0 rfl
        have hOF := hO7.store S7.hs 0 rfl (lT u D1 n c1).toArray
        go_wp2_with (first | (with_reducible refine wpList_load_row rfl 31 (.tmp 2) rfl X (by kernel_rfl) _ _ (0, 0) _ hx Tryz.underlying31 rfl (by kernel_rfl) ?_) | (refine wpList_store_row rfl 31 _ _ rfl Y _ rfl rfl _ _ hy (by kernel_rfl) (by kernel_rfl) (by kernel_rfl) ?_))
        exact bodyPost_ret (v := .tuple #[.agg (lT u D1 n c1).toArray, v]) (results_two rfl _ _ Y _ _ _ _ rfl _ rfl hyF Tryz.underlying31 rfl (by kernel_rfl)) rfl ⟨D1, c1, _, rfl, HZ1.out, SF.tail.tail.ts, hOF, SF.2⟩
      | true =>
        have hqb := of_decide_eq_true HQB.out
        rw [if_pos ⟨HRN.out, hqb⟩, lead_is16 HM.out hqb] at hr
        have HC := Lib.hid (hlead_is u D1 n c1 M HM hf HTU (Lib.hid (by have := HTM.out; unfold TkF at this; omega)) HMB HZ1 w7 (HD.out.below S7.old (Nat.le_refl _)) (Lib.hid S7.ts.ports))
        obtain ⟨O, hO⟩ : ∃ O, leadO u n ++ (allR (leadT u) M n).2 = O := ⟨_, rfl⟩
        obtain ⟨N, hN⟩ : ∃ O, (allR (leadT u) M n).1 = O := ⟨_, rfl⟩
        have HOF := Lib.hid (show O.length ≤ n by rw [← hO, lead_root hqb, List.nil_append]; exact (allR_bd (t := leadT u) HMB.out n).2.1)
        rw [hO, hN] at HC hr
        obtain ⟨u2, hu2⟩ : ∃ y, leadT2 u = y := ⟨_, rfl⟩
        rw [hu2] at HC hr
        subst hr
        clear hO hN hu2 hqb
        have hx := S7.hs.bk 1 rfl
        go_wp2_with (with_reducible refine wpList_load_row rfl 31 (.tmp 2) rfl X (by kernel_rfl) _ _ (0, 0) _ hx Tryz.underlying31 rfl (by kernel_rfl) ?_)
        (with_reducible refine HC.out.mono ?_); rintro e w8 ⟨D2, c2, v3, rfl, hz2, k8, hQ⟩
        have S8 := S7.take k8
        have hO8 := hO7.below k8.old
        have HWQ := Lib.hid S7.since
        have HZ2 := Lib.hid hz2
        clear S7 hO7 hx HC k8 hz2
        have hx := S8.hs.bk 1 rfl
        go_upto_region 7 with (refine wpList_store_row rfl 31 _ _ rfl X _ rfl rfl _ _ hx (by kernel_rfl) (by kernel_rfl) (by kernel_rfl) ?_)
        have S9 : TF w ((Y, 31, [.int .u64 0, .int .u64 0, .int .u32 0, .int .i64 0, .int .i64 0, .int .i64 0, .int .i64 0, .int .i64 0, .int .i64 0, .int .i64 0, .bool false, .bool false, .bool false, .int .i64 0, .bool false, .int .i64 0, .bool false, .int .i64 0, .slice none 0 0]) :: (X, 31, lT u2 D2 n c2) :: l) D2 N W _ := S8.row 1 rfl (lT u2 D2 n c2) HXW.out
        have hO9 := hO8.store S8.hs 1 rfl (lT u2 D2 n c2).toArray
        have hQ9 := hQ.store S8.hs 1 rfl (lT u2 D2 n c2).toArray
        generalize w8.setRow X (lT u2 D2 n c2).toArray = w9 at S9 hO9 hQ9 ⊢
        clear S8 hO8 hQ hx
        have hlen : o.length + O.length ≤ 100000 := by have h1 := HFW.out; have h2 := HOF.out; omega
        refine wp_region_held_drew (S := (fun w' => Bk w' X 31 (lT u2 D2 n c2))) (by kernel_rfl) ((S9.hs.1 1 _ _ _ rfl).1) (fun hHeld => ?_)
        have Sd := S9.below ((Below.refl _ _).drew)
        have hOd := hO9.below ((Below.refl _ _).drew)
        have hQd := hQ9.below ((Below.refl _ _).drew)
        obtain ⟨vd, hvd⟩ : ∃ y, w9.drew = y := ⟨_, rfl⟩
        rw [hvd] at Sd hOd hQd hHeld ⊢
        clear hvd S9 hO9 hQ9
        have hbd : W.heap.size ≤ vd.heap.size := Sd.since
        obtain ⟨_, _, hown⟩ := hOd.own
        refine wpAnyH_take (i := 0) (v := _) rfl (by kernel_rfl) (by kernel_rfl) (by kernel_rfl) (fun _ _ _ h => h) (Or.inl ⟨by kernel_rfl, fun w' hSw => exec_load_row 31 _ rfl X (by kernel_rfl) _ _ (0, 0) _ (hSw) Tryz.underlying31 rfl (by kernel_rfl)⟩) (by assumption) ?_
        try simp only [Act.put, List.getElem_toArray, List.getElem_cons_succ, List.getElem_cons_zero, List.setIfInBounds_toArray, List.set_cons_succ, List.set_cons_zero]
        refine wpAnyH_take (i := 1) (v := ?_) rfl (by kernel_rfl) (by kernel_rfl) (by kernel_rfl) (fun _ _ _ h => h) (Or.inl ⟨by kernel_rfl, ?_⟩) (by assumption) ?_
        rotate_left
        · intro w' hSw; (try dsimp only at hSw); go_simp; with_reducible rfl
        try simp only [Act.put, List.getElem_toArray, List.getElem_cons_succ, List.getElem_cons_zero, List.setIfInBounds_toArray, List.set_cons_succ, List.set_cons_zero]
        refine wpAnyH_take (i := 2) (v := ?_) rfl (by kernel_rfl) (by kernel_rfl) (by kernel_rfl) (fun _ _ _ h => h) (Or.inl ⟨by kernel_rfl, ?_⟩) (by assumption) ?_
        rotate_left
        · intro w' hSw; (try dsimp only at hSw); go_simp; with_reducible rfl
        try simp only [Act.put, List.getElem_toArray, List.getElem_cons_succ, List.getElem_cons_zero, List.setIfInBounds_toArray, List.set_cons_succ, List.set_cons_zero]
        refine wpAnyH_ready (rs := [3]) (by kernel_rfl) (by simp) ?_
        refine AllReadyH.cons rfl (fun K hK => ?_) AllReadyH.nil
        refine step_append_outs rfl (.tmp 42) (.tmp 43) (by kernel_rfl) W.heap.size w7.heap.size v v3 o O (by kernel_rfl) (by kernel_rfl) hOd hQd HWQ.out hlen hbd ?_
        intro v' we hOe gr
        have Se := Sd.grown hown gr (box_outG hl.out) HSW.out.size (Nat.le_refl _)
        clear Sd hOd hQd gr hown
        refine hK.out _ _ ((Se.hs.1 1 _ _ _ rfl).1) (fun hHeld => ?_)
        clear hK K
        try simp only [Act.put, List.getElem_toArray, List.getElem_cons_succ, List.getElem_cons_zero, List.setIfInBounds_toArray, List.set_cons_succ, List.set_cons_zero]
        have hy := Se.hs.bk 0 rfl
        refine wpAnyH_ready (rs := [4]) (by kernel_rfl) (by simp) ?_
        refine AllReadyH.cons rfl (fun K hK => ?_) AllReadyH.nil
        refine exec_if_store (by kernel_rfl) 31 (.tmp 4) (.tmp 41) rfl Y (lT u2 D2 n c2).toArray (by kernel_rfl) (by kernel_rfl) _ _ hy (by kernel_rfl) (by kernel_rfl) (by kernel_rfl) ?_
        have Sf := Se.row 0 rfl (lT u2 D2 n c2) HYW.out
        refine hK.out _ _ ((Sf.hs.1 1 _ _ _ rfl).1) (fun hHeld => ?_)
        clear hK K
        try simp only [Act.put, List.getElem_toArray, List.getElem_cons_succ, List.getElem_cons_zero, List.setIfInBounds_toArray, List.set_cons_succ, List.set_cons_zero]
        refine wpAnyH_take (i := 5) (v := ?_) rfl (by kernel_rfl) (by kernel_rfl) (by kernel_rfl) (fun _ _ _ h => h) (Or.inl ⟨by kernel_rfl, ?_⟩) (by assumption) ?_
        rotate_left
        · intro w' hSw; (try dsimp only at hSw); go_simp; with_reducible rfl
        try simp only [Act.put, List.getElem_toArray, List.getElem_cons_succ, List.getElem_cons_zero, List.setIfInBounds_toArray, List.set_cons_succ, List.set_cons_zero]
        refine wpAnyH_done (by kernel_rfl) ?_ _
        have hOF := hOe.store Se.hs 0 rfl (lT u2 D2 n c2).toArray
        have hyF := Sf.hs.bk 0 rfl
        go_wp2
        exact bodyPost_ret (v := .tuple #[.agg (lT u2 D2 n c2).toArray, v']) (results_two rfl _ _ Y _ _ _ _ rfl _ rfl hyF Tryz.underlying31 rfl (by kernel_rfl)) rfl ⟨D2, c2, _, rfl, HZ2.out, Sf.tail.tail.ts, hOF, Sf.2⟩

end Go.Proofs.YtnmnihlhcokjpaaGreatDoor

/- tellOwed: contract. -/
namespace Go.Proofs.YtnmnihlhcokjpaaGreatDoor
set_option maxRecDepth 100000
open Go.ChangeShapes Go.WideShapes Go.ChangeAt Go.RowKit
set_option linter.unusedVariables false
set_option linter.unusedSimpArgs false

/-- A port that may tell what it owes. -/
def owedR (t : Th) (L : List Po) (k : Nat) (p : Po) : Tk := if p.pe = true then ((t, (confR t L k).1), (confR t L k).2) else ((t, L), [])
theorem hold_is {s : Tk} {k : Nat} {p : Po} (h : s.1.2[k]? = some p) : holdS s k = ((owedR s.1.1 s.1.2 k p).1, s.2 ++ (owedR s.1.1 s.1.2 k p).2) := by
  unfold holdS owedR
  rw [h]
  dsimp only
  split
  · rfl
  · rw [List.append_nil]
set_option maxHeartbeats 4000000 in
theorem owed_is {w W : World} {l : List (Nat × TypeId × List Value)} (t : Th) (D : Option Addr) (n c : Nat) (L : List Po) (k : Nat) (p : Po) (hk : Hid (L[k]? = some p)) (hl : Hid (∀ y ∈ l, 83 ≠ y.2.1)) (hL : Hid (L.length = n)) (hf : n ≤ 200) (ht : Hid (ThB t)) (hn : Hid (-9223372036854775808 ≤ t.n1 ∧ t.n1 ≤ 9223372036854775807 ∧ -9223372036854775808 ≤ t.n2 ∧ t.n2 ≤ 9223372036854775807 ∧ -9223372036854775808 ≤ t.n3 ∧ t.n3 ≤ 9223372036854775807)) (hb : Hid (∀ x ∈ L, PoB x)) (hc : Hid (D = none → c = 0)) (hd : Hd w) (hS : TS w l D L W) :
    Calls Tryz.prog 52 #[.agg (lT t D n c).toArray, .int .i64 k] W (StepEnd w l n W (owedR t L k p)) := by
  have hkn : k < n := by have := po_lt hk.out; have := hL.out; omega
  have hki : (k : Int) < (n : Int) := by omega
  have hkz : ¬ (n : Int) ≤ (k : Int) := by omega
  obtain ⟨g, rfl, -⟩ := hS.at hk.out
  obtain ⟨R, hR⟩ : ∃ R, owedR t L k p = R := ⟨_, rfl⟩
  rw [hR]
  unfold owedR at hR
  obtain ⟨R1, hR1⟩ : ∃ R, confR t L k = R := ⟨_, rfl⟩
  rw [hR1] at hR
  have HR1 := Lib.hid hR1
  clear hR1
  have HR := Lib.hid hR
  clear hR
  obtain ⟨pb, hpb⟩ : ∃ b, p.pe = b := ⟨_, rfl⟩
  have HPB := Lib.hid hpb
  have HD := Lib.hid hd
  clear hd
  obtain ⟨wb, hwb, S⟩ := TF.two hS 31 31 (lT t (some ⟨g, 0, none⟩) n c) [.int .u64 0, .int .u64 0, .int .u32 0, .int .i64 0, .int .i64 0, .int .i64 0, .int .i64 0, .int .i64 0, .int .i64 0, .int .i64 0, .bool false, .bool false, .bool false, .int .i64 0, .bool false, .int .i64 0, .bool false, .int .i64 0, .slice none 0 0]
  have HSW := Lib.hid hS.old
  clear hS
  go_enter Tryz.func52, Tryz.ntmps52
  go_upto_region 1 with fail
  clear hwb
  obtain ⟨X, hX⟩ : ∃ q, W.heap.size = q := ⟨_, rfl⟩
  have HXW := Lib.hid (show W.heap.size ≤ X from Nat.le_of_eq hX)
  rw [hX] at S
  obtain ⟨Y, hY⟩ : ∃ q, X + 1 = q := ⟨_, rfl⟩
  have HYW := Lib.hid (show W.heap.size ≤ Y by rw [← hY]; exact Nat.le_succ_of_le HXW.out)
  rw [hY] at S
  rw [hX]
  rw [hY]
  clear hX hY
  have c18 := S.hs.cell 1 18 rfl rfl
  have p8 := S.ts.port_cell hk.out 8 rfl
  rw [HPB.out] at p8
  clear hpb
  have hr := HR.out
  rw [HPB.out] at hr
  cases pb with
  | false =>
    rw [if_neg (by decide)] at hr
    subst hr
    go_upto_region 2 with fail
    clear c18 p8
    have hx := S.hs.bk 1 rfl
    have hy := S.hs.bk 0 rfl
    have SF := S.row 0 rfl (lT t (some ⟨g, 0, none⟩) n c) HYW.out
    have hyF := SF.hs.bk 0 rfl
    go_wp2_with (first | (with_reducible refine wpList_load_row rfl 31 (.tmp 2) rfl X (by kernel_rfl) _ _ (0, 0) _ hx Tryz.underlying31 rfl (by kernel_rfl) ?_) | (refine wpList_store_row rfl 31 _ _ rfl Y _ rfl rfl _ _ hy (by kernel_rfl) (by kernel_rfl) (by kernel_rfl) ?_))
    exact bodyPost_ret (v := .tuple #[.agg (lT t (some ⟨g, 0, none⟩) n c).toArray, .slice none 0 0]) (results_two rfl _ _ Y _ _ _ _ rfl _ rfl hyF Tryz.underlying31 rfl (by kernel_rfl)) rfl ⟨_, c, _, rfl, hc.out, SF.tail.tail.ts, OutsR.nil _ _, SF.2⟩
  | true =>
    rw [if_pos rfl] at hr
    subst hr
    have HC := Lib.hid (sconf_is t (some ⟨g, 0, none⟩) n c L k (by omega) hL hf ht hn hb hc _ (HD.out.below S.old (Nat.le_refl _)) (Lib.hid S.ts.ports))
    rw [HR1.out] at HC
    go_upto_region 3 with fail
    clear c18 p8
    have hx := S.hs.bk 1 rfl
    go_wp2_with (with_reducible refine wpList_load_row rfl 31 (.tmp 2) rfl X (by kernel_rfl) _ _ (0, 0) _ hx Tryz.underlying31 rfl (by kernel_rfl) ?_)
    (with_reducible refine HC.out.mono ?_); rintro e w5 ⟨D1, c1, v, rfl, hz1, k5, hO⟩
    have S5 := S.take k5
    have hO5 := hO.mono S.since
    clear S hx HC k5 hO
    have hy := S5.hs.bk 0 rfl
    have SF := S5.row 0 rfl (lT t D1 n c1) HYW.out
    have hyF := SF.hs.bk 0 rfl
    have hOF := hO5.store S5.hs 0 rfl (lT t D1 n c1).toArray
    go_wp2_with (refine wpList_store_row rfl 31 _ _ rfl Y _ rfl rfl _ _ hy (by kernel_rfl) (by kernel_rfl) (by kernel_rfl) ?_)
    exact bodyPost_ret (v := .tuple #[.agg (lT t D1 n c1).toArray, v]) (results_two rfl _ _ Y _ _ _ _ rfl _ rfl hyF Tryz.underlying31 rfl (by kernel_rfl)) rfl ⟨D1, c1, _, rfl, hz1, SF.tail.tail.ts, hOF, SF.2⟩

end Go.Proofs.YtnmnihlhcokjpaaGreatDoor
