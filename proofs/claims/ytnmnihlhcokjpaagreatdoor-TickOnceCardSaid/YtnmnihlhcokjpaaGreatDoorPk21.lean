/- Several texts in one, one behind the other: HeardYield, HeardFollow, HeardTakes, HeardConf, SendAwake, SendLaw. -/
import Derived.Test.YtnmnihlhcokjpaaGreatDoorPk12
import Derived.Test.YtnmnihlhcokjpaaGreatDoorPk13
import Derived.Test.YtnmnihlhcokjpaaGreatDoorPk11
import Derived.Test.YtnmnihlhcokjpaaGreatDoorPk20
import Derived.Test.YtnmnihlhcokjpaaGreatDoorPk15
import Derived.Deep.DeepCutAuto
import Derived.Shelf.Abstract
import Derived.Test.YtnmnihlhcokjpaaGreatDoorPk02
import Derived.BigQuiet
import Derived.Deep.QuietTactic
import Derived.Test.YtnmnihlhcokjpaaGreatDoorPk06
import Derived.Test.YtnmnihlhcokjpaaGreatDoorPk18
import Derived.Test.YtnmnihlhcokjpaaGreatDoorPk09
import Derived.Test.YtnmnihlhcokjpaaGreatDoorPk17

/- yields: contract. -/
namespace Go.Proofs.YtnmnihlhcokjpaaGreatDoor
set_option maxRecDepth 100000
open Go.ChangeShapes Go.WideShapes Go.ChangeAt Go.RowKit
set_option linter.unusedVariables false
set_option linter.unusedSimpArgs false

/-- A bridge that takes itself for the root no more. -/
def yieldT (t : Th) : Th := if t.de = true then { t with ho := false, hv := 0, zo := false, zv := 0, xo := true, xv := 0 } else { t with ho := false, hv := 0 }
def yieldO (t : Th) (n : Nat) : List Ou := if t.de = true then tcnR t n else []
def YieldEnd (w : World) (t : Th) (A : Option Addr) (n cap : Nat) (e : Ending) (w' : World) : Prop := ∃ v, e = .returned (.tuple #[.agg (lT (yieldT t) A n cap).toArray, v]) ∧ OutsR w' w.heap.size v (yieldO t n) ∧ Below w.heap.size w w'
theorem late_yield {rb : Bool} {u : Th} (h : (rb && (u.ro != u.ow)) = true) : lateT rb u = yieldT u ∧ ∀ n, lateO rb u n = yieldO u n := late_yes h
theorem yield_few (t : Th) (n : Nat) : (yieldO t n).length ≤ 1 := by
  unfold yieldO
  split
  · exact tcn_few _ _
  · simp

set_option maxHeartbeats 2000000 in
theorem yields_is (t : Th) (A : Option Addr) (n cap : Nat) (ht : Hid (ThB t)) (w : World) (hd : Hd w) :
    Calls Tryz.prog 76 #[.agg (lT t A n cap).toArray] w (YieldEnd w t A n cap) := by
  unfold YieldEnd
  obtain ⟨TT, hTT⟩ : ∃ q, yieldT t = q := ⟨_, rfl⟩
  obtain ⟨R, hR⟩ : ∃ R, yieldO t n = R := ⟨_, rfl⟩
  rw [hTT, hR]
  have HTT := Lib.hid hTT
  have HR := Lib.hid hR
  clear hTT hR
  have HD := Lib.hid hd
  clear hd
  obtain ⟨wb, hwb, S⟩ := hs_two w 31 31 (lT t A n cap) [.int .u64 0, .int .u64 0, .int .u32 0, .int .i64 0, .int .i64 0, .int .i64 0, .int .i64 0, .int .i64 0, .int .i64 0, .int .i64 0, .bool false, .bool false, .bool false, .int .i64 0, .bool false, .int .i64 0, .bool false, .int .i64 0, .slice none 0 0]
  go_enter Tryz.func76, Tryz.ntmps76
  go_upto_region 1 with fail
  clear hwb
  obtain ⟨X, hX⟩ : ∃ q, w.heap.size = q := ⟨_, rfl⟩
  rw [hX] at S
  obtain ⟨Y, hY⟩ : ∃ q, X + 1 = q := ⟨_, rfl⟩
  rw [hY] at S
  rw [hX]
  rw [hY]
  clear hX hY
  go_wp2_with fail
  (with_reducible refine (stop_is _).mono ?_); rintro e w1 ⟨rfl, b1⟩
  have S1 := S.below b1
  clear S b1
  have c12 := S1.cell 1 12 rfl rfl
  have f12 := S1.thaw 1 12 rfl
  have c13 := S1.cell 1 13 rfl rfl
  have f13 := S1.thaw 1 13 rfl
  go_upto_region 2 with fail
  have S2 : Hs w [(Y, 31, [.int .u64 0, .int .u64 0, .int .u32 0, .int .i64 0, .int .i64 0, .int .i64 0, .int .i64 0, .int .i64 0, .int .i64 0, .int .i64 0, .bool false, .bool false, .bool false, .int .i64 0, .bool false, .int .i64 0, .bool false, .int .i64 0, .slice none 0 0]), (X, 31, lT ({ t with ho := false, hv := 0 } : Th) A n cap)] ((w1.setCell ⟨X, 12, none⟩ (.bool false)).setCell ⟨X, 13, none⟩ (.int .i64 0)) := ((S1).set 1 rfl 12 (.bool false)).set 1 rfl 13 (.int .i64 0)
  generalize (w1.setCell ⟨X, 12, none⟩ (.bool false)).setCell ⟨X, 13, none⟩ (.int .i64 0) = w2 at S2 ⊢
  clear S1  c12 f12 c13 f13 
  have c10 := S2.cell 1 10 rfl rfl
  obtain ⟨de, hde⟩ : ∃ d, t.de = d := ⟨_, rfl⟩
  rw [hde] at c10
  cases de with
  | false =>
    obtain rfl : ({ t with ho := false, hv := 0 } : Th) = TT := by rw [← HTT.out, yieldT, if_neg (by rw [hde]; decide)]
    obtain rfl : [] = R := by rw [← HR.out, yieldO, if_neg (by rw [hde]; decide)]
    clear hde
    have hx := S2.bk 1 rfl
    have hy := S2.bk 0 rfl
    have S5 := S2.row 0 rfl (lT ({ t with ho := false, hv := 0 } : Th) A n cap)
    have hyF := S5.bk 0 rfl
    go_wp2_with (first | (with_reducible refine wpList_load_row rfl 31 (.tmp 1) rfl X (by kernel_rfl) _ _ (0, 0) _ hx Tryz.underlying31 rfl (by kernel_rfl) ?_) | (refine wpList_store_row rfl 31 _ _ rfl Y _ rfl rfl _ _ hy (by kernel_rfl) (by kernel_rfl) (by kernel_rfl) ?_))
    exact bodyPost_ret (v := .tuple #[.agg (lT ({ t with ho := false, hv := 0 } : Th) A n cap).toArray, .slice none 0 0]) (results_two rfl _ _ Y _ _ _ _ rfl _ rfl hyF Tryz.underlying31 rfl (by kernel_rfl)) rfl ⟨_, rfl, OutsR.nil _ _, S5.old⟩
  | true =>
    obtain rfl : ({ t with ho := false, hv := 0, zo := false, zv := 0, xo := true, xv := 0 } : Th) = TT := by rw [← HTT.out, yieldT, if_pos hde]
    obtain rfl : tcnR t n = R := by rw [← HR.out, yieldO, if_pos hde]
    clear hde
    go_upto_region 4 with fail
    clear c10
    go_wp2_with fail
    (with_reducible refine (stop_is _).mono ?_); rintro e w3 ⟨rfl, b3⟩
    have S3 := S2.below b3
    clear S2 b3
    have c16 := S3.cell 1 16 rfl rfl
    have f16 := S3.thaw 1 16 rfl
    have c17 := S3.cell 1 17 rfl rfl
    have f17 := S3.thaw 1 17 rfl
    go_upto_region 5 with fail
    have S4 : Hs w [(Y, 31, [.int .u64 0, .int .u64 0, .int .u32 0, .int .i64 0, .int .i64 0, .int .i64 0, .int .i64 0, .int .i64 0, .int .i64 0, .int .i64 0, .bool false, .bool false, .bool false, .int .i64 0, .bool false, .int .i64 0, .bool false, .int .i64 0, .slice none 0 0]), (X, 31, lT ({ t with ho := false, hv := 0, zo := false, zv := 0 } : Th) A n cap)] ((w3.setCell ⟨X, 16, none⟩ (.bool false)).setCell ⟨X, 17, none⟩ (.int .i64 0)) := ((S3).set 1 rfl 16 (.bool false)).set 1 rfl 17 (.int .i64 0)
    generalize (w3.setCell ⟨X, 16, none⟩ (.bool false)).setCell ⟨X, 17, none⟩ (.int .i64 0) = w4 at S4 ⊢
    clear S3  c16 f16 c17 f17 
    go_wp2_with fail
    (with_reducible refine (start0 _).mono ?_); rintro e w5 ⟨rfl, b5⟩
    have S5 := S4.below b5
    clear S4 b5
    have c14 := S5.cell 1 14 rfl rfl
    have f14 := S5.thaw 1 14 rfl
    have c15 := S5.cell 1 15 rfl rfl
    have f15 := S5.thaw 1 15 rfl
    go_upto_region 6 with fail
    have S6 : Hs w [(Y, 31, [.int .u64 0, .int .u64 0, .int .u32 0, .int .i64 0, .int .i64 0, .int .i64 0, .int .i64 0, .int .i64 0, .int .i64 0, .int .i64 0, .bool false, .bool false, .bool false, .int .i64 0, .bool false, .int .i64 0, .bool false, .int .i64 0, .slice none 0 0]), (X, 31, lT ({ t with ho := false, hv := 0, zo := false, zv := 0, xo := true, xv := 0 } : Th) A n cap)] ((w5.setCell ⟨X, 14, none⟩ (.bool true)).setCell ⟨X, 15, none⟩ (.int .i64 0)) := ((S5).set 1 rfl 14 (.bool true)).set 1 rfl 15 (.int .i64 0)
    generalize (w5.setCell ⟨X, 14, none⟩ (.bool true)).setCell ⟨X, 15, none⟩ (.int .i64 0) = w6 at S6 ⊢
    clear S5  c14 f14 c15 f15 
    have HTC := fun W h => Lib.hid (stcn_is ({ t with ho := false, hv := 0, zo := false, zv := 0, xo := true, xv := 0 } : Th) A n cap (Lib.hid (show ThB ({ t with ho := false, hv := 0, zo := false, zv := 0, xo := true, xv := 0 } : Th) from ht.out)) W h)
    refine wp_region_held_drew (S := (fun w' => Bk w' X 31 (lT ({ t with ho := false, hv := 0, zo := false, zv := 0, xo := true, xv := 0 } : Th) A n cap))) (by kernel_rfl) ((S6.1 1 _ _ _ rfl).1) (fun hHeld => ?_)
    have S7 := S6.below (wy := World.drew _) ((Below.refl _ _).drew)
    obtain ⟨v7, hv7⟩ : ∃ v, w6.drew = v := ⟨_, rfl⟩
    rw [hv7] at S7 hHeld ⊢
    clear hv7 S6
    refine wpAnyH_take (i := 0) (v := _) rfl (by kernel_rfl) (by kernel_rfl) (by kernel_rfl) (fun _ _ _ h => h) (Or.inl ⟨by kernel_rfl, fun w' hSw => exec_load_row 31 _ rfl X (by kernel_rfl) _ _ (0, 0) _ (hSw) Tryz.underlying31 rfl (by kernel_rfl)⟩) (by assumption) ?_
    try simp only [Act.put, List.getElem_toArray, List.getElem_cons_succ, List.getElem_cons_zero, List.setIfInBounds_toArray, List.set_cons_succ, List.set_cons_zero]
    refine wpAnyH_take (i := 1) (v := _) rfl (by kernel_rfl) (by kernel_rfl) (by kernel_rfl) (fun _ _ _ h => h) (Or.inl ⟨by kernel_rfl, fun w' hSw => exec_load_row 31 _ rfl X (by kernel_rfl) _ _ (0, 0) _ (hSw) Tryz.underlying31 rfl (by kernel_rfl)⟩) (by assumption) ?_
    try simp only [Act.put, List.getElem_toArray, List.getElem_cons_succ, List.getElem_cons_zero, List.setIfInBounds_toArray, List.set_cons_succ, List.set_cons_zero]
    refine wpAnyH_ready (rs := [2]) (by kernel_rfl) (by simp) ?_
    refine AllReadyH.cons rfl (fun K hK => ?_) AllReadyH.nil
    go_simp
    (with_reducible refine (HTC _ (HD.out.below S7.old (Nat.le_refl _))).out.mono ?_); rintro e w8 ⟨v, rfl, hO, b8⟩
    have S8 := S7.below b8
    refine hK.out _ _ ((S8.1 1 _ _ _ rfl).1) (fun hHeld => ?_)
    clear hK K
    try simp only [Act.put, List.getElem_toArray, List.getElem_cons_succ, List.getElem_cons_zero, List.setIfInBounds_toArray, List.set_cons_succ, List.set_cons_zero]
    have hy := S8.bk 0 rfl
    refine wpAnyH_ready (rs := [3]) (by kernel_rfl) (by simp) ?_
    refine AllReadyH.cons rfl (fun K hK => ?_) AllReadyH.nil
    refine exec_if_store (by kernel_rfl) 31 (.tmp 2) (.tmp 14) rfl Y (lT ({ t with ho := false, hv := 0, zo := false, zv := 0, xo := true, xv := 0 } : Th) A n cap).toArray (by kernel_rfl) (by kernel_rfl) _ _ hy (by kernel_rfl) (by kernel_rfl) (by kernel_rfl) ?_
    have S9 := S8.row 0 rfl (lT ({ t with ho := false, hv := 0, zo := false, zv := 0, xo := true, xv := 0 } : Th) A n cap)
    refine hK.out _ _ ((S9.1 1 _ _ _ rfl).1) (fun hHeld => ?_)
    clear hK K
    try simp only [Act.put, List.getElem_toArray, List.getElem_cons_succ, List.getElem_cons_zero, List.setIfInBounds_toArray, List.set_cons_succ, List.set_cons_zero]
    refine wpAnyH_take (i := 4) (v := ?_) rfl (by kernel_rfl) (by kernel_rfl) (by kernel_rfl) (fun _ _ _ h => h) (Or.inl ⟨by kernel_rfl, ?_⟩) (by assumption) ?_
    rotate_left
    · intro w' hSw; (try dsimp only at hSw); go_simp; with_reducible rfl
    try simp only [Act.put, List.getElem_toArray, List.getElem_cons_succ, List.getElem_cons_zero, List.setIfInBounds_toArray, List.set_cons_succ, List.set_cons_zero]
    refine wpAnyH_done (by kernel_rfl) ?_ _
    have hOF := (hO.mono S7.old.size).store S8 0 rfl (lT ({ t with ho := false, hv := 0, zo := false, zv := 0, xo := true, xv := 0 } : Th) A n cap).toArray
    have hyF := S9.bk 0 rfl
    go_wp2
    exact bodyPost_ret (v := .tuple #[.agg (lT ({ t with ho := false, hv := 0, zo := false, zv := 0, xo := true, xv := 0 } : Th) A n cap).toArray, v]) (results_two rfl _ _ Y _ _ _ _ rfl _ rfl hyF Tryz.underlying31 rfl (by kernel_rfl)) rfl ⟨v, rfl, hOF, S9.old⟩

end Go.Proofs.YtnmnihlhcokjpaaGreatDoor

/- follows: contract. -/
namespace Go.Proofs.YtnmnihlhcokjpaaGreatDoor
set_option maxRecDepth 100000
open Go.ChangeShapes Go.WideShapes Go.ChangeAt Go.RowKit
set_option linter.unusedVariables false
set_option linter.unusedSimpArgs false

set_option maxHeartbeats 2000000 in
theorem follows_is (t : Th) (A : Option Addr) (n cap : Nat) (L : List Po) (x : Bq) (hxb : Hid (BqIn x)) (hL : Hid (L.length = n)) (hf : n ≤ 200) (ht : Hid (ThB t)) (hb : Hid (∀ x ∈ L, PoB x)) (hc : Hid (A = none → cap = 0)) (w : World) (hd : Hd w) (hp : Hid (PoAt w A w.heap.size L)) :
    Calls Tryz.prog 77 #[.agg (lT t A n cap).toArray, .agg (lB x).toArray] w (ConfEnd w (ackedT (toldT t x) x) n (allR (toldT t x) L n)) := by
  have HD := Lib.hid hd
  clear hd
  obtain ⟨R, hR⟩ : ∃ R, allR (toldT t x) L n = R := ⟨_, rfl⟩
  rw [hR]
  have HRL := Lib.hid (show R.1.length = n by rw [← hR, (allR_bd (t := toldT t x) hb.out n).1]; exact hL.out)
  have HRR := Lib.hid hR
  clear hR
  obtain ⟨TT, hTT⟩ : ∃ q, ackedT (toldT t x) x = q := ⟨_, rfl⟩
  rw [hTT]
  have HTT := Lib.hid hTT
  clear hTT
  have hxB := hxb.out
  unfold BqIn BpIn at hxB
  have hw_ma : IntKind.i64.wrap x.ma = x.ma := by simp [IntKind.wrap, IntKind.bits, IntKind.signed]; omega
  have hw_he : IntKind.i64.wrap x.he = x.he := by simp [IntKind.wrap, IntKind.bits, IntKind.signed]; omega
  have hw_de : IntKind.i64.wrap x.de = x.de := by simp [IntKind.wrap, IntKind.bits, IntKind.signed]; omega
  have HNT := Lib.hid (show (-9223372036854775808 ≤ (toldT t x).n1 ∧ (toldT t x).n1 ≤ 9223372036854775807 ∧ -9223372036854775808 ≤ (toldT t x).n2 ∧ (toldT t x).n2 ≤ 9223372036854775807 ∧ -9223372036854775808 ≤ (toldT t x).n3 ∧ (toldT t x).n3 ≤ 9223372036854775807) from by unfold toldT; dsimp only; omega)
  have HTB := Lib.hid (show ThB (toldT t x) from ht.out)
  clear hxB
  obtain ⟨wb, hwb, S⟩ := hs_three w 31 46 31 (lT t A n cap) (lB x) [.int .u64 0, .int .u64 0, .int .u32 0, .int .i64 0, .int .i64 0, .int .i64 0, .int .i64 0, .int .i64 0, .int .i64 0, .int .i64 0, .bool false, .bool false, .bool false, .int .i64 0, .bool false, .int .i64 0, .bool false, .int .i64 0, .slice none 0 0]
  go_enter Tryz.func77, Tryz.ntmps77
  go_upto_region 1 with fail
  clear hwb
  obtain ⟨X, hX⟩ : ∃ q, w.heap.size = q := ⟨_, rfl⟩
  rw [hX] at S
  obtain ⟨B, hB⟩ : ∃ q, X + 1 = q := ⟨_, rfl⟩
  rw [hB] at S
  obtain ⟨Y, hY⟩ : ∃ q, B + 1 = q := ⟨_, rfl⟩
  rw [hY] at S
  rw [hX]
  rw [hB]
  rw [hY]
  clear hX hB hY
  have b8 := S.cell 1 8 rfl rfl
  have b9 := S.cell 1 9 rfl rfl
  have b10 := S.cell 1 10 rfl rfl
  have c4 := S.cell 2 4 rfl rfl
  have f4 := S.thaw 2 4 rfl
  have c5 := S.cell 2 5 rfl rfl
  have f5 := S.thaw 2 5 rfl
  have c6 := S.cell 2 6 rfl rfl
  have f6 := S.thaw 2 6 rfl
  go_upto_region 2 with fail
  have S1 : Hs w [(Y, 31, [.int .u64 0, .int .u64 0, .int .u32 0, .int .i64 0, .int .i64 0, .int .i64 0, .int .i64 0, .int .i64 0, .int .i64 0, .int .i64 0, .bool false, .bool false, .bool false, .int .i64 0, .bool false, .int .i64 0, .bool false, .int .i64 0, .slice none 0 0]), (B, 46, lB x), (X, 31, lT ({ t with n1 := x.ma, n2 := x.he, n3 := x.de } : Th) A n cap)] (((wb.setCell ⟨X, 4, none⟩ (.int .i64 x.ma)).setCell ⟨X, 5, none⟩ (.int .i64 x.he)).setCell ⟨X, 6, none⟩ (.int .i64 x.de)) := (((S).set 2 rfl 4 (.int .i64 x.ma)).set 2 rfl 5 (.int .i64 x.he)).set 2 rfl 6 (.int .i64 x.de)
  generalize ((wb.setCell ⟨X, 4, none⟩ (.int .i64 x.ma)).setCell ⟨X, 5, none⟩ (.int .i64 x.he)).setCell ⟨X, 6, none⟩ (.int .i64 x.de) = w1 at S1 ⊢
  clear S  c4 f4 c5 f5 c6 f6 b8 b9 b10 hw_ma hw_he hw_de
  have b1 := S1.cell 1 1 rfl rfl
  have c11 := S1.cell 2 11 rfl rfl
  have f11 := S1.thaw 2 11 rfl
  go_upto_region 3 with fail
  have S2 : Hs w [(Y, 31, [.int .u64 0, .int .u64 0, .int .u32 0, .int .i64 0, .int .i64 0, .int .i64 0, .int .i64 0, .int .i64 0, .int .i64 0, .int .i64 0, .bool false, .bool false, .bool false, .int .i64 0, .bool false, .int .i64 0, .bool false, .int .i64 0, .slice none 0 0]), (B, 46, lB x), (X, 31, lT (toldT t x) A n cap)] (w1.setCell ⟨X, 11, none⟩ (.bool x.ch)) := (S1).set 2 rfl 11 (.bool x.ch)
  generalize w1.setCell ⟨X, 11, none⟩ (.bool x.ch) = w2 at S2 ⊢
  clear S1  c11 f11 b1
  have HC := Lib.hid (sall_ts (toldT t x) A n cap L hL hf HTB HNT hb hc w2 (HD.out.below S2.old (Nat.le_refl _)) (Lib.hid ((hp.out.below S2.old (Nat.le_refl _)).wide S2.old.size)))
  rw [HRR.out] at HC
  have hx := S2.bk 2 rfl
  go_wp2_with (with_reducible refine wpList_load_row rfl 31 (.tmp 2) rfl X (by kernel_rfl) _ _ (0, 0) _ hx Tryz.underlying31 rfl (by kernel_rfl) ?_)
  (with_reducible refine HC.out.mono ?_); rintro e w3 ⟨D, c2, v, rfl, hz, k3, hO⟩
  have S3 := TS.take S2 k3
  have HZ := Lib.hid hz
  have hO3 := hO.mono S2.old.size
  clear S2 hx HC k3 hz hO
  have hx := S3.hs.bk 2 rfl
  go_upto_region 4 with (refine wpList_store_row rfl 31 _ _ rfl X _ rfl rfl _ _ hx (by kernel_rfl) (by kernel_rfl) (by kernel_rfl) ?_)
  have S4 : TS w [(Y, 31, [.int .u64 0, .int .u64 0, .int .u32 0, .int .i64 0, .int .i64 0, .int .i64 0, .int .i64 0, .int .i64 0, .int .i64 0, .int .i64 0, .bool false, .bool false, .bool false, .int .i64 0, .bool false, .int .i64 0, .bool false, .int .i64 0, .slice none 0 0]), (B, 46, lB x), (X, 31, lT (toldT t x) D n c2)] D R.1 _ := S3.row 2 rfl (lT (toldT t x) D n c2)
  have hO4 := hO3.store S3.hs 2 rfl (lT (toldT t x) D n c2).toArray
  generalize w3.setRow X (lT (toldT t x) D n c2).toArray = w4 at S4 hO4 ⊢
  clear S3 hO3 hx
  have b2 := S4.hs.cell 1 2 rfl rfl
  obtain ⟨ak, hak⟩ : ∃ q, x.ak = q := ⟨_, rfl⟩
  rw [hak] at b2
  cases ak with
  | false =>
    obtain rfl : toldT t x = TT := by rw [← HTT.out, ackedT, if_neg (by rw [hak]; decide)]
    clear hak
    have hx := S4.hs.bk 2 rfl
    have hy := S4.hs.bk 0 rfl
    have S5 := S4.row 0 rfl (lT (toldT t x) D n c2)
    have hyF := S5.hs.bk 0 rfl
    have hOF := hO4.store S4.hs 0 rfl (lT (toldT t x) D n c2).toArray
    go_wp2_with (first | (with_reducible refine wpList_load_row rfl 31 (.tmp 2) rfl X (by kernel_rfl) _ _ (0, 0) _ hx Tryz.underlying31 rfl (by kernel_rfl) ?_) | (refine wpList_store_row rfl 31 _ _ rfl Y _ rfl rfl _ _ hy (by kernel_rfl) (by kernel_rfl) (by kernel_rfl) ?_))
    exact bodyPost_ret (v := .tuple #[.agg (lT (toldT t x) D n c2).toArray, v]) (results_two rfl _ _ Y _ _ _ _ rfl _ rfl hyF Tryz.underlying31 rfl (by kernel_rfl)) rfl ⟨D, c2, _, rfl, HZ.out, S5.nobox, hOF⟩
  | true =>
    obtain rfl : ({ toldT t x with de := false, xo := false, xv := 0 } : Th) = TT := by rw [← HTT.out, ackedT, if_pos hak]
    clear hak
    have HC := Lib.hid (acked_is (toldT t x) D n c2 R.1 HRL hf HZ w4 (Lib.hid S4.ports))
    go_upto_region 5 with fail
    clear b2
    have hx := S4.hs.bk 2 rfl
    go_wp2_with (with_reducible refine wpList_load_row rfl 31 (.tmp 2) rfl X (by kernel_rfl) _ _ (0, 0) _ hx Tryz.underlying31 rfl (by kernel_rfl) ?_)
    (with_reducible refine HC.out.mono ?_); rintro e w5 ⟨D3, c3, rfl, hz3, k5⟩
    have S5 := TS.take S4.hs k5
    have HZ3 := Lib.hid hz3
    have hO5 := hO4.below k5.old
    clear S4 hx HC k5 hz3 hO4
    have hx := S5.hs.bk 2 rfl
    go_upto_region 6 with (refine wpList_store_row rfl 31 _ _ rfl X _ rfl rfl _ _ hx (by kernel_rfl) (by kernel_rfl) (by kernel_rfl) ?_)
    have S6 : TS w [(Y, 31, [.int .u64 0, .int .u64 0, .int .u32 0, .int .i64 0, .int .i64 0, .int .i64 0, .int .i64 0, .int .i64 0, .int .i64 0, .int .i64 0, .bool false, .bool false, .bool false, .int .i64 0, .bool false, .int .i64 0, .bool false, .int .i64 0, .slice none 0 0]), (B, 46, lB x), (X, 31, lT ({ toldT t x with de := false, xo := false, xv := 0 } : Th) D3 n c3)] D3 R.1 _ := S5.row 2 rfl (lT ({ toldT t x with de := false, xo := false, xv := 0 } : Th) D3 n c3)
    have hO6 := hO5.store S5.hs 2 rfl (lT ({ toldT t x with de := false, xo := false, xv := 0 } : Th) D3 n c3).toArray
    generalize w5.setRow X (lT ({ toldT t x with de := false, xo := false, xv := 0 } : Th) D3 n c3).toArray = w6 at S6 hO6 ⊢
    clear S5 hO5 hx
    have hx := S6.hs.bk 2 rfl
    have hy := S6.hs.bk 0 rfl
    have S7 := S6.row 0 rfl (lT ({ toldT t x with de := false, xo := false, xv := 0 } : Th) D3 n c3)
    have hyF := S7.hs.bk 0 rfl
    have hOF := hO6.store S6.hs 0 rfl (lT ({ toldT t x with de := false, xo := false, xv := 0 } : Th) D3 n c3).toArray
    go_wp2_with (first | (with_reducible refine wpList_load_row rfl 31 (.tmp 2) rfl X (by kernel_rfl) _ _ (0, 0) _ hx Tryz.underlying31 rfl (by kernel_rfl) ?_) | (refine wpList_store_row rfl 31 _ _ rfl Y _ rfl rfl _ _ hy (by kernel_rfl) (by kernel_rfl) (by kernel_rfl) ?_))
    exact bodyPost_ret (v := .tuple #[.agg (lT ({ toldT t x with de := false, xo := false, xv := 0 } : Th) D3 n c3).toArray, v]) (results_two rfl _ _ Y _ _ _ _ rfl _ rfl hyF Tryz.underlying31 rfl (by kernel_rfl)) rfl ⟨D3, c3, _, rfl, HZ3.out, S7.nobox, hOF⟩

end Go.Proofs.YtnmnihlhcokjpaaGreatDoor

/- takes: contract. -/
namespace Go.Proofs.YtnmnihlhcokjpaaGreatDoor
set_option maxRecDepth 100000
open Go.ChangeShapes Go.WideShapes Go.ChangeAt Go.RowKit
set_option linter.unusedVariables false
set_option linter.unusedSimpArgs false

theorem Hs.drewB {w wx : World} {l : List (Nat × TypeId × List Value)} (h : Hs w l wx) (k : Nat) {g : Nat} {T : TypeId} {cs : List Value} (hk : l[k]? = some (g, T, cs)) : Bk wx g T cs := (h.1 k g T cs hk).1
set_option maxHeartbeats 8000000 in
theorem takes_is (t : Th) (A : Option Addr) (n cap : Nat) (L : List Po) (k : Nat) (p : Po) (x : Bq) (hk : Hid (L[k]? = some p)) (hxb : Hid (BqIn x)) (hL : Hid (L.length = n)) (hf : n ≤ 200) (ht : Hid (ThB t)) (hb : Hid (∀ x ∈ L, PoB x)) (hc : Hid (A = none → cap = 0)) (w : World) (hd : Hd w) (hp : Hid (PoAt w A w.heap.size L)) :
    Calls Tryz.prog 38 #[.agg (lT t A n cap).toArray, .int .i64 k, .agg (lB x).toArray] w (ConfEnd w (tookR t L k p x).1.1 n ((tookR t L k p x).1.2, (tookR t L k p x).2)) := by
  have HD := Lib.hid hd
  clear hd
  obtain ⟨S0, hS0⟩ : ∃ S0, tookR t L k p x = S0 := ⟨_, rfl⟩
  rw [hS0]
  have HS0 := Lib.hid hS0
  clear hS0
  obtain ⟨rb, hrb⟩ : ∃ b, decide (t.ro = t.ow) = b := ⟨_, rfl⟩
  have HI := fun W => Lib.hid (isroot_is t A n cap rb (Lib.hid hrb) W)
  have HRB := Lib.hid hrb
  clear hrb
  obtain ⟨sr, hsr⟩ : ∃ s, settleR t (L.set k (heldP p x)) = s := ⟨_, rfl⟩
  have HSR := Lib.hid hsr
  have HL2 := Lib.hid (show (L.set k (heldP p x)).length = n from set_len hL.out)
  have HB2 := Lib.hid (show ∀ z ∈ L.set k (heldP p x), PoB z from set_bd hb.out (held_bd (hb.out p (List.mem_of_getElem? hk.out)) hxb.out))
  have HTU := Lib.hid (show ThB sr.1.1 by rw [← hsr]; exact settle_bd (by rw [HL2.out]; exact hf) ht.out HB2.out)
  have HM := Lib.hid (show sr.1.2.length = n by rw [← hsr]; exact settle_n HL2.out)
  have HMB := Lib.hid (show ∀ z ∈ sr.1.2, PoB z by rw [← hsr]; exact settle_pb HB2.out (sel_bd (by rw [HL2.out]; exact hf) ht.out HB2.out))
  have HFW := Lib.hid (show sr.2.length ≤ 1 by rw [← hsr]; exact settle_few _ _)
  clear hsr
  obtain ⟨wb, hwb, S⟩ := hs_three w 31 46 31 (lT t A n cap) (lB x) [.int .u64 0, .int .u64 0, .int .u32 0, .int .i64 0, .int .i64 0, .int .i64 0, .int .i64 0, .int .i64 0, .int .i64 0, .int .i64 0, .bool false, .bool false, .bool false, .int .i64 0, .bool false, .int .i64 0, .bool false, .int .i64 0, .slice none 0 0]
  go_enter Tryz.func38, Tryz.ntmps38
  go_upto_region 1 with fail
  clear hwb
  obtain ⟨X, hX⟩ : ∃ q, w.heap.size = q := ⟨_, rfl⟩
  rw [hX] at S
  obtain ⟨B, hB⟩ : ∃ q, X + 1 = q := ⟨_, rfl⟩
  rw [hB] at S
  obtain ⟨Y, hY⟩ : ∃ q, B + 1 = q := ⟨_, rfl⟩
  rw [hY] at S
  rw [hX]
  rw [hB]
  rw [hY]
  clear hX hB hY
  have hx := S.bk 2 rfl
  go_wp2_with (with_reducible refine wpList_load_row rfl 31 (.tmp 3) rfl X (by kernel_rfl) _ _ (0, 0) _ hx Tryz.underlying31 rfl (by kernel_rfl) ?_)
  (with_reducible refine (HI _).out.mono ?_); rintro e w1 ⟨rfl, b1⟩
  have S1 := S.below b1
  clear S hx HI b1
  have HC := Lib.hid (with_is t A n cap L k p (heldP p x) hk 75 #[.pointer (some ⟨B, 0, none⟩)] (enters_of Tryz.func75 (by kernel_rfl) rfl) hL hf hc w1 (Lib.hid (takes1_ok hk.out hxb.out w1 (S1.1 1 _ _ _ rfl).1)) (Lib.hid ((hp.out.below S1.old (Nat.le_refl _)).wide S1.old.size)))
  go_upto_region 2 with fail
  have hx := S1.bk 2 rfl
  go_wp2_with (with_reducible refine wpList_load_row rfl 31 (.tmp 3) rfl X (by kernel_rfl) _ _ (0, 0) _ hx Tryz.underlying31 rfl (by kernel_rfl) ?_)
  (with_reducible refine HC.out.mono ?_); rintro e w2 ⟨D1, c1, rfl, hz1, k1⟩
  have S2 := TS.take S1 k1
  have HZ1 := Lib.hid hz1
  clear S1 hx HC k1 hz1
  have HC := Lib.hid (hsettle_is t D1 n c1 (L.set k (heldP p x)) HL2 hf ht HB2 HZ1 w2 (HD.out.below S2.old (Nat.le_refl _)) (Lib.hid S2.ports))
  rw [HSR.out] at HC
  go_wp2_with fail
  (with_reducible refine HC.out.mono ?_); rintro e w3 ⟨D2, c2, v, rfl, hz2, k2, hO⟩
  have S3 := TS.take S2.hs k2
  have hO3 := hO.mono S2.old.size
  have HZ2 := Lib.hid hz2
  clear S2 HC k2 hz2 hO
  obtain ⟨u, hu⟩ : ∃ u, sr.1.1 = u := ⟨_, rfl⟩
  rw [hu] at HTU ⊢
  have HUE := Lib.hid hu
  clear hu
  have hx := S3.hs.bk 2 rfl
  go_upto_region 3 with (refine wpList_store_row rfl 31 _ _ rfl X _ rfl rfl _ _ hx (by kernel_rfl) (by kernel_rfl) (by kernel_rfl) ?_)
  have S4 : TS w [(Y, 31, [.int .u64 0, .int .u64 0, .int .u32 0, .int .i64 0, .int .i64 0, .int .i64 0, .int .i64 0, .int .i64 0, .int .i64 0, .int .i64 0, .bool false, .bool false, .bool false, .int .i64 0, .bool false, .int .i64 0, .bool false, .int .i64 0, .slice none 0 0]), (B, 46, lB x), (X, 31, lT u D2 n c2)] D2 sr.1.2 _ := S3.row 2 rfl (lT u D2 n c2)
  have hO4 := hO3.store S3.hs 2 rfl (lT u D2 n c2).toArray
  generalize w3.setRow X (lT u D2 n c2).toArray = w4 at S4 hO4 ⊢
  clear S3 hO3 hx
  obtain ⟨lb, hlb⟩ : ∃ b, (rb && (u.ro != u.ow)) = b := ⟨_, rfl⟩
  have HLB := Lib.hid hlb
  clear hlb
  go_cut [29] (fun q wx => q = .bool lb ∧ TS w [(Y, 31, [.int .u64 0, .int .u64 0, .int .u32 0, .int .i64 0, .int .i64 0, .int .i64 0, .int .i64 0, .int .i64 0, .int .i64 0, .int .i64 0, .bool false, .bool false, .bool false, .int .i64 0, .bool false, .int .i64 0, .bool false, .int .i64 0, .slice none 0 0]), (B, 46, lB x), (X, 31, lT u D2 n c2)] D2 sr.1.2 wx ∧ OutsR wx w.heap.size v sr.2)
  case first =>
    have hlb := HLB.out
    cases rb with
    | false =>
      obtain rfl : false = lb := hlb
      go_wp2_with fail
      go_meet
      exact ⟨rfl, S4, hO4⟩
    | true =>
      obtain ⟨q, hq⟩ : ∃ b, decide (u.ro = u.ow) = b := ⟨_, rfl⟩
      have HI := fun W => Lib.hid (isroot_is u D2 n c2 q (Lib.hid hq) W)
      have hqb : (!q) = lb := by rw [← hlb, ← hq, Bool.true_and, Bool.eq_iff_iff]; simp
      have hx := S4.hs.bk 2 rfl
      clear hlb hq
      go_wp2_with (with_reducible refine wpList_load_rowG (by kernel_rfl) 31 (.tmp 3) rfl X (by kernel_rfl) _ _ (0, 0) _ hx Tryz.underlying31 rfl (by kernel_rfl) ?_)
      (with_reducible refine (HI _).out.mono ?_); rintro e w5 ⟨rfl, b5⟩
      have S5 := S4.below b5
      have hO5 := hO4.below b5
      clear S4 hO4 hx HI b5
      cases q with
      | true =>
        obtain rfl : false = lb := hqb
        go_wp2_with fail
        go_meet
        exact ⟨rfl, S5, hO5⟩
      | false =>
        obtain rfl : true = lb := hqb
        go_wp2_with fail
        go_meet
        exact ⟨rfl, S5, hO5⟩
  case rest =>
    obtain ⟨rfl, S5, hO5⟩ := hcut
    rename World => w5
    clear S4 hO4
    go_upto_if 29 with fail
    go_cut [9] (fun q wx => TS w [(Y, 31, [.int .u64 0, .int .u64 0, .int .u32 0, .int .i64 0, .int .i64 0, .int .i64 0, .int .i64 0, .int .i64 0, .int .i64 0, .int .i64 0, .bool false, .bool false, .bool false, .int .i64 0, .bool false, .int .i64 0, .bool false, .int .i64 0, .slice none 0 0]), (B, 46, lB x), (X, 31, lT (lateT rb u) D2 n c2)] D2 sr.1.2 wx ∧ OutsR wx w.heap.size q (sr.2 ++ lateO rb u n))
    case first =>
      have hlb := HLB.out
      cases lb with
      | false =>
        obtain ⟨q1, q2⟩ := late_no hlb
        clear hlb
        go_wp2_with fail
        go_meet
        rw [q1, q2 n, List.append_nil]
        exact ⟨S5, hO5⟩
      | true =>
        obtain ⟨q1, q2⟩ := late_yield hlb
        have Q1 := Lib.hid q1
        have Q2 := Lib.hid (q2 n)
        clear q1 q2 hlb
        have HYF := Lib.hid (yield_few u n)
        have HY := Lib.hid (yields_is u D2 n c2 HTU w5 (HD.out.below S5.old (Nat.le_refl _)))
        obtain ⟨yo, hyo⟩ : ∃ q, yieldO u n = q := ⟨_, rfl⟩
        obtain ⟨yt, hyt⟩ : ∃ q, yieldT u = q := ⟨_, rfl⟩
        unfold YieldEnd at HY
        rw [hyo] at HY HYF
        rw [hyt] at HY
        have HYO := Lib.hid hyo
        have HYT := Lib.hid hyt
        clear hyo hyt
        have hx := S5.hs.bk 2 rfl
        go_upto_region 4 with fail
        go_wp2_with (with_reducible refine wpList_load_row rfl 31 (.tmp 3) rfl X (by kernel_rfl) _ _ (0, 0) _ hx Tryz.underlying31 rfl (by kernel_rfl) ?_)
        (with_reducible refine HY.out.mono ?_); rintro e w6 ⟨v3, rfl, hO3, b6⟩
        have S6 := S5.below b6
        have hO6 := hO5.below b6
        have HWQ := Lib.hid (show w.heap.size ≤ w5.heap.size from S5.old.size)
        clear S5 hO5 hx HY b6
        go_upto_region 5 with (refine wpList_store_row rfl 31 _ _ rfl _ _ rfl rfl _ _ (heap_alloc_new _ _) (by kernel_rfl) (by kernel_rfl) (by kernel_rfl) ?_)
        rw [alloc_row]
        have bN := new_below w6 (.cells (lT yt D2 n c2).toArray 31)
        have S7 := S6.al rfl 31 (lT yt D2 n c2)
        have hO7 := hO6.below bN
        have hQ7 := hO3.below bN
        obtain ⟨V, hV⟩ : ∃ q, w6.heap.size = q := ⟨_, rfl⟩
        rw [hV] at S7 ⊢
        obtain ⟨w7, hw7⟩ : ∃ y, w6.alloc (.cells (lT yt D2 n c2).toArray 31) = y := ⟨_, rfl⟩
        rw [hw7] at S7 hO7 hQ7 ⊢
        clear hw7 hV bN S6 hO6 hO3
        have hlen : sr.2.length + yo.length ≤ 100000 := by have h1 := HFW.out; have h2 := HYF.out; omega
        refine wp_region_held_drew (S := (fun w' => Bk w' V 31 (lT yt D2 n c2))) (by kernel_rfl) ((S7.hs.drewB 0 rfl)) (fun hHeld => ?_)
        have Sd := S7.below ((Below.refl _ _).drew)
        have hOd := hO7.below ((Below.refl _ _).drew)
        have hQd := hQ7.below ((Below.refl _ _).drew)
        obtain ⟨vd, hvd⟩ : ∃ y, w7.drew = y := ⟨_, rfl⟩
        rw [hvd] at Sd hOd hQd hHeld ⊢
        clear hvd S7 hO7 hQ7
        have hbd : w.heap.size ≤ vd.heap.size := Sd.old.size
        obtain ⟨_, _, hown⟩ := hOd.own
        refine wpAnyH_take (i := 0) (v := _) rfl (by kernel_rfl) (by kernel_rfl) (by kernel_rfl) (fun _ _ _ h => h) (Or.inl ⟨by kernel_rfl, fun w' hSw => exec_load_row 31 _ rfl V (by kernel_rfl) _ _ (0, 0) _ (hSw) Tryz.underlying31 rfl (by kernel_rfl)⟩) (by assumption) ?_
        try simp only [Act.put, List.getElem_toArray, List.getElem_cons_succ, List.getElem_cons_zero, List.setIfInBounds_toArray, List.set_cons_succ, List.set_cons_zero]
        refine wpAnyH_take (i := 1) (v := ?_) rfl (by kernel_rfl) (by kernel_rfl) (by kernel_rfl) (fun _ _ _ h => h) (Or.inl ⟨by kernel_rfl, ?_⟩) (by assumption) ?_
        rotate_left
        · intro w' hSw; (try dsimp only at hSw); go_simp; with_reducible rfl
        try simp only [Act.put, List.getElem_toArray, List.getElem_cons_succ, List.getElem_cons_zero, List.setIfInBounds_toArray, List.set_cons_succ, List.set_cons_zero]
        refine wpAnyH_take (i := 2) (v := ?_) rfl (by kernel_rfl) (by kernel_rfl) (by kernel_rfl) (fun _ _ _ h => h) (Or.inl ⟨by kernel_rfl, ?_⟩) (by assumption) ?_
        rotate_left
        · intro w' hSw; (try dsimp only at hSw); go_simp; with_reducible rfl
        try simp only [Act.put, List.getElem_toArray, List.getElem_cons_succ, List.getElem_cons_zero, List.setIfInBounds_toArray, List.set_cons_succ, List.set_cons_zero]
        refine wpAnyH_ready (rs := [3]) (by kernel_rfl) (by simp) ?_
        refine AllReadyH.cons rfl (fun K hK => ?_) AllReadyH.nil
        refine step_append_outs rfl (.tmp 36) (.tmp 37) (by kernel_rfl) w.heap.size w5.heap.size v v3 sr.2 yo (by kernel_rfl) (by kernel_rfl) hOd hQd HWQ.out hlen hbd ?_
        intro v' we hOe gr
        have Se := Sd.grownT hown gr (fun y hy => by simp only [List.mem_cons, List.not_mem_nil, or_false] at hy; rcases hy with rfl | rfl | rfl | rfl <;> (dsimp only; decide)) (Nat.le_refl _)
        clear Sd hOd hQd gr hown
        refine hK.out _ _ ((Se.hs.1 0 _ _ _ rfl).1) (fun hHeld => ?_)
        clear hK K
        try simp only [Act.put, List.getElem_toArray, List.getElem_cons_succ, List.getElem_cons_zero, List.setIfInBounds_toArray, List.set_cons_succ, List.set_cons_zero]
        have hy := Se.hs.bk 3 rfl
        refine wpAnyH_ready (rs := [4]) (by kernel_rfl) (by simp) ?_
        refine AllReadyH.cons rfl (fun K hK => ?_) AllReadyH.nil
        refine exec_if_store (by kernel_rfl) 31 (.tmp 3) (.tmp 35) rfl X (lT yt D2 n c2).toArray (by kernel_rfl) (by kernel_rfl) _ _ hy (by kernel_rfl) (by kernel_rfl) (by kernel_rfl) ?_
        have Sf := Se.row 3 rfl (lT yt D2 n c2)
        refine hK.out _ _ ((Sf.hs.1 0 _ _ _ rfl).1) (fun hHeld => ?_)
        clear hK K
        try simp only [Act.put, List.getElem_toArray, List.getElem_cons_succ, List.getElem_cons_zero, List.setIfInBounds_toArray, List.set_cons_succ, List.set_cons_zero]
        refine wpAnyH_take (i := 5) (v := ?_) rfl (by kernel_rfl) (by kernel_rfl) (by kernel_rfl) (fun _ _ _ h => h) (Or.inl ⟨by kernel_rfl, ?_⟩) (by assumption) ?_
        rotate_left
        · intro w' hSw; (try dsimp only at hSw); go_simp; with_reducible rfl
        try simp only [Act.put, List.getElem_toArray, List.getElem_cons_succ, List.getElem_cons_zero, List.setIfInBounds_toArray, List.set_cons_succ, List.set_cons_zero]
        refine wpAnyH_done (by kernel_rfl) ?_ _
        have hOf := hOe.store Se.hs 3 rfl (lT yt D2 n c2).toArray
        have S8 := Sf.tail
        have hyF := Sf.hs.bk 3 rfl
        clear Se hOe hHeld
        go_wp2_with fail
        go_meet
        rw [Q1.out, Q2.out, HYO.out, HYT.out]
        exact ⟨S8, hOf⟩
    case rest =>
      obtain ⟨S6, hO6⟩ := hcut
      rename World => w6
      clear S5 hO5
      have HTV := Lib.hid (show ThB (lateT rb u) from late_bd HTU.out)
      have HLF := Lib.hid (late_few rb u n)
      obtain ⟨U, hU⟩ : ∃ q, lateT rb u = q := ⟨_, rfl⟩
      obtain ⟨lo, hlo⟩ : ∃ q, lateO rb u n = q := ⟨_, rfl⟩
      rw [hU] at S6 HTV
      rw [hlo] at hO6 HLF
      have hs0 := HS0.out
      unfold tookR at hs0
      dsimp only at hs0
      rw [HSR.out, HRB.out, hL.out, HUE.out, hU, hlo] at hs0
      clear hU hlo
      have c3 := S6.hs.cell 2 3 rfl rfl
      obtain ⟨q9, hq9⟩ : ∃ b, ((k : Int) == U.rp) = b := ⟨_, rfl⟩
      cases q9 with
      | false =>
        rw [if_neg (fun e => by rw [e] at hq9; simp at hq9)] at hs0
        subst hs0
        go_upto_region 9 with fail
        clear c3 hq9
        have hx := S6.hs.bk 2 rfl
        have hy := S6.hs.bk 0 rfl
        have S9 := S6.row 0 rfl (lT U D2 n c2)
        have hyF := S9.hs.bk 0 rfl
        have hOF := hO6.store S6.hs 0 rfl (lT U D2 n c2).toArray
        go_wp2_with (first | (with_reducible refine wpList_load_row rfl 31 (.tmp 3) rfl X (by kernel_rfl) _ _ (0, 0) _ hx Tryz.underlying31 rfl (by kernel_rfl) ?_) | (refine wpList_store_row rfl 31 _ _ rfl Y _ rfl rfl _ _ hy (by kernel_rfl) (by kernel_rfl) (by kernel_rfl) ?_))
        exact bodyPost_ret (v := .tuple #[.agg (lT U D2 n c2).toArray, u9]) (results_two rfl _ _ Y _ _ _ _ rfl _ rfl hyF Tryz.underlying31 rfl (by kernel_rfl)) rfl ⟨D2, c2, _, rfl, HZ2.out, S9.nobox, hOF⟩
      | true =>
        rw [if_pos (by simpa using hq9 : (k : Int) = U.rp).symm] at hs0
        have HS9 := Lib.hid hs0
        clear hs0
        have HC := Lib.hid (follows_is U D2 n c2 sr.1.2 x hxb HM hf HTV HMB HZ2 w6 (HD.out.below S6.old (Nat.le_refl _)) (Lib.hid S6.ports))
        have HAF := Lib.hid ((allR_bd (t := toldT U x) HMB.out n).2.1)
        obtain ⟨R, hR⟩ : ∃ R, allR (toldT U x) sr.1.2 n = R := ⟨_, rfl⟩
        rw [hR] at HC HAF
        have HRR := Lib.hid hR
        clear hR
        obtain ⟨Z, hZ⟩ : ∃ q, ackedT (toldT U x) x = q := ⟨_, rfl⟩
        rw [hZ] at HC
        have HZZ := Lib.hid hZ
        clear hZ
        go_upto_region 7 with fail
        clear c3 hq9
        have hx := S6.hs.bk 2 rfl
        have hxB := S6.hs.bk 1 rfl
        go_wp2_with (first | (with_reducible refine wpList_load_row rfl 31 (.tmp 3) rfl X (by kernel_rfl) _ _ (0, 0) _ hx Tryz.underlying31 rfl (by kernel_rfl) ?_) | (with_reducible refine wpList_load_row rfl 46 (.tmp 5) rfl B (by kernel_rfl) _ _ (0, 0) _ hxB Tryz.underlying46 rfl (by kernel_rfl) ?_))
        (with_reducible refine HC.out.mono ?_); rintro e w7 ⟨D3, c3, v3, rfl, hz3, k3, hO3⟩
        have S7 := TS.take S6.hs k3
        have hO7 := hO6.below k3.old
        have HZ3 := Lib.hid hz3
        have HWQ := Lib.hid (show w.heap.size ≤ w6.heap.size from S6.old.size)
        clear S6 hO6 hx hxB HC k3 hz3
        go_upto_region 8 with (refine wpList_store_row rfl 31 _ _ rfl _ _ rfl rfl _ _ (heap_alloc_new _ _) (by kernel_rfl) (by kernel_rfl) (by kernel_rfl) ?_)
        rw [alloc_row]
        have bN := new_below w7 (.cells (lT Z D3 n c3).toArray 31)
        have S8 := S7.al rfl 31 (lT Z D3 n c3)
        have hO8 := hO7.below bN
        have hQ8 := hO3.below bN
        obtain ⟨V, hV⟩ : ∃ q, w7.heap.size = q := ⟨_, rfl⟩
        rw [hV] at S8 ⊢
        obtain ⟨w8, hw8⟩ : ∃ y, w7.alloc (.cells (lT Z D3 n c3).toArray 31) = y := ⟨_, rfl⟩
        rw [hw8] at S8 hO8 hQ8 ⊢
        clear hw8 hV bN S7 hO7 hO3
        have hlen : (sr.2 ++ lo).length + R.2.length ≤ 100000 := by have h1 := HFW.out; have h2 := HLF.out; have h3 := HAF.out; rw [List.length_append]; omega
        refine wp_region_held_drew (S := (fun w' => Bk w' V 31 (lT Z D3 n c3))) (by kernel_rfl) ((S8.hs.drewB 0 rfl)) (fun hHeld => ?_)
        have Sd := S8.below ((Below.refl _ _).drew)
        have hOd := hO8.below ((Below.refl _ _).drew)
        have hQd := hQ8.below ((Below.refl _ _).drew)
        obtain ⟨vd, hvd⟩ : ∃ y, w8.drew = y := ⟨_, rfl⟩
        rw [hvd] at Sd hOd hQd hHeld ⊢
        clear hvd S8 hO8 hQ8
        have hbd : w.heap.size ≤ vd.heap.size := Sd.old.size
        obtain ⟨_, _, hown⟩ := hOd.own
        refine wpAnyH_take (i := 0) (v := _) rfl (by kernel_rfl) (by kernel_rfl) (by kernel_rfl) (fun _ _ _ h => h) (Or.inl ⟨by kernel_rfl, fun w' hSw => exec_load_row 31 _ rfl V (by kernel_rfl) _ _ (0, 0) _ (hSw) Tryz.underlying31 rfl (by kernel_rfl)⟩) (by assumption) ?_
        try simp only [Act.put, List.getElem_toArray, List.getElem_cons_succ, List.getElem_cons_zero, List.setIfInBounds_toArray, List.set_cons_succ, List.set_cons_zero]
        refine wpAnyH_take (i := 1) (v := ?_) rfl (by kernel_rfl) (by kernel_rfl) (by kernel_rfl) (fun _ _ _ h => h) (Or.inl ⟨by kernel_rfl, ?_⟩) (by assumption) ?_
        rotate_left
        · intro w' hSw; (try dsimp only at hSw); go_simp; with_reducible rfl
        try simp only [Act.put, List.getElem_toArray, List.getElem_cons_succ, List.getElem_cons_zero, List.setIfInBounds_toArray, List.set_cons_succ, List.set_cons_zero]
        refine wpAnyH_take (i := 2) (v := ?_) rfl (by kernel_rfl) (by kernel_rfl) (by kernel_rfl) (fun _ _ _ h => h) (Or.inl ⟨by kernel_rfl, ?_⟩) (by assumption) ?_
        rotate_left
        · intro w' hSw; (try dsimp only at hSw); go_simp; with_reducible rfl
        try simp only [Act.put, List.getElem_toArray, List.getElem_cons_succ, List.getElem_cons_zero, List.setIfInBounds_toArray, List.set_cons_succ, List.set_cons_zero]
        refine wpAnyH_ready (rs := [3]) (by kernel_rfl) (by simp) ?_
        refine AllReadyH.cons rfl (fun K hK => ?_) AllReadyH.nil
        refine step_append_outs rfl (.tmp 50) (.tmp 51) (by kernel_rfl) w.heap.size w6.heap.size u9 v3 (sr.2 ++ lo) R.2 (by kernel_rfl) (by kernel_rfl) hOd hQd HWQ.out hlen hbd ?_
        intro v' we hOe gr
        have Se := Sd.grownT hown gr (fun y hy => by simp only [List.mem_cons, List.not_mem_nil, or_false] at hy; rcases hy with rfl | rfl | rfl | rfl <;> (dsimp only; decide)) (Nat.le_refl _)
        clear Sd hOd hQd gr hown
        refine hK.out _ _ ((Se.hs.1 0 _ _ _ rfl).1) (fun hHeld => ?_)
        clear hK K
        try simp only [Act.put, List.getElem_toArray, List.getElem_cons_succ, List.getElem_cons_zero, List.setIfInBounds_toArray, List.set_cons_succ, List.set_cons_zero]
        have hy := Se.hs.bk 3 rfl
        refine wpAnyH_ready (rs := [4]) (by kernel_rfl) (by simp) ?_
        refine AllReadyH.cons rfl (fun K hK => ?_) AllReadyH.nil
        refine exec_if_store (by kernel_rfl) 31 (.tmp 3) (.tmp 49) rfl X (lT Z D3 n c3).toArray (by kernel_rfl) (by kernel_rfl) _ _ hy (by kernel_rfl) (by kernel_rfl) (by kernel_rfl) ?_
        have Sf := Se.row 3 rfl (lT Z D3 n c3)
        refine hK.out _ _ ((Sf.hs.1 0 _ _ _ rfl).1) (fun hHeld => ?_)
        clear hK K
        try simp only [Act.put, List.getElem_toArray, List.getElem_cons_succ, List.getElem_cons_zero, List.setIfInBounds_toArray, List.set_cons_succ, List.set_cons_zero]
        refine wpAnyH_take (i := 5) (v := ?_) rfl (by kernel_rfl) (by kernel_rfl) (by kernel_rfl) (fun _ _ _ h => h) (Or.inl ⟨by kernel_rfl, ?_⟩) (by assumption) ?_
        rotate_left
        · intro w' hSw; (try dsimp only at hSw); go_simp; with_reducible rfl
        try simp only [Act.put, List.getElem_toArray, List.getElem_cons_succ, List.getElem_cons_zero, List.setIfInBounds_toArray, List.set_cons_succ, List.set_cons_zero]
        refine wpAnyH_done (by kernel_rfl) ?_ _
        have hOf := hOe.store Se.hs 3 rfl (lT Z D3 n c3).toArray
        have S9 := Sf.tail
        have hyF := Sf.hs.bk 3 rfl
        clear Se hOe hHeld
        obtain ⟨w9, hw9⟩ : ∃ y, we.setRow X (lT Z D3 n c3).toArray = y := ⟨_, rfl⟩
        rw [hw9] at S9 hOf ⊢
        clear hw9 Sf hyF
        have e := HS9.out
        rw [HRR.out, HZZ.out] at e
        subst e
        have hx := S9.hs.bk 2 rfl
        have hy := S9.hs.bk 0 rfl
        have SF := S9.row 0 rfl (lT Z D3 n c3)
        have hyF := SF.hs.bk 0 rfl
        have hOF := hOf.store S9.hs 0 rfl (lT Z D3 n c3).toArray
        go_wp2_with (first | (with_reducible refine wpList_load_row rfl 31 (.tmp 3) rfl X (by kernel_rfl) _ _ (0, 0) _ hx Tryz.underlying31 rfl (by kernel_rfl) ?_) | (refine wpList_store_row rfl 31 _ _ rfl Y _ rfl rfl _ _ hy (by kernel_rfl) (by kernel_rfl) (by kernel_rfl) ?_))
        exact bodyPost_ret (v := .tuple #[.agg (lT Z D3 n c3).toArray, v']) (results_two rfl _ _ Y _ _ _ _ rfl _ rfl hyF Tryz.underlying31 rfl (by kernel_rfl)) rfl ⟨D3, c3, _, rfl, HZ3.out, SF.nobox, (by first | exact hOF | (rw [List.append_assoc] at hOF; exact hOF))⟩

end Go.Proofs.YtnmnihlhcokjpaaGreatDoor

/- Config heard: contract. -/
namespace Go.Proofs.YtnmnihlhcokjpaaGreatDoor
set_option maxRecDepth 100000
open Go.ChangeShapes Go.WideShapes Go.ChangeAt Go.RowKit
set_option linter.unusedVariables false
set_option linter.unusedSimpArgs false

/-- What a port's box holds, as a telling. -/
theorem Hs.vecq {w0 w : World} {l : List (Nat × TypeId × List Value)} (S : Hs w0 l w) (i : Nat) {g : Nat} {p : Po} (hi : l[i]? = some (g, 63, lP p)) :
    ∀ v, (∃ q : LaterW w, v = q.w') → ∀ j u, ([.int .u64 p.hr, .int .u32 p.hc, .int .u64 p.hb, .int .u16 p.hp] : List Value)[j]? = some u → v.cell? ((⟨g, 3, none⟩ : Addr).add j) = some u := fun v hv j u hu => by
  obtain ⟨q, rfl⟩ := hv
  have hj4 : j < 4 := by
    rcases Nat.lt_or_ge j 4 with z | z
    · exact z
    · rw [List.getElem?_eq_none (by simpa using z)] at hu; cases hu
  have h := (S.below q.h).cell i (3 + j) (v := u) hi (by
    match j, hj4 with
    | 0, _ => exact hu
    | 1, _ => exact hu
    | 2, _ => exact hu
    | 3, _ => exact hu)
  rw [← h, addr_add]

set_option maxHeartbeats 4000000 in
theorem hconf_is (t : Th) (A : Option Addr) (n cap : Nat) (L : List Po) (i : Int) (x : Bq) (hi : -9223372036854775808 ≤ i ∧ i ≤ 9223372036854775807) (hxb : Hid (BqIn x)) (hL : Hid (L.length = n)) (hf : n ≤ 200) (ht : Hid (ThB t)) (hn : Hid (-9223372036854775808 ≤ t.n1 ∧ t.n1 ≤ 9223372036854775807 ∧ -9223372036854775808 ≤ t.n2 ∧ t.n2 ≤ 9223372036854775807 ∧ -9223372036854775808 ≤ t.n3 ∧ t.n3 ≤ 9223372036854775807)) (hb : Hid (∀ x ∈ L, PoB x)) (hc : Hid (A = none → cap = 0)) (w : World) (hd : Hd w) (hp : Hid (PoAt w A w.heap.size L)) :
    Calls Tryz.prog 13 #[.agg (lT t A n cap).toArray, .int .i64 i, .agg (lB x).toArray] w (ConfEnd w (heardR t L i x).1.1 n ((heardR t L i x).1.2, (heardR t L i x).2)) := by
  have HD := Lib.hid hd
  clear hd
  obtain ⟨S0, hS0⟩ : ∃ S0, heardR t L i x = S0 := ⟨_, rfl⟩
  rw [hS0]
  have HS0 := Lib.hid hS0
  clear hS0
  obtain ⟨q, hq⟩ : ∃ q, (if 0 ≤ i then (match L[i.toNat]? with | none => false | some p => !decide (p.st = 0)) else false) = q := ⟨_, rfl⟩
  have HON := fun W (h : Below w.heap.size w W) => Lib.hid (hears_is t A n cap L hL i q (Lib.hid hq) W (Lib.hid ((hp.out.below h (Nat.le_refl _)).wide h.size)))
  have HQ := Lib.hid hq
  clear hq
  obtain ⟨wb, hwb, S⟩ := hs_three w 31 46 31 (lT t A n cap) (lB x) [.int .u64 0, .int .u64 0, .int .u32 0, .int .i64 0, .int .i64 0, .int .i64 0, .int .i64 0, .int .i64 0, .int .i64 0, .int .i64 0, .bool false, .bool false, .bool false, .int .i64 0, .bool false, .int .i64 0, .bool false, .int .i64 0, .slice none 0 0]
  go_enter Tryz.func13, Tryz.ntmps13
  go_upto_region 1 with fail
  clear hwb
  obtain ⟨X, hX⟩ : ∃ q, w.heap.size = q := ⟨_, rfl⟩
  rw [hX] at S
  obtain ⟨B, hB⟩ : ∃ q, X + 1 = q := ⟨_, rfl⟩
  rw [hB] at S
  obtain ⟨Y, hY⟩ : ∃ q, B + 1 = q := ⟨_, rfl⟩
  rw [hY] at S
  rw [hX]
  rw [hB]
  rw [hY]
  clear hX hB hY
  have hx := S.bk 2 rfl
  go_wp2_with (with_reducible refine wpList_load_rowG (by kernel_rfl) 31 (.tmp 3) rfl X (by kernel_rfl) _ _ (0, 0) _ hx Tryz.underlying31 rfl (by kernel_rfl) ?_)
  (with_reducible refine (HON _ S.old).out.mono ?_); rintro e w1 ⟨rfl, b1⟩
  have S1 := S.below b1
  clear S hx HON b1
  have hs0 := HS0.out
  unfold heardR at hs0
  have hq := HQ.out
  cases q with
  | false =>
    have hs0 : ((t, L), []) = S0 := by
      rw [← hs0]
      by_cases i0 : 0 ≤ i
      · rw [if_pos i0] at hq ⊢
        cases hl : L[i.toNat]? with
        | none => rfl
        | some p =>
          rw [hl] at hq
          have : p.st = 0 := by simpa using hq
          simp only [if_pos this]
      · rw [if_neg i0]
    clear hq
    subst hs0
    have HC := Lib.hid (tcopy_is t A n cap L hL hf hc _ (Lib.hid ((hp.out.below S1.old (Nat.le_refl _)).wide S1.old.size)))
    have hx := S1.bk 2 rfl
    go_wp2_with (with_reducible refine wpList_load_row rfl 31 (.tmp 3) rfl X (by kernel_rfl) _ _ (0, 0) _ hx Tryz.underlying31 rfl (by kernel_rfl) ?_)
    (with_reducible refine HC.out.mono ?_); rintro e wz ⟨Dz, cz, rfl, hzz, kz⟩
    have Sz := TS.take S1 kz
    have hy := Sz.hs.bk 0 rfl
    have Sy := Sz.row 0 rfl (lT t Dz n cz)
    have hyF := Sy.hs.bk 0 rfl
    clear S1 hx HC kz
    go_wp2_with (refine wpList_store_row rfl 31 _ _ rfl Y _ rfl rfl _ _ hy (by kernel_rfl) (by kernel_rfl) (by kernel_rfl) ?_)
    exact bodyPost_ret (v := .tuple #[.agg (lT t Dz n cz).toArray, .slice none 0 0]) (results_two rfl _ _ Y _ _ _ _ rfl _ rfl hyF Tryz.underlying31 rfl (by kernel_rfl)) rfl ⟨Dz, cz, _, rfl, hzz, Sy.nobox, OutsR.nil _ _⟩
  | true =>
    have h0 : 0 ≤ i := by
      by_cases i0 : 0 ≤ i
      · exact i0
      · rw [if_neg i0] at hq; cases hq
    obtain ⟨k, rfl⟩ : ∃ k : Nat, i = k := ⟨i.toNat, by omega⟩
    rw [if_pos h0, Int.toNat_natCast] at hq
    clear hs0
    obtain ⟨p, hp0⟩ : ∃ p, L[k]? = some p := by
      cases hl : L[k]? with
      | none => rw [hl] at hq; cases hq
      | some p => exact ⟨p, rfl⟩
    rw [hp0] at hq
    have hst : p.st ≠ 0 := by simpa using hq
    have hkn : k < n := by have := po_lt hp0; have := hL.out; omega
    have hki : (k : Int) < (n : Int) := by omega
    have hkz : ¬ (n : Int) ≤ (k : Int) := by omega
    have HXK := Lib.hid hp0
    have hs0 := HS0.out
    rw [heardR_at hp0 hst] at hs0
    obtain ⟨sb, hsb⟩ : ∃ b, supB (confV x) (heldV p) t.ow = b := ⟨_, rfl⟩
    rw [hsb] at hs0
    have HSU : ∀ W, Hid (Calls Tryz.prog 36 #[.agg #[.int .u64 x.ro, .int .u32 x.co, .int .u64 x.br, .int .u16 x.po], .agg #[.int .u64 p.hr, .int .u32 p.hc, .int .u64 p.hb, .int .u16 p.hp], .int .u64 t.ow] W fun e w' => e = .returned (.bool sb) ∧ Below W.heap.size W w') := fun W => Lib.hid (sup_is (confV x) (heldV p) t.ow sb (Lib.hid hsb) W)
    have HOF := fun W => Lib.hid (show Calls Tryz.prog 37 #[.agg (lB x).toArray] W (fun e w' => e = .returned (.agg #[.int .u64 x.ro, .int .u32 x.co, .int .u64 x.br, .int .u16 x.po]) ∧ Below W.heap.size W w') from of_is (confV x) x.tc x.ch x.ak x.ag x.ma x.he x.de W)
    have HSS := Lib.hid hs0
    have HST := Lib.hid hst
    clear hq hp0 hs0 h0 hi hsb hst HS0 HQ
    obtain ⟨ad, rfl⟩ := hp.out.some HXK.out
    have c18 := S1.cell 2 18 rfl rfl
    have hat : ∀ i v, (lP p)[i]? = some v → w1.cell? ((ad.add (k * 15)).add i) = some v := ((hp.out.below S1.old (Nat.le_refl _)).at HXK.out rfl)
    go_upto_region 3 with fail
    go_upto_region 4 with (first | (with_reducible refine wpList_load_at rfl 63 (.tmp 18) rfl (ad.add (k * 15)) (by kernel_rfl) _ _ hat Tryz.underlying63 rfl (by kernel_rfl) ?_) | (refine wpList_store_row rfl 63 _ _ rfl _ _ rfl rfl _ _ (heap_alloc_new _ _) (by kernel_rfl) (by kernel_rfl) (by kernel_rfl) ?_))
    rw [alloc_row]
    have S2 := S1.al rfl 63 (lP p)
    obtain ⟨P, hP⟩ : ∃ P, w1.heap.size = P := ⟨_, rfl⟩
    rw [hP] at S2 ⊢
    obtain ⟨w2, hw2⟩ : ∃ y, w1.alloc (.cells (lP p).toArray 63) = y := ⟨_, rfl⟩
    rw [hw2] at S2 ⊢
    clear hw2 hP S1 c18 hat
    have pv := S2.vecq 0 rfl
    have c0 : ∀ q : LaterW w2, q.w'.cell? ⟨X, 0, none⟩ = some (.int .u64 t.ow) := fun q => (S2.below q.h).cell 3 0 rfl rfl
    try simp only [Act.put]
    go_cut [20] (fun u wx => u = .bool sb ∧ Below w2.heap.size w2 wx)
    case first =>
      refine region_later mixedL (by kernel_rfl) ?_
      (refine BigFrame.wpQuiet_want (by kernel_rfl) (fun K hK => ?_); refine quiet_load_row 46 _ rfl B (by kernel_rfl) _ _ (0, 0) _ (S2.bkq 2 rfl) Tryz.underlying46 rfl (by kernel_rfl) ?_; refine hK _ ?_; clear hK; go_simp)
      go_big_quiet_step ((go_at_call 37; with_reducible exact Calls.later (HOF _).out))
      go_big_quiet_step (fail)
      (refine BigFrame.wpQuiet_want (by kernel_rfl) (fun K hK => ?_); refine quiet_load_at 61 _ rfl ⟨P, 3, none⟩ (by kernel_rfl) _ _ pv Tryz.underlying61 rfl (by kernel_rfl) ?_; refine hK _ ?_; clear hK; go_simp)
      go_big_quiet_step (fail)
      go_big_quiet_step (fail)
      go_big_quiet_step ((go_at_call 36; with_reducible exact Calls.later (HSU _).out))
      repeat (go_big_quiet_step (fail))
      refine wpQuiet_nil ?_
      intro r
      go_wp2_with fail
      go_meet
      exact ⟨rfl, r.h⟩
    case rest =>
      obtain ⟨rfl, B3⟩ := hcut
      rename World => w3
      have S3 := S2.below B3
      clear S2 B3 pv c0 HSU HOF
      have hs0 := HSS.out
      cases sb with
      | true =>
        simp only [if_true] at hs0
        have HC := Lib.hid (takes_is t (some ad) n cap L k p x HXK hxb hL hf ht hb hc w3 (HD.out.below S3.old (Nat.le_refl _)) (Lib.hid ((hp.out.below S3.old (Nat.le_refl _)).wide S3.old.size)))
        rw [hs0] at HC
        clear hs0
        go_upto_region 5 with fail
        have hx := S3.bk 3 rfl
        have hxB := S3.bk 2 rfl
        go_wp2_with (first | (with_reducible refine wpList_load_row rfl 31 (.tmp 3) rfl X (by kernel_rfl) _ _ (0, 0) _ hx Tryz.underlying31 rfl (by kernel_rfl) ?_) | (with_reducible refine wpList_load_row rfl 46 (.tmp 5) rfl B (by kernel_rfl) _ _ (0, 0) _ hxB Tryz.underlying46 rfl (by kernel_rfl) ?_))
        (with_reducible refine HC.out.mono ?_); rintro e w4 ⟨D, c2, v, rfl, hz, k4, hO⟩
        have S4 := TS.take S3 k4
        have hO4 := hO.mono S3.old.size
        clear S3 hx hxB HC k4 hO
        have hy := S4.hs.bk 1 rfl
        have S5 := S4.row 1 rfl (lT S0.1.1 D n c2)
        have hyF := S5.hs.bk 1 rfl
        have hOF := hO4.store S4.hs 1 rfl (lT S0.1.1 D n c2).toArray
        go_wp2_with (refine wpList_store_row rfl 31 _ _ rfl Y _ rfl rfl _ _ hy (by kernel_rfl) (by kernel_rfl) (by kernel_rfl) ?_)
        exact bodyPost_ret (v := .tuple #[.agg (lT S0.1.1 D n c2).toArray, v]) (results_two rfl _ _ Y _ _ _ _ rfl _ rfl hyF Tryz.underlying31 rfl (by kernel_rfl)) rfl ⟨D, c2, _, rfl, hz, S5.nobox, hOF⟩
      | false =>
        simp only [Bool.false_eq_true, if_false] at hs0
        obtain ⟨d, hd⟩ : ∃ d, desB p t.ow = d := ⟨_, rfl⟩
        rw [hd] at hs0
        have HDS := fun W => Lib.hid (desig_row p t.ow d (Lib.hid hd) W)
        clear hd
        have HSS := Lib.hid hs0
        clear hs0
        go_upto_region 6 with fail
        have hpx := S3.bk 0 rfl
        have c0 := S3.cell 3 0 rfl rfl
        go_wp2_with (with_reducible refine wpList_load_row rfl 63 (.tmp 8) rfl P (by kernel_rfl) _ _ (0, 0) _ hpx Tryz.underlying63 rfl (by kernel_rfl) ?_)
        (with_reducible refine (HDS _).out.mono ?_); rintro e w4 ⟨rfl, b4⟩
        have S4 := S3.below b4
        clear S3 hpx c0 HDS b4
        have hs0 := HSS.out
        cases d with
        | true =>
          simp only [if_true] at hs0
          have HC := Lib.hid (sconf_is t (some ad) n cap L k (by omega) hL hf ht hn hb hc w4 (HD.out.below S4.old (Nat.le_refl _)) (Lib.hid ((hp.out.below S4.old (Nat.le_refl _)).wide S4.old.size)))
          subst hs0
          obtain ⟨R, hR⟩ : ∃ R, confR t L k = R := ⟨_, rfl⟩
          rw [hR] at HC
          have HRR := Lib.hid hR
          clear hR
          go_upto_region 7 with fail
          have hx := S4.bk 3 rfl
          go_wp2_with (with_reducible refine wpList_load_row rfl 31 (.tmp 3) rfl X (by kernel_rfl) _ _ (0, 0) _ hx Tryz.underlying31 rfl (by kernel_rfl) ?_)
          (with_reducible refine HC.out.mono ?_); rintro e w5 ⟨D, c2, v, rfl, hz, k5, hO⟩
          have S5 := TS.take S4 k5
          have hO5 := hO.mono S4.old.size
          clear S4 hx HC k5 hO
          have hy := S5.hs.bk 1 rfl
          have S6 := S5.row 1 rfl (lT t D n c2)
          have hyF := S6.hs.bk 1 rfl
          have hOF := hO5.store S5.hs 1 rfl (lT t D n c2).toArray
          go_wp2_with (refine wpList_store_row rfl 31 _ _ rfl Y _ rfl rfl _ _ hy (by kernel_rfl) (by kernel_rfl) (by kernel_rfl) ?_)
          exact bodyPost_ret (v := .tuple #[.agg (lT t D n c2).toArray, v]) (results_two rfl _ _ Y _ _ _ _ rfl _ rfl hyF Tryz.underlying31 rfl (by kernel_rfl)) rfl ⟨D, c2, _, rfl, hz, (by rw [HRR.out]; exact S6.nobox), (by rw [HRR.out]; exact hOF)⟩
        | false =>
          simp only [Bool.false_eq_true, if_false] at hs0
          have S5 := S4.tail
          clear S4
          go_upto_region 8 with fail
          subst hs0
          have HC := Lib.hid (tcopy_is t (some ad) n cap L hL hf hc _ (Lib.hid ((hp.out.below S5.old (Nat.le_refl _)).wide S5.old.size)))
          have hx := S5.bk 2 rfl
          go_wp2_with (with_reducible refine wpList_load_row rfl 31 (.tmp 3) rfl X (by kernel_rfl) _ _ (0, 0) _ hx Tryz.underlying31 rfl (by kernel_rfl) ?_)
          (with_reducible refine HC.out.mono ?_); rintro e wz ⟨Dz, cz, rfl, hzz, kz⟩
          have Sz := TS.take S5 kz
          have hy := Sz.hs.bk 0 rfl
          have Sy := Sz.row 0 rfl (lT t Dz n cz)
          have hyF := Sy.hs.bk 0 rfl
          clear S5 hx HC kz
          go_wp2_with (refine wpList_store_row rfl 31 _ _ rfl Y _ rfl rfl _ _ hy (by kernel_rfl) (by kernel_rfl) (by kernel_rfl) ?_)
          exact bodyPost_ret (v := .tuple #[.agg (lT t Dz n cz).toArray, .slice none 0 0]) (results_two rfl _ _ Y _ _ _ _ rfl _ rfl hyF Tryz.underlying31 rfl (by kernel_rfl)) rfl ⟨Dz, cz, _, rfl, hzz, Sy.nobox, OutsR.nil _ _⟩

end Go.Proofs.YtnmnihlhcokjpaaGreatDoor

/- awake of stage 14: the document's example. -/
namespace Go.Proofs.YtnmnihlhcokjpaaGreatDoor
set_option maxRecDepth 100000
open Go.ChangeShapes Go.WideShapes Go.ChangeAt Go.RowKit
set_option linter.unusedVariables false
set_option linter.unusedSimpArgs false

/-- The example's configuration, and its view. -/
def eC (N : Nat) : Cf := ⟨7, 0, 20, 2, 15, 300, 0, some ⟨N, 0, none⟩, 2, 2⟩
def eL : List PV := [⟨0, 19, true⟩, ⟨0, 19, false⟩]
def eT : Th := ⟨7, 7, 0, -1, 5120, 512, 3840, 5120, 512, 3840, false, false, false, 0, false, 0, false, 0⟩
def eP : List Po := [⟨1, 1, 19, 7, 0, 7, 1, false, false, false, 0, false, 0, false, 0⟩, ⟨2, 0, 19, 7, 0, 7, 2, false, false, false, 0, false, 0, false, 0⟩]
def eO : Ou := ⟨0, 7, ⟨false, false, false, 7, 0, 7, 1, 0, 5120, 512, 3840⟩⟩
end Go.Proofs.YtnmnihlhcokjpaaGreatDoor

/- What the laws keep of an answer: a view in a box, its ports, and what goes out. -/
namespace Go.Proofs.YtnmnihlhcokjpaaGreatDoor
set_option maxRecDepth 100000
open Go.ChangeShapes Go.WideShapes Go.ChangeAt Go.RowKit
set_option linter.unusedVariables false

def AN (w : World) (G : Nat) (D : Option Addr) (cap : Nat) (v : Value) (t : Th) (n : Nat) (R : List Po × List Ou) : Prop :=
  Bk w G 31 (lT t D n cap) ∧ (D = none → cap = 0) ∧ PoAt w D w.heap.size R.1 ∧ OutsR w 0 v R.2
section
variable {w w' : World} {G n cap : Nat} {D : Option Addr} {v : Value} {t : Th} {R : List Po × List Ou}
theorem AN.below (h : AN w G D cap v t n R) (b : Below w.heap.size w w') : AN w' G D cap v t n R :=
  ⟨h.1.below b h.1.lt, h.2.1, (h.2.2.1.below b (Nat.le_refl _)).wide b.size, h.2.2.2.below b⟩
theorem AN.new {base : Nat} (hz : D = none → cap = 0) (hp : PoAt w D w.heap.size R.1) (ho : OutsR w base v R.2) : AN (w.alloc (.cells (lT t D n cap).toArray 31)) w.heap.size D cap v t n R := by
  have b := new_below w (.cells (lT t D n cap).toArray 31)
  exact ⟨heap_alloc_new _ _, hz, (hp.below b (Nat.le_refl _)).wide b.size, (ho.below b).mono (Nat.zero_le _)⟩
theorem AN.bk (h : AN w G D cap v t n R) : w.heap[G]? = some (.cells (lT t D n cap).toArray 31 (0, 0)) := h.1
theorem AN.ports (h : AN w G D cap v t n R) : PoAt w D w.heap.size R.1 := h.2.2.1
theorem AN.cell (h : AN w G D cap v t n R) {i : Nat} {u : Value} (hu : (lT t D n cap)[i]? = some u) : w.cell? ⟨G, i, none⟩ = some u := by
  rw [h.1.cell]; exact hu
theorem AN.port {ad : Addr} (h : AN w G (some ad) cap v t n R) {k : Nat} {x : Po} (hx : R.1[k]? = some x) (i : Nat) {u : Value} (hu : (lP x)[i + 1]? = some u) : w.cell? ⟨(ad.add (k * 15)).block, (ad.add (k * 15)).off + (i + 1), none⟩ = some u := by
  obtain ⟨ad', e, _, _, h0⟩ := h.ports.cells hx
  cases e
  exact h0 i u hu
end

end Go.Proofs.YtnmnihlhcokjpaaGreatDoor
