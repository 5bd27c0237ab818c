/- Several texts in one, one behind the other: TreeSame, TreeRefSame. -/
import Derived.Test.YtnmnihlhcokjpaaGreatDoorPk04
import Derived.Test.YtnmnihlhcokjpaaGreatDoorPk17
import Derived.LoopTactic

/- Same, of views that are alike, and the document's. -/
namespace Go.Proofs.YtnmnihlhcokjpaaGreatDoor
set_option maxRecDepth 100000
open Go.ChangeShapes Go.WideShapes Go.ChangeAt Go.RowKit
set_option linter.unusedVariables false

theorem tms_same (a b c : Int) (w : World) : (Op.equalIn 10000 26 (.agg #[.int .i64 a, .int .i64 b, .int .i64 c]) (.agg #[.int .i64 a, .int .i64 b, .int .i64 c])).run Tryz.prog w = .ok true w := by
  rw [show (10000 : Nat) = 9999 + 1 from rfl, run_equalIn_struct w 9999 26 _ _ (by kernel_rfl) (by kernel_rfl)]
  simp only [Program.fieldsOf, Tryz.underlying26]
  go_simp
theorem tmr_same (o : Bool) (v : Int) (w : World) : (Op.equalIn 10000 28 (.agg #[.bool o, .int .i64 v]) (.agg #[.bool o, .int .i64 v])).run Tryz.prog w = .ok true w :=
  tmr_eq o o v v true (by simp) w

end Go.Proofs.YtnmnihlhcokjpaaGreatDoor

/- The document's Same, of views that are alike. -/
namespace Go.Proofs.YtnmnihlhcokjpaaGreatDoor
set_option maxRecDepth 100000
open Go.ChangeShapes Go.WideShapes Go.ChangeAt Go.RowKit
set_option linter.unusedVariables false

set_option maxRecDepth 100000 in
set_option maxHeartbeats 1000000 in
theorem rsame_alike (t : Th) (A B : Option Addr) (n capA capB : Nat) (L : List Po) (hL : Hid (L.length = n)) (hf : n ≤ 200) (w : World) (hp : Hid (PoAt w A w.heap.size L)) (hq : Hid (PoAt w B w.heap.size L)) :
    Calls Tryz.prog 9 #[.agg (lT t A n capA).toArray, .agg (lT t B n capB).toArray] w fun e w' => e = .returned (.bool true) ∧ Below w.heap.size w w' := by
  obtain ⟨wb, hwb, S⟩ := hs_two w 31 31 (lT t A n capA) (lT t B n capB)
  go_enter Tryz.func9, Tryz.ntmps9
  go_upto_region 1 with fail
  clear hwb
  obtain ⟨X, hX⟩ : ∃ X, w.heap.size = X := ⟨_, rfl⟩
  rw [hX] at S
  obtain ⟨Y, hY⟩ : ∃ Y, X + 1 = Y := ⟨_, rfl⟩
  rw [hY] at S
  rw [hX]
  rw [hY]
  have HX := Lib.hid hX
  clear hX hY
  have E1 := tms_same t.n1 t.n2 t.n3
  have E2 := tms_same t.m1 t.m2 t.m3
  have E3 := tmr_same t.ho t.hv
  have E4 := tmr_same t.xo t.xv
  have E5 := tmr_same t.zo t.zv
  have x0 := S.cell 1 0 rfl rfl
  have x1 := S.cell 1 1 rfl rfl
  have x2 := S.cell 1 2 rfl rfl
  have x3 := S.cell 1 3 rfl rfl
  have x4 := S.cell 1 4 rfl rfl
  have x5 := S.cell 1 5 rfl rfl
  have x6 := S.cell 1 6 rfl rfl
  have x7 := S.cell 1 7 rfl rfl
  have x8 := S.cell 1 8 rfl rfl
  have x9 := S.cell 1 9 rfl rfl
  have x10 := S.cell 1 10 rfl rfl
  have x11 := S.cell 1 11 rfl rfl
  have x12 := S.cell 1 12 rfl rfl
  have x13 := S.cell 1 13 rfl rfl
  have x14 := S.cell 1 14 rfl rfl
  have x15 := S.cell 1 15 rfl rfl
  have x16 := S.cell 1 16 rfl rfl
  have x17 := S.cell 1 17 rfl rfl
  have x18 := S.cell 1 18 rfl rfl
  have y0 := S.cell 0 0 rfl rfl
  have y1 := S.cell 0 1 rfl rfl
  have y2 := S.cell 0 2 rfl rfl
  have y3 := S.cell 0 3 rfl rfl
  have y4 := S.cell 0 4 rfl rfl
  have y5 := S.cell 0 5 rfl rfl
  have y6 := S.cell 0 6 rfl rfl
  have y7 := S.cell 0 7 rfl rfl
  have y8 := S.cell 0 8 rfl rfl
  have y9 := S.cell 0 9 rfl rfl
  have y10 := S.cell 0 10 rfl rfl
  have y11 := S.cell 0 11 rfl rfl
  have y12 := S.cell 0 12 rfl rfl
  have y13 := S.cell 0 13 rfl rfl
  have y14 := S.cell 0 14 rfl rfl
  have y15 := S.cell 0 15 rfl rfl
  have y16 := S.cell 0 16 rfl rfl
  have y17 := S.cell 0 17 rfl rfl
  have y18 := S.cell 0 18 rfl rfl
  go_upto_region 3 with fail
  clear x0 x1 x2 x3 x4 x5 x6 x7 x8 x9 x10 x11 x12 x13 x14 x15 x16 x17 x18 y0 y1 y2 y3 y4 y5 y6 y7 y8 y9 y10 y11 y12 y13 y14 y15 y16 y17 y18 E1 E2 E3 E4 E5
  go_wp2
  go_loopw [5] (fun i wr => ∃ k : Nat, k ≤ n ∧ i = .int .i64 k ∧ Hs w [(Y, 31, lT t B n capB), (X, 31, lT t A n capA)] wr) (fun i _ => n - (intOf i).toNat)
  case atStart => exact ⟨0, Nat.zero_le _, rfl, S⟩
  case round =>
    clear S
    obtain ⟨k, hk, rfl, S⟩ := hrel
    have x18 := S.cell 1 18 rfl rfl
    by_cases hkn : k < n
    · obtain ⟨x, hx⟩ := po_at hL.out hkn
      have hki : (k : Int) < (n : Int) := by omega
      have hkz : ¬ (n : Int) ≤ (k : Int) := by omega
      have HP := Lib.hid ((hp.out.below S.old (Nat.le_refl _)).wide S.old.size)
      have HQ := Lib.hid ((hq.out.below S.old (Nat.le_refl _)).wide S.old.size)
      obtain ⟨a, hA⟩ := HP.out.some hx
      obtain ⟨b, hB⟩ := HQ.out.some hx
      have HX := Lib.hid hx
      have HA := Lib.hid hA
      have HB := Lib.hid hB
      have hE := same_row x
      rw [hA] at x18
      clear hx
      go_upto_region 6 with fail
      have c1 := fun q : LaterW wr => (S.below q.h).cell 1 18 rfl rfl
      have c2 := fun q : LaterW wr => (S.below q.h).cell 0 18 rfl rfl
      rw [hA] at c1
      rw [hB] at c2
      clear x18 hA hB
      refine region_later mixedL (by kernel_rfl) ?_
      go_big_quiet_step (fail)
      go_big_quiet_step (fail)
      go_big_quiet_step (fail)
      go_big_quiet_step (fail)
      (refine BigFrame.wpQuiet_want (by kernel_rfl) (fun K hK => ?_); refine quiet_load_at 63 _ rfl (a.add (k * 15)) (by kernel_rfl) _ _ (HP.out.atq (Nat.le_refl _) HX.out HA.out) Tryz.underlying63 rfl (by kernel_rfl) ?_; refine hK _ ?_; clear hK; go_simp)
      go_big_quiet_step (fail)
      go_big_quiet_step (fail)
      go_big_quiet_step (fail)
      go_big_quiet_step (fail)
      (refine BigFrame.wpQuiet_want (by kernel_rfl) (fun K hK => ?_); refine quiet_load_at 63 _ rfl (b.add (k * 15)) (by kernel_rfl) _ _ (HQ.out.atq (Nat.le_refl _) HX.out HB.out) Tryz.underlying63 rfl (by kernel_rfl) ?_; refine hK _ ?_; clear hK; go_simp)
      repeat (go_big_quiet_step (fail))
      refine wpQuiet_nil ?_
      intro r
      have S3 := S.below r.h
      generalize r.w' = w3 at S3 ⊢
      clear HP HQ S c1 c2
      go_wp2
      go_roundw
      case rel => exact ⟨k + 1, by omega, by go_num, S3⟩
      case measure => simp [intOf]; omega
    · have hkz : ¬ (k : Int) < (n : Int) := by omega
      go_wp2
      go_ret
      exact ⟨rfl, S.old⟩

end Go.Proofs.YtnmnihlhcokjpaaGreatDoor
