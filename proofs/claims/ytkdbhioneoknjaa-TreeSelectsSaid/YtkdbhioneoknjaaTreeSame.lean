/- Same, of views that are alike, and the document's. -/
import Derived.Test.YtkdbhioneoknjaaTreeSmall
import Derived.Test.YtkdbhioneoknjaaTimerEq
import Derived.LoopTactic
namespace Go.Proofs.Ytkdbhioneoknjaa
open Go.ChangeShapes Go.WideShapes Go.ChangeAt Go.RowKit
set_option linter.unusedVariables false

theorem tms_same (a b c : Int) (w : World) : (Op.equalIn 10000 26 (.agg #[.int .i64 a, .int .i64 b, .int .i64 c]) (.agg #[.int .i64 a, .int .i64 b, .int .i64 c])).run Try.prog w = .ok true w := by
  rw [show (10000 : Nat) = 9999 + 1 from rfl, run_equalIn_struct w 9999 26 _ _ (by kernel_rfl) (by kernel_rfl)]
  simp only [Program.fieldsOf, Try.underlying26]
  go_simp
theorem tmr_same (o : Bool) (v : Int) (w : World) : (Op.equalIn 10000 28 (.agg #[.bool o, .int .i64 v]) (.agg #[.bool o, .int .i64 v])).run Try.prog w = .ok true w :=
  tmr_eq o o v v true (by simp) w

set_option maxRecDepth 100000 in
set_option maxHeartbeats 1000000 in
theorem equal_is (A B : Option Addr) (n capA capB : Nat) (L : List Po) (hL : Hid (L.length = n)) (hf : n ≤ 200) (w : World) (hp : Hid (PoAt w A w.heap.size L)) (hq : Hid (PoAt w B w.heap.size L)) :
    Calls Try.prog 47 #[.slice A n capA, .slice B n capB] w fun e w' => e = .returned (.bool true) ∧ Below w.heap.size w w' := by
  go_enter Try.func47, Try.ntmps47
  go_wp2
  go_loopw [13] (fun i wr => ∃ k : Nat, k ≤ n ∧ i = .int .i64 k ∧ Below w.heap.size w wr) (fun i _ => n - (intOf i).toNat)
  case atStart => exact ⟨0, Nat.zero_le _, rfl, Below.refl _ _⟩
  case round =>
    obtain ⟨k, hk, rfl, S⟩ := hrel
    by_cases hkn : k < n
    · obtain ⟨x, hx⟩ := po_at hL.out hkn
      have hki : (k : Int) < (n : Int) := by omega
      have hkz : ¬ (n : Int) ≤ (k : Int) := by omega
      have HP := Lib.hid ((hp.out.below S (Nat.le_refl _)).wide S.size)
      have HQ := Lib.hid ((hq.out.below S (Nat.le_refl _)).wide S.size)
      obtain ⟨a, hA⟩ := HP.out.some hx
      obtain ⟨b, hB⟩ := HQ.out.some hx
      have HX := Lib.hid hx
      have HA := Lib.hid hA
      have HB := Lib.hid hB
      have hE := same_row x
      rw [hA, hB]
      clear hx hA hB
      go_upto_region 6 with fail
      refine region_later mixedL (by kernel_rfl) ?_
      go_big_quiet_step (fail)
      go_big_quiet_step (fail)
      go_big_quiet_step (fail)
      (refine BigFrame.wpQuiet_want (by kernel_rfl) (fun K hK => ?_); refine quiet_load_at 49 _ rfl (a.add (k * 15)) (by kernel_rfl) _ _ (HP.out.atq (Nat.le_refl _) HX.out HA.out) Try.underlying49 rfl (by kernel_rfl) ?_; refine hK _ ?_; clear hK; go_simp)
      go_big_quiet_step (fail)
      go_big_quiet_step (fail)
      go_big_quiet_step (fail)
      (refine BigFrame.wpQuiet_want (by kernel_rfl) (fun K hK => ?_); refine quiet_load_at 49 _ rfl (b.add (k * 15)) (by kernel_rfl) _ _ (HQ.out.atq (Nat.le_refl _) HX.out HB.out) Try.underlying49 rfl (by kernel_rfl) ?_; refine hK _ ?_; clear hK; go_simp)
      repeat (go_big_quiet_step (fail))
      refine wpQuiet_nil ?_
      intro r
      have S3 := S.trans (r.h.mono S.size)
      generalize r.w' = w3 at S3 ⊢
      clear HP HQ S
      go_wp2
      exact ⟨⟨k + 1, by omega, by go_num, S3⟩, by simp [intOf]; omega⟩
    · have hkz : ¬ (k : Int) < (n : Int) := by omega
      go_wp2
      go_ret
      exact ⟨rfl, S⟩

set_option maxRecDepth 100000 in
set_option maxHeartbeats 1000000 in
theorem same_alike (t : Th) (A B : Option Addr) (n capA capB : Nat) (L : List Po) (hL : Hid (L.length = n)) (hf : n ≤ 200) (w : World) (hp : Hid (PoAt w A w.heap.size L)) (hq : Hid (PoAt w B w.heap.size L)) :
    Calls Try.prog 22 #[.agg (lT t A n capA).toArray, .agg (lT t B n capB).toArray] w fun e w' => e = .returned (.bool true) ∧ Below w.heap.size w w' := by
  obtain ⟨wb, hwb, S⟩ := hs_two w 31 31 (lT t A n capA) (lT t B n capB)
  go_enter Try.func22, Try.ntmps22
  go_upto_region 1 with fail
  clear hwb
  obtain ⟨X, hX⟩ : ∃ X, w.heap.size = X := ⟨_, rfl⟩
  rw [hX] at S
  obtain ⟨Y, hY⟩ : ∃ Y, X + 1 = Y := ⟨_, rfl⟩
  rw [hY] at S
  rw [hX]
  rw [hY]
  have HX := Lib.hid hX
  clear hX hY
  have HP := Lib.hid ((hp.out.below S.old (Nat.le_refl _)).wide S.old.size)
  have HQ := Lib.hid ((hq.out.below S.old (Nat.le_refl _)).wide S.old.size)
  have HE := Lib.hid (equal_is A B n capA capB L hL hf wb HP HQ)
  have E1 := tms_same t.n1 t.n2 t.n3
  have E2 := tms_same t.m1 t.m2 t.m3
  have E3 := tmr_same t.ho t.hv
  have E4 := tmr_same t.xo t.xv
  have E5 := tmr_same t.zo t.zv
  have x0 := S.cell 1 0 rfl rfl
  have x1 := S.cell 1 1 rfl rfl
  have x2 := S.cell 1 2 rfl rfl
  have x3 := S.cell 1 3 rfl rfl
  have x4 := S.cell 1 4 rfl rfl
  have x5 := S.cell 1 5 rfl rfl
  have x6 := S.cell 1 6 rfl rfl
  have x7 := S.cell 1 7 rfl rfl
  have x8 := S.cell 1 8 rfl rfl
  have x9 := S.cell 1 9 rfl rfl
  have x10 := S.cell 1 10 rfl rfl
  have x11 := S.cell 1 11 rfl rfl
  have x12 := S.cell 1 12 rfl rfl
  have x13 := S.cell 1 13 rfl rfl
  have x14 := S.cell 1 14 rfl rfl
  have x15 := S.cell 1 15 rfl rfl
  have x16 := S.cell 1 16 rfl rfl
  have x17 := S.cell 1 17 rfl rfl
  have x18 := S.cell 1 18 rfl rfl
  have y0 := S.cell 0 0 rfl rfl
  have y1 := S.cell 0 1 rfl rfl
  have y2 := S.cell 0 2 rfl rfl
  have y3 := S.cell 0 3 rfl rfl
  have y4 := S.cell 0 4 rfl rfl
  have y5 := S.cell 0 5 rfl rfl
  have y6 := S.cell 0 6 rfl rfl
  have y7 := S.cell 0 7 rfl rfl
  have y8 := S.cell 0 8 rfl rfl
  have y9 := S.cell 0 9 rfl rfl
  have y10 := S.cell 0 10 rfl rfl
  have y11 := S.cell 0 11 rfl rfl
  have y12 := S.cell 0 12 rfl rfl
  have y13 := S.cell 0 13 rfl rfl
  have y14 := S.cell 0 14 rfl rfl
  have y15 := S.cell 0 15 rfl rfl
  have y16 := S.cell 0 16 rfl rfl
  have y17 := S.cell 0 17 rfl rfl
  have y18 := S.cell 0 18 rfl rfl
  go_wp2_with (go_at_call 47; (with_reducible refine HE.out.mono ?_); rintro e w2 ⟨rfl, b2⟩)
  go_ret
  exact ⟨rfl, S.old.trans (b2.mono S.old.size)⟩

end Go.Proofs.Ytkdbhioneoknjaa
