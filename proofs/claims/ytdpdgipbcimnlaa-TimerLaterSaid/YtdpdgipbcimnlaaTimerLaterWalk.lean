/- The law TimerLater, walked: it answers true, whatever the times. -/
import Derived.Test.YtdpdgipbcimnlaaTimerFire
namespace Go.Proofs.Ytdpdgipbcimnlaa
open Go.ChangeShapes Go.WideShapes Go.ChangeAt Go.RowKit
set_option linter.unusedVariables false

theorem startI_in (v : Int) (h0 : 0 ≤ v) (h1 : v ≤ 1073741824) : startI v = v := by unfold startI; omega
theorem laterI_le (a b : Int) (h : a ≤ b) : laterI a ≤ laterI b := by unfold laterI; omega

theorem fir_x (v l : Int) : ∃ q u, firO true v l = ((q, u), decide (l ≤ laterI v)) := by
  unfold firO
  by_cases h : l ≤ laterI v
  · exact ⟨false, 0, by simp [h]⟩
  · exact ⟨true, laterI v, by simp [h]⟩

set_option maxHeartbeats 1000000 in
theorem TimerLater_walk (a0 : Int) (a1 : Int) (a2 : Int) (a3 : Int) (w0 : (Lit.int .u16 a0).wf = true) (w1 : (Lit.int .u16 a1).wf = true) (w2 : (Lit.int .u16 a2).wf = true) (w3 : (Lit.int .u16 a3).wf = true) (w : World) :
    Calls Try.prog 5 #[.int .u16 a0, .int .u16 a1, .int .u16 a2, .int .u16 a3] w fun e w' => e = .returned (.bool true) ∧ Below w.heap.size w w' := by
  obtain ⟨p0, p1⟩ := bounds_u16 w0
  obtain ⟨q0, q1⟩ := bounds_u16 w1
  obtain ⟨l0, l1⟩ := bounds_u16 w2
  obtain ⟨n0, n1⟩ := bounds_u16 w3
  clear w0 w1 w2 w3
  obtain ⟨lo, hlo⟩ : ∃ lo, min a0 a1 = lo := ⟨_, rfl⟩
  obtain ⟨hi, hhi⟩ : ∃ hi, max a0 a1 = hi := ⟨_, rfl⟩
  have A0 : 0 ≤ lo := by omega
  have A1 : lo < 65536 := by omega
  have B0 : 0 ≤ hi := by omega
  have B1 : hi < 65536 := by omega
  have hle : lo ≤ hi := by omega
  obtain ⟨g1, u1, F1⟩ := fir_x lo a2
  obtain ⟨g2, u2, F2⟩ := fir_x hi a2
  obtain ⟨g3, u3, F3⟩ := fir_x lo (a2 + a3)
  have hll := laterI_le lo hi hle
  obtain ⟨x, hx⟩ : ∃ x, decide (a2 ≤ laterI lo) = x := ⟨_, rfl⟩
  obtain ⟨y, hy⟩ : ∃ y, decide (a2 ≤ laterI hi) = y := ⟨_, rfl⟩
  obtain ⟨z, hz⟩ : ∃ z, decide (a2 + a3 ≤ laterI lo) = z := ⟨_, rfl⟩
  have hxy : x = true → y = true := by rw [← hx, ← hy]; simp; omega
  have hzx : z = true → x = true := by rw [← hx, ← hz]; simp; omega
  rw [hx] at F1
  rw [hy] at F2
  rw [hz] at F3
  have HF1 := Lib.hid F1
  have HF2 := Lib.hid F2
  have HF3 := Lib.hid F3
  have S1 := fun W => Lib.hid (start_is lo (by omega) (by omega) W)
  have S2 := fun W => Lib.hid (start_is hi (by omega) (by omega) W)
  rw [startI_in lo A0 (by omega)] at S1
  rw [startI_in hi B0 (by omega)] at S2
  have HXY := Lib.hid hxy
  have HZX := Lib.hid hzx
  clear F1 F2 F3 hx hy hz hxy hzx hll hle
  go_enter Try.func5, Try.ntmps5
  go_wp2_with fail
  (with_reducible refine (awake_timer _).mono ?_); rintro e w1 ⟨rfl, b1⟩
  go_wp2_with fail
  (with_reducible refine (S1 _).out.mono ?_); rintro e w2 ⟨rfl, b2⟩
  have B2 : Below w.heap.size w w2 := b1.trans (b2.mono b1.size)
  clear b1 b2
  go_wp2_with fail
  (with_reducible refine (fire_is true lo a2 A0 (by omega) (by omega) (by omega) _ _ _ HF1 _).mono ?_); rintro e w3 ⟨rfl, b3⟩
  have B3 : Below w.heap.size w w3 := B2.trans (b3.mono B2.size)
  clear b3 B2
  go_wp2_with fail
  (with_reducible refine (S2 _).out.mono ?_); rintro e w4 ⟨rfl, b4⟩
  have B3' := B3.alloc B3.size (Obj.cells #[Value.bool g1, Value.int IntKind.i64 u1] 25)
  have B4 : Below w.heap.size w w4 := B3'.trans (b4.mono B3'.size)
  clear b4 B3 B3'
  go_wp2_with fail
  (with_reducible refine (fire_is true hi a2 B0 (by omega) (by omega) (by omega) _ _ _ HF2 _).mono ?_); rintro e w5 ⟨rfl, b5⟩
  have B5 : Below w.heap.size w w5 := B4.trans (b5.mono B4.size)
  clear b5 B4
  go_wp2_with fail
  (with_reducible refine (S1 _).out.mono ?_); rintro e w6 ⟨rfl, b6⟩
  have B5' := B5.alloc B5.size (Obj.cells #[Value.bool g2, Value.int IntKind.i64 u2] 25)
  have B6 : Below w.heap.size w w6 := B5'.trans (b6.mono B5'.size)
  clear b6 B5 B5'
  go_wp2_with fail
  (with_reducible refine (fire_is true lo (a2 + a3) A0 (by omega) (by omega) (by omega) _ _ _ HF3 _).mono ?_); rintro e w7 ⟨rfl, b7⟩
  have B7 : Below w.heap.size w w7 := B6.trans (b7.mono B6.size)
  clear b7 B6 HF1 HF2 HF3 S1 S2
  have hxy := HXY.out
  have hzx := HZX.out
  clear HXY HZX
  cases x <;> cases y <;> cases z
  all_goals first
    | (exact absurd (hxy rfl) (by decide))
    | (exact absurd (hzx rfl) (by decide))
    | (go_wp2
       go_ret
       exact ⟨rfl, B7.alloc B7.size _⟩)

end Go.Proofs.Ytdpdgipbcimnlaa
