/- The law TimerFires, walked: it answers true, whatever the limit. -/
import Derived.Test.YtdpdgipbcimnlaaTimerRestsWalk
namespace Go.Proofs.Ytdpdgipbcimnlaa
open Go.ChangeShapes Go.WideShapes Go.ChangeAt Go.RowKit
set_option linter.unusedVariables false

/-- How often a timer ticks that is to fire by that limit. -/
def ticksI (l : Int) : Int := max ((l + 255) / 256) 1

theorem fir_stays (k l : Int) (k0 : 0 ≤ k) (h : k + 1 < ticksI l) (hl : l < 65536) : firO true (256 * k) l = ((true, 256 * (k + 1)), false) := by
  have e : laterI (256 * k) = 256 * (k + 1) := by unfold ticksI at h; unfold laterI; omega
  unfold firO
  rw [if_pos rfl, e, if_neg (by unfold ticksI at h; omega)]
theorem fir_out (k l : Int) (k0 : 0 ≤ k) (h : k + 1 = ticksI l) (hl : l < 65536) : firO true (256 * k) l = ((false, 0), true) := by
  have e : laterI (256 * k) = 256 * (k + 1) := by unfold ticksI at h; unfold laterI; omega
  unfold firO
  rw [if_pos rfl, e, if_pos (by unfold ticksI at h; omega)]

theorem wrapI (n : Int) (h0 : 0 ≤ n) (h1 : n < 9223372036854775808) : IntKind.i64.wrap n = n := by
  have hm : n % 18446744073709551616 = n := by omega
  unfold IntKind.wrap
  simp [IntKind.bits, IntKind.signed, hm]
  omega

/-- What a loop's head finds. -/
def FiresI (l : Int) (X : Nat) (w : World) (k : Nat) (b : Bool) (wr : World) : Prop :=
  (((k : Int) < ticksI l ∧ b = false ∧ TM wr X true (256 * k)) ∨ ((k : Int) = ticksI l ∧ b = true ∧ TM wr X false 0)) ∧ Below w.heap.size w wr

set_option maxHeartbeats 2000000 in
theorem TimerFires_walk (a0 : Int) (w0 : (Lit.int .u16 a0).wf = true) (w : World) :
    Calls Try.prog 4 #[.int .u16 a0] w fun e w' => e = .returned (.bool true) ∧ Below w.heap.size w w' := by
  obtain ⟨p0, p1⟩ := bounds_u16 w0
  clear w0
  have t0 : 1 ≤ ticksI a0 ∧ ticksI a0 ≤ 256 := by unfold ticksI; omega
  have S0 := fun W => Lib.hid (start_is 0 (by decide) (by decide) W)
  rw [show startI 0 = 0 by decide] at S0
  have O0 : Hid (firO false 0 a0 = ((false, 0), false)) := by rw [Hid]; rfl
  go_enter Try.func4, Try.ntmps4
  go_wp2_with fail
  (with_reducible refine (awake_timer _).mono ?_); rintro e w1 ⟨rfl, b1⟩
  go_wp2_with fail
  (with_reducible refine (S0 _).out.mono ?_); rintro e w2 ⟨rfl, b2⟩
  have B2 : Below w.heap.size w w2 := b1.trans (b2.mono b1.size)
  have t2 := TM.new w2 true 0
  have z2 := B2.size
  clear b1 b2 S0
  go_wp2
  have B2' := B2.alloc z2 (Obj.cells #[Value.bool true, Value.int IntKind.i64 0] 25)
  obtain ⟨X, hX⟩ : ∃ X, w2.heap.size = X := ⟨_, rfl⟩
  rw [hX] at t2 z2 ⊢
  generalize w2.alloc (Obj.cells #[Value.bool true, Value.int IntKind.i64 0] 25) = w2b at t2 B2' ⊢
  clear B2 hX
  go_loopw [4, 5] (fun i f wr => ∃ (k : Nat) (b : Bool), i = .int .i64 k ∧ f = .bool b ∧ Hid (FiresI a0 X w k b wr)) (fun i _ _ => 300 - (intOf i).toNat)
  case atStart => exact ⟨0, false, rfl, rfl, Lib.hid ⟨.inl ⟨by simp; omega, rfl, by simpa using t2⟩, B2'⟩⟩
  case round =>
    obtain ⟨k, b, rfl, rfl, H⟩ := hrel
    clear t2 B2'
    obtain ⟨hh, B⟩ := H.out
    rcases hh with ⟨hk, rfl, t⟩ | ⟨hk, rfl, t⟩
    · have tl := t.lt
      obtain ⟨c0, c1, f0, f1⟩ := t.cells
      have hk3 : (k : Int) < 300 := by omega
      obtain ⟨q, u, x, HF, HE⟩ : ∃ (q : Bool) (u : Int) (x : Bool), Hid (firO true (256 * k) a0 = ((q, u), x)) ∧ Hid (((k : Int) + 1 < ticksI a0 ∧ x = false ∧ q = true ∧ u = 256 * (k + 1)) ∨ ((k : Int) + 1 = ticksI a0 ∧ x = true ∧ q = false ∧ u = 0)) := by
        by_cases hlt : (k : Int) + 1 < ticksI a0
        · exact ⟨_, _, _, Lib.hid (fir_stays k a0 (by omega) hlt (by omega)), Lib.hid (.inl ⟨hlt, rfl, rfl, rfl⟩)⟩
        · exact ⟨_, _, _, Lib.hid (fir_out k a0 (by omega) (by omega) (by omega)), Lib.hid (.inr ⟨by omega, rfl, rfl, rfl⟩)⟩
      obtain ⟨v, hv⟩ : ∃ v, 256 * (k : Int) = v := ⟨_, rfl⟩
      have v0 : 0 ≤ v := by omega
      have v1 : v ≤ 1073741824 := by omega
      rw [hv] at HF c1 t
      have TT := Lib.hid t
      clear t hk H hv
      go_wp2_with fail
      (with_reducible refine (fire_is true v a0 v0 v1 (by omega) (by omega) q u x HF _).mono ?_); rintro e w3 ⟨rfl, b3⟩
      have t3 := TT.out.below b3 tl
      have B3 : Below w.heap.size w w3 := B.trans (b3.mono B.size)
      clear b3 c0 c1 f0 f1 B tl HF TT
      obtain ⟨c0, c1, f0, f1⟩ := t3.cells
      have T3 := Lib.hid t3
      clear t3
      go_wp2
      go_roundw
      case rel =>
        refine ⟨k + 1, x, by go_num, rfl, Lib.hid ⟨?_, (B3.setCell (p := ⟨X, 0, none⟩) z2 _).setCell (p := ⟨X, 1, none⟩) z2 _⟩⟩
        have ec : ((k + 1 : Nat) : Int) = (k : Int) + 1 := by omega
        rcases HE.out with ⟨h1, rfl, rfl, rfl⟩ | ⟨h1, rfl, rfl, rfl⟩
        · exact .inl ⟨by omega, rfl, by rw [ec]; exact T3.out.set true _⟩
        · exact .inr ⟨by omega, rfl, T3.out.set false 0⟩
      case measure => simp [intOf]; omega
    · obtain ⟨c0, c1, f0, f1⟩ := t.cells
      have tl := t.lt
      have hk3 : ((k : Int) < 300) := by omega
      have T := Lib.hid t
      obtain ⟨m, hm⟩ : ∃ m, (a0 + 255) / 256 = m := ⟨_, rfl⟩
      have hm1 : max m 1 = (k : Int) := by rw [hk, ← hm]; rfl
      have hm2 : (a0 + 255).tdiv 256 = m := by rw [Int.tdiv_eq_ediv_of_nonneg (by omega), hm]
      have HM1 := Lib.hid hm1
      have HM2 := Lib.hid hm2
      have hmb : 0 ≤ m ∧ m ≤ 300 := by omega
      clear hm hm1 hm2 t hk H t0
      go_wp2_with fail
      (with_reducible refine (fire_is false 0 a0 (by decide) (by decide) (by omega) (by omega) _ _ _ O0 _).mono ?_); rintro e w3 ⟨rfl, b3⟩
      have t3 := T.out.below b3 tl
      have B3 : Below w.heap.size w w3 := B.trans (b3.mono B.size)
      clear b3 c0 c1 f0 f1 B T tl
      have tl3 := t3.lt
      go_upto_region 10 with fail
      obtain ⟨Y, hY⟩ : ∃ Y, w3.heap.size = Y := ⟨_, rfl⟩
      have R : RS X Y w (w3.alloc (Obj.cells #[Value.bool false, Value.int IntKind.i64 0] 25)) := ⟨t3.alloc _, hY ▸ TM.new w3 false 0, B3.alloc B3.size _⟩
      have hXY : X < Y := by omega
      rw [hY]
      generalize w3.alloc (Obj.cells #[Value.bool false, Value.int IntKind.i64 0] 25) = wb at R ⊢
      clear hY t3 B3 tl3
      have q1 := tmr_eq false false 0 0 true rfl
      have hR0 := Lib.hid R
      have hRd : Hid (RS X Y w wb.drew) := Lib.hid ⟨R.1.drew, R.2.1.drew, R.2.2.drew⟩
      have q2 : ((k : Int) == max (IntKind.wrap .i64 ((IntKind.wrap .i64 (IntKind.wrap .i64 a0 + 255)).tdiv 256)) 1) = true := by
        have hm2 := HM2.out
        have hm1 := HM1.out
        rw [wrapI a0 (by omega) (by omega), wrapI (a0 + 255) (by omega) (by omega), hm2, wrapI m (by omega) (by omega), hm1]
        simp
      clear R
      go_region_held3 (fun w' => w'.cell? ⟨X, 0, none⟩ = some (.bool false) ∧ w'.cell? ⟨X, 1, none⟩ = some (.int .i64 0) ∧ w'.cell? ⟨Y, 0, none⟩ = some (.bool false) ∧ w'.cell? ⟨Y, 1, none⟩ = some (.int .i64 0)) (first | exact hR0.out.cells | exact hRd.out.cells | exact hR5.out.cells | assumption) (first
        | (go_at_call 8; (with_reducible refine (stop_is _).mono ?_); rintro e w5 ⟨rfl, b5⟩; have hR5 := Lib.hid (hRd.out.below b5); clear b5))
      all_goals go_wp2
      all_goals go_ret
      all_goals exact ⟨rfl, hR5.out.2.2⟩

end Go.Proofs.Ytdpdgipbcimnlaa
