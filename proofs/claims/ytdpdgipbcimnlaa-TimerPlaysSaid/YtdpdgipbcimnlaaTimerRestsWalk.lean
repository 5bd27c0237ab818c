/- The law TimerRests, walked: it answers true, whatever the limit. -/
import Derived.Test.YtdpdgipbcimnlaaTimerFire
import Derived.LoopTactic
import Derived.Laws.StructEq
import Derived.Deep.RegionHeld3
import Derived.Deep.DeepCutAuto
namespace Go.Proofs.Ytdpdgipbcimnlaa
open Go.ChangeShapes Go.WideShapes Go.ChangeAt Go.RowKit
set_option linter.unusedVariables false

/-- '==' of timers. -/
theorem tmr_eq (o q : Bool) (v u : Int) (r : Bool) (hr : (decide (o = q) && decide (v = u)) = r) (w : World) : (Op.equalIn 10000 25 (.agg #[.bool o, .int .i64 v]) (.agg #[.bool q, .int .i64 u])).run Try.prog w = .ok r w := by
  rw [show (10000 : Nat) = 9999 + 1 from rfl, run_equalIn_struct w 9999 25 _ _ (by kernel_rfl) (by kernel_rfl)]
  simp only [Program.fieldsOf, Try.underlying25]
  subst hr
  cases o <;> cases q <;> go_simp <;> first | (done) | simp_all | (split <;> simp_all)

/-- Two boxes that rest. -/
def RS (X Y : Nat) (w wx : World) : Prop := TM wx X false 0 ∧ TM wx Y false 0 ∧ Below w.heap.size w wx

theorem RS.below {X Y : Nat} {w wx wy : World} (h : RS X Y w wx) (hb : Below wx.heap.size wx wy) : RS X Y w wy :=
  ⟨h.1.below hb h.1.lt, h.2.1.below hb h.2.1.lt, h.2.2.trans (hb.mono h.2.2.size)⟩
theorem RS.cells {X Y : Nat} {w wx : World} (h : RS X Y w wx) :
    wx.cell? ⟨X, 0, none⟩ = some (.bool false) ∧ wx.cell? ⟨X, 1, none⟩ = some (.int .i64 0) ∧ wx.cell? ⟨Y, 0, none⟩ = some (.bool false) ∧ wx.cell? ⟨Y, 1, none⟩ = some (.int .i64 0) :=
  ⟨h.1.cells.1, h.1.cells.2.1, h.2.1.cells.1, h.2.1.cells.2.1⟩

set_option maxHeartbeats 1000000 in
theorem TimerRests_walk (a0 : Int) (a1 : Int) (w0 : (Lit.int .i64 a0).wf = true) (w1 : (Lit.int .u8 a1).wf = true) (w : World) :
    Calls Try.prog 6 #[.int .i64 a0, .int .u8 a1] w fun e w' => e = .returned (.bool true) ∧ Below w.heap.size w w' := by
  obtain ⟨p0, p1⟩ := bounds_i64 w0
  obtain ⟨q0, q1⟩ := bounds_u8 w1
  have p2 : a0 ≤ 9223372036854775807 := by omega
  clear w0 w1 p1
  have F0 : Hid (firO false 0 a0 = ((false, 0), false)) := by rw [Hid]; rfl
  have O0 : Hid ((false && decide (a0 ≤ 0)) = false) := by rw [Hid]; rfl
  go_enter Try.func6, Try.ntmps6
  go_wp2_with fail
  (with_reducible refine (awake_timer _).mono ?_); rintro e w1 ⟨rfl, b1⟩
  go_wp2_with fail
  (with_reducible refine (stop_is _).mono ?_); rintro e w2 ⟨rfl, b2⟩
  have B2 : Below w.heap.size w w2 := b1.trans (b2.mono b1.size)
  have t2 := TM.new w2 false 0
  have z2 := B2.size
  clear b1 b2
  go_wp2
  have B2' := B2.alloc z2 (Obj.cells #[Value.bool false, Value.int IntKind.i64 0] 25)
  obtain ⟨X, hX⟩ : ∃ X, w2.heap.size = X := ⟨_, rfl⟩
  rw [hX] at t2 z2 ⊢
  generalize w2.alloc (Obj.cells #[Value.bool false, Value.int IntKind.i64 0] 25) = w2b at t2 B2' ⊢
  clear B2 hX
  go_loopw [6] (fun i wr => ∃ k : Nat, (k : Int) ≤ a1 ∧ i = .int .i64 k ∧ TM wr X false 0 ∧ Below w.heap.size w wr) (fun i _ => a1.toNat - (intOf i).toNat)
  case atStart => exact ⟨0, by omega, rfl, t2, B2'⟩
  case round =>
    obtain ⟨k, hk, rfl, t, B⟩ := hrel
    clear t2 B2'
    have tl := t.lt
    obtain ⟨c0, c1, f0, f1⟩ := t.cells
    by_cases hkn : (k : Int) < a1
    · go_wp2_with fail
      (with_reducible refine (fire_is false 0 a0 (by decide) (by decide) p0 p2 _ _ _ F0 _).mono ?_); rintro e w3 ⟨rfl, b3⟩
      have t3 := t.below b3 tl
      have B3 : Below w.heap.size w w3 := B.trans (b3.mono B.size)
      clear b3 c0 c1 f0 f1 t B tl
      have tl3 := t3.lt
      go_upto_region 8 with fail
      obtain ⟨Y, hY⟩ : ∃ Y, w3.heap.size = Y := ⟨_, rfl⟩
      have R : RS X Y w (w3.alloc (Obj.cells #[Value.bool false, Value.int IntKind.i64 0] 25)) := ⟨t3.alloc _, hY ▸ TM.new w3 false 0, B3.alloc B3.size _⟩
      have hXY : X < Y := by omega
      have hwY : w.heap.size ≤ Y := by have := B3.size; omega
      rw [hY]
      generalize w3.alloc (Obj.cells #[Value.bool false, Value.int IntKind.i64 0] 25) = wb at R ⊢
      clear hY t3 B3 tl3
      go_cut [40] (fun q wx => q = .bool false ∧ RS X Y w wx)
      case first =>
        have q1 := tmr_eq false false 0 0 true rfl
        have hR0 := Lib.hid R
        have hRd : Hid (RS X Y w wb.drew) := Lib.hid (show RS X Y w wb.drew from ⟨R.1.drew, R.2.1.drew, R.2.2.drew⟩)
        clear R
        go_region_held3 (fun w' => w'.cell? ⟨X, 0, none⟩ = some (.bool false) ∧ w'.cell? ⟨X, 1, none⟩ = some (.int .i64 0) ∧ w'.cell? ⟨Y, 0, none⟩ = some (.bool false) ∧ w'.cell? ⟨Y, 1, none⟩ = some (.int .i64 0)) (first | exact hR0.out.cells | exact hRd.out.cells | exact hR4.out.cells | exact hR5.out.cells | assumption) (first
          | (go_at_call 11; (with_reducible refine (over_is false 0 a0 (by decide) (by decide) p0 p2 false O0 _).mono ?_); rintro e w4 ⟨rfl, b4⟩; have hR4 := Lib.hid (hRd.out.below b4); clear b4)
          | (go_at_call 13; (with_reducible refine (tick_off 0 (by decide) (by decide) _).mono ?_); rintro e w5 ⟨rfl, b5⟩; have hR5 := Lib.hid (hR4.out.below b5); clear b5))
        all_goals go_wp2_with fail
        all_goals go_meet
        all_goals exact ⟨rfl, hR5.out⟩
      case rest =>
        obtain ⟨rfl, R⟩ := hcut
        obtain ⟨c0, c1, f0, f1⟩ := R.1.cells
        obtain ⟨d0, d1, e0, e1⟩ := R.2.1.cells
        have RE := Lib.hid R
        clear R
        go_wp2
        go_roundw
        case rel => exact ⟨k + 1, by omega, by go_num, RE.out.1.set false 0, (RE.out.2.2.setCell (p := ⟨X, 0, none⟩) z2 _).setCell (p := ⟨X, 1, none⟩) z2 _⟩
        case measure => simp [intOf]; omega
    · go_wp2
      go_ret
      exact ⟨rfl, B⟩

end Go.Proofs.Ytdpdgipbcimnlaa
