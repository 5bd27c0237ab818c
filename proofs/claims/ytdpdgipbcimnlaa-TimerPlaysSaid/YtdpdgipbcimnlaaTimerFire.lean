/- Fire; the document's Start, Tick and Fire; the law's 'is' and its example. -/
import Derived.Test.YtdpdgipbcimnlaaTimerBase
import Derived.Test.YtdpdgipbcimnlaaTimerMem
namespace Go.Proofs.Ytdpdgipbcimnlaa
open Go.ChangeShapes Go.WideShapes Go.ChangeAt Go.RowKit
set_option linter.unusedVariables false

/-- What one calls that answers a timer, and whether it ran out. -/
def FEnd (W : World) (o : Bool) (v : Int) (x : Bool) (e : Ending) (W' : World) : Prop :=
  e = .returned (.tuple #[.agg #[.bool o, .int .i64 v], .bool x]) ∧ Below W.heap.size W W'

set_option maxHeartbeats 1000000 in
theorem fire_out (v l : Int) (h0 : 0 ≤ v) (h1 : v ≤ 1073741824) (k0 : -9223372036854775808 ≤ l) (k1 : l ≤ 9223372036854775807) (h : Hid (l ≤ laterI v)) (w : World) :
    Calls Try.prog 15 #[.agg #[.bool true, .int .i64 v], .int .i64 l] w (FEnd w false 0 true) := by
  have sb := laterI_bd v h0
  have hr : Hid ((true && decide (l ≤ laterI v)) = true) := by rw [Hid]; simpa using h.out
  go_enter Try.func15, Try.ntmps15
  go_wp2_with fail
  (with_reducible refine (tick_on v h0 h1 _).mono ?_); rintro e w1 ⟨rfl, b1⟩
  have z1 := b1.size
  simp at z1
  have t1 : TM w1 (w.heap.size + 1) false 0 := TM.below (B := w.heap.size + 2) (by have := TM.new (w.alloc (Obj.cells #[Value.bool true, Value.int IntKind.i64 v] 25)) false 0; simpa using this) (by simpa using b1) (by omega)
  have B1 : Below w.heap.size w w1 := (((Below.refl w.heap.size w).alloc (Nat.le_refl _) _).alloc (by simp) _).trans (b1.mono (by simp; omega))
  clear b1
  go_wp2_with fail
  (with_reducible refine (over_is true (laterI v) l (by omega) sb.2 k0 k1 true hr _).mono ?_); rintro e w2 ⟨rfl, b2⟩
  have z2 := b2.size
  simp at z2
  have t2 : TM w2 (w.heap.size + 1) false 0 := (t1.alloc _).below b2 (by simp; omega)
  have B2 : Below w.heap.size w w2 := (B1.alloc (by omega) _).trans (b2.mono (by simp; omega))
  clear b2 B1 t1
  go_wp2_with fail
  (with_reducible refine (stop_is _).mono ?_); rintro e w3 ⟨rfl, b3⟩
  have z3 := b3.size
  have t3 := t2.below b3 (by omega)
  have B3 : Below w.heap.size w w3 := B2.trans (b3.mono (by omega))
  obtain ⟨c0, c1, f0, f1⟩ := t3.cells
  clear b3 B2 t2
  go_wp2
  exact bodyPost_ret (v := .tuple #[.agg #[.bool false, .int .i64 0], .bool true]) (by simp [results, Try.results15, go_sem, c0, c1]) rfl ⟨rfl, (B3.setCell (by simp) _).setCell (by simp) _⟩

theorem tick_any (o : Bool) (v : Int) (h0 : 0 ≤ v) (h1 : v ≤ 1073741824) (w : World) :
    Calls Try.prog 13 #[.agg #[.bool o, .int .i64 v]] w (TEnd w o (if o then laterI v else v)) := by
  cases o with
  | true => exact tick_on v h0 h1 w
  | false => exact tick_off v h0 h1 w

set_option maxHeartbeats 1000000 in
theorem fire_stays (o : Bool) (v u l : Int) (h0 : 0 ≤ v) (h1 : v ≤ 1073741824) (k0 : -9223372036854775808 ≤ l) (k1 : l ≤ 9223372036854775807) (hu : Hid ((if o then laterI v else v) = u)) (h : Hid ((o && decide (l ≤ u)) = false)) (w : World) :
    Calls Try.prog 15 #[.agg #[.bool o, .int .i64 v], .int .i64 l] w (FEnd w o u false) := by
  have sb := laterI_bd v h0
  have ub : 0 ≤ u ∧ u ≤ 1073741824 := by
    rw [← hu.out]
    cases o
    · exact ⟨h0, h1⟩
    · exact ⟨by simpa using (by omega), by simpa using sb.2⟩
  have HT := fun W => Lib.hid (tick_any o v h0 h1 W)
  rw [hu.out] at HT
  clear hu
  go_enter Try.func15, Try.ntmps15
  go_wp2_with fail
  (with_reducible refine (HT _).out.mono ?_); rintro e w1 ⟨rfl, b1⟩
  have z1 := b1.size
  simp at z1
  have t1 : TM w1 (w.heap.size + 1) false 0 := TM.below (B := w.heap.size + 2) (by have := TM.new (w.alloc (Obj.cells #[Value.bool o, Value.int IntKind.i64 v] 25)) false 0; simpa using this) (by simpa using b1) (by omega)
  have B1 : Below w.heap.size w w1 := (((Below.refl w.heap.size w).alloc (Nat.le_refl _) _).alloc (by simp) _).trans (b1.mono (by simp; omega))
  clear b1 HT
  go_wp2_with fail
  (with_reducible refine (over_is o u l ub.1 ub.2 k0 k1 false h _).mono ?_); rintro e w2 ⟨rfl, b2⟩
  have z2 := b2.size
  simp at z2
  have t2 : TM w2 (w.heap.size + 1) false 0 := (t1.alloc _).below b2 (by simp; omega)
  have t3 : TM w2 w1.heap.size o u := (TM.new w1 o u).below b2 (by simp)
  have B2 : Below w.heap.size w w2 := (B1.alloc (by omega) _).trans (b2.mono (by simp; omega))
  obtain ⟨c0, c1, f0, f1⟩ := t2.cells
  obtain ⟨d0, d1, e0, e1⟩ := t3.cells
  clear b2 B1 t1 t2 t3
  go_wp2
  exact bodyPost_ret (v := .tuple #[.agg #[.bool o, .int .i64 u], .bool false]) (by simp [results, Try.results15, go_sem, c0, c1]) rfl ⟨rfl, (B2.setCell (by simp) _).setCell (by simp) _⟩

/-- Fire, of whatever timer. -/
def firO (o : Bool) (v l : Int) : (Bool × Int) × Bool :=
  if o then (if l ≤ laterI v then ((false, 0), true) else ((true, laterI v), false)) else ((false, v), false)

theorem firO_bd (o : Bool) (v l : Int) (h0 : 0 ≤ v) (h1 : v ≤ 1073741824) : 0 ≤ (firO o v l).1.2 ∧ (firO o v l).1.2 ≤ 1073741824 := by
  have sb := laterI_bd v h0
  unfold firO
  split
  · split
    · exact ⟨by decide, (by decide : (0 : Int) ≤ 1073741824)⟩
    · exact ⟨by show 0 ≤ laterI v; omega, sb.2⟩
  · exact ⟨h0, h1⟩

theorem fire_is (o : Bool) (v l : Int) (h0 : 0 ≤ v) (h1 : v ≤ 1073741824) (k0 : -9223372036854775808 ≤ l) (k1 : l ≤ 9223372036854775807) (q : Bool) (u : Int) (x : Bool) (hr : Hid (firO o v l = ((q, u), x))) (w : World) :
    Calls Try.prog 15 #[.agg #[.bool o, .int .i64 v], .int .i64 l] w (FEnd w q u x) := by
  have hr := hr.out
  unfold firO at hr
  cases o with
  | true =>
    by_cases h : l ≤ laterI v
    · simp [h] at hr
      obtain ⟨⟨rfl, rfl⟩, rfl⟩ := hr
      exact fire_out v l h0 h1 k0 k1 (Lib.hid h) w
    · simp [h] at hr
      obtain ⟨⟨rfl, rfl⟩, rfl⟩ := hr
      exact fire_stays true v (laterI v) l h0 h1 k0 k1 (Lib.hid rfl) (Lib.hid (by simp; omega)) w
  | false =>
    simp at hr
    obtain ⟨⟨rfl, rfl⟩, rfl⟩ := hr
    exact fire_stays false v v l h0 h1 k0 k1 (Lib.hid rfl) (Lib.hid rfl) w

/-- The document's answers, of a number. -/
def rtick (n : Int) : Int := if n < 0 then n else startI (n + 256)
def rfire (n l : Int) : Int × Int := if 0 ≤ rtick n ∧ l ≤ rtick n then (-1, 1) else (rtick n, 0)

theorem rstart_is (n : Int) (h0 : -9223372036854775808 ≤ n) (h1 : n ≤ 9223372036854775807) (w : World) :
    Calls Try.prog 10 #[.int .i64 n] w fun e w' => e = .returned (.int .i64 (startI n)) ∧ w = w' := by
  go_enter Try.func10, Try.ntmps10
  go_wp2
  all_goals go_ret
  all_goals exact ⟨ret_int (by unfold startI; omega), rfl⟩

theorem rtick_bd (n : Int) (h0 : -1 ≤ n) : -1 ≤ rtick n ∧ rtick n ≤ 1073741824 := by
  have := startI_bd (n + 256)
  unfold rtick
  split <;> omega

theorem rtick_is (n : Int) (h0 : -1 ≤ n) (h1 : n ≤ 1073741824) (w : World) :
    Calls Try.prog 14 #[.int .i64 n] w fun e w' => e = .returned (.int .i64 (rtick n)) ∧ w = w' := by
  by_cases h : n < 0
  · have e : rtick n = n := by unfold rtick; rw [if_pos h]
    rw [e]
    go_enter Try.func14, Try.ntmps14
    go_wp2
    go_ret
    exact ⟨rfl, rfl⟩
  · have e : rtick n = startI (n + 256) := by unfold rtick; rw [if_neg h]
    rw [e]
    go_enter Try.func14, Try.ntmps14
    go_wp2_with (go_at_call 10; (with_reducible refine (rstart_is _ (by omega) (by omega) _).mono ?_); rintro e w' ⟨rfl, rfl⟩)
    go_ret
    exact ⟨rfl, rfl⟩

theorem rfire_is (n l : Int) (h0 : -1 ≤ n) (h1 : n ≤ 1073741824) (k0 : -9223372036854775808 ≤ l) (k1 : l ≤ 9223372036854775807) (m x : Int) (hr : Hid (rfire n l = (m, x))) (w : World) :
    Calls Try.prog 16 #[.int .i64 n, .int .i64 l] w fun e w' => e = .returned (.tuple #[.int .i64 m, .int .i64 x]) ∧ w = w' := by
  obtain ⟨t, ht⟩ : ∃ t, rtick n = t := ⟨_, rfl⟩
  have tb := rtick_bd n h0
  have HT := fun W => Lib.hid (rtick_is n h0 h1 W)
  rw [ht] at tb HT
  have hr2 := hr.out
  unfold rfire at hr2
  rw [ht] at hr2
  clear hr ht
  by_cases c0 : 0 ≤ t
  · by_cases c1 : l ≤ t
    · rw [if_pos ⟨c0, c1⟩] at hr2
      cases hr2
      go_enter Try.func16, Try.ntmps16
      go_wp2_with (go_at_call 14; (with_reducible refine (HT _).out.mono ?_); rintro e w' ⟨rfl, rfl⟩)
      exact bodyPost_ret (v := .tuple #[.int .i64 (-1), .int .i64 1]) (by simp [results, Try.results16, go_sem]) rfl ⟨rfl, rfl⟩
    · rw [if_neg (by omega)] at hr2
      cases hr2
      go_enter Try.func16, Try.ntmps16
      go_wp2_with (go_at_call 14; (with_reducible refine (HT _).out.mono ?_); rintro e w' ⟨rfl, rfl⟩)
      exact bodyPost_ret (v := .tuple #[.int .i64 m, .int .i64 0]) (by simp [results, Try.results16, go_sem]) rfl ⟨rfl, rfl⟩
  · rw [if_neg (by omega)] at hr2
    cases hr2
    go_enter Try.func16, Try.ntmps16
    go_wp2_with (go_at_call 14; (with_reducible refine (HT _).out.mono ?_); rintro e w' ⟨rfl, rfl⟩)
    exact bodyPost_ret (v := .tuple #[.int .i64 m, .int .i64 0]) (by simp [results, Try.results16, go_sem]) rfl ⟨rfl, rfl⟩

/-- Is a timer what a number tells? -/
def isB (o : Bool) (v n : Int) : Bool := if n < 0 then (!o && decide (v = 0)) else (o && decide (v = n))

set_option maxHeartbeats 1000000 in
theorem is_is (o : Bool) (v n : Int) (h0 : 0 ≤ v) (h1 : v ≤ 1073741824) (k0 : -9223372036854775808 ≤ n) (k1 : n ≤ 9223372036854775807) (hr : Hid (isB o v n = true)) (w : World) :
    Calls Try.prog 12 #[.agg #[.bool o, .int .i64 v], .int .i64 n] w fun e w' => e = .returned (.bool true) ∧ Below w.heap.size w w' := by
  have hr := hr.out
  unfold isB at hr
  by_cases c : n < 0
  · rw [if_pos c] at hr
    simp at hr
    obtain ⟨rfl, rfl⟩ := hr
    go_enter Try.func12, Try.ntmps12
    go_wp2
    go_ret
    exact ⟨rfl, ((Below.refl _ _).alloc (Nat.le_refl _) _)⟩
  · rw [if_neg c] at hr
    simp at hr
    obtain ⟨rfl, rfl⟩ := hr
    go_enter Try.func12, Try.ntmps12
    go_wp2
    go_ret
    exact ⟨rfl, ((Below.refl _ _).alloc (Nat.le_refl _) _)⟩

set_option maxHeartbeats 1000000 in
theorem awake_timer (w : World) : Calls Try.prog 7 #[] w fun e w' => e = .returned (.bool true) ∧ Below w.heap.size w w' := by
  have s0 : startI 0 = 0 := by decide
  have F1 : Hid (firO true 0 512 = ((true, 256), false)) := by rw [Hid]; decide
  have F2 : Hid (firO true 256 512 = ((false, 0), true)) := by rw [Hid]; decide
  go_enter Try.func7, Try.ntmps7
  go_wp2_with fail
  (with_reducible refine (start_is 0 (by decide) (by decide) _).mono ?_); rintro e w1 ⟨rfl, b1⟩
  go_wp2_with fail
  (with_reducible refine (fire_is true 0 512 (by decide) (by decide) (by decide) (by decide) _ _ _ F1 _).mono ?_); rintro e w2 ⟨rfl, b2⟩
  have B2 : Below w.heap.size w w2 := b1.trans (b2.mono b1.size)
  clear b1 b2
  go_wp2_with fail
  (with_reducible refine (fire_is true 256 512 (by decide) (by decide) (by decide) (by decide) _ _ _ F2 _).mono ?_); rintro e w3 ⟨rfl, b3⟩
  have z3 := b3.size
  simp at z3
  have z2 := B2.size
  have t3 : TM w3 w2.heap.size true 256 := (TM.new w2 true 256).below b3 (by simp)
  have B3 : Below w.heap.size w w3 := (B2.alloc z2 _).trans (b3.mono (by simp; omega))
  obtain ⟨c0, c1, f0, f1⟩ := t3.cells
  have z4 : w2.heap.size < w3.heap.size := by omega
  clear b3 B2 t3 F1 F2 s0 z3
  go_wp2
  go_ret
  exact ⟨rfl, B3.alloc (by omega) _⟩

end Go.Proofs.Ytdpdgipbcimnlaa
