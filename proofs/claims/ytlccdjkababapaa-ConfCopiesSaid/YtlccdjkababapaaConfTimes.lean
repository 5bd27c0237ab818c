/- Times, Port and Few: contracts, the program's and the document's. -/
import Derived.Test.YtlccdjkababapaaConfMem
namespace Go.Proofs.Ytlccdjkababapaa
open Go.ChangeShapes Go.WideShapes Go.ChangeAt Go.RowKit
set_option linter.unusedVariables false

/-- Is a number one from the least to the most? -/
def inI (n l m : Int) : Bool := decide (l ≤ n) && decide (n ≤ m)
def timesB (c : Cf) : Bool := inI c.ma 6 40 && (inI c.he 1 10 && (inI c.de 4 30 && inI c.ma (2 * (c.he + 1)) (2 * (c.de - 1))))

theorem inI_t {n l m : Int} (h : inI n l m = true) : l ≤ n ∧ n ≤ m := by unfold inI at h; simpa using h
theorem inI_f {n l m : Int} (h : inI n l m = false) : n < l ∨ m < n := by unfold inI at h; simp at h; omega

theorem within_i (n l m : Int) (r : Bool) (hr : Hid (inI n l m = r)) (w : World) :
    Calls Try.prog 21 #[.int .i64 n, .int .i64 l, .int .i64 m] w fun e w' => e = .returned (.bool r) ∧ w = w' := by
  obtain rfl := hr.out
  clear hr
  go_enter Try.func21, Try.ntmps21
  go_wp2
  all_goals go_ret
  all_goals exact ⟨ret_bool (by unfold inI; rw [Bool.eq_iff_iff]; simp <;> omega), rfl⟩

theorem within_u (n l m : Int) (r : Bool) (hr : Hid (inI n l m = r)) (w : World) :
    Calls Try.prog 25 #[.int .u32 n, .int .u32 l, .int .u32 m] w fun e w' => e = .returned (.bool r) ∧ w = w' := by
  obtain rfl := hr.out
  clear hr
  go_enter Try.func25, Try.ntmps25
  go_wp2
  all_goals go_ret
  all_goals exact ⟨ret_bool (by unfold inI; rw [Bool.eq_iff_iff]; simp <;> omega), rfl⟩

theorem port_is (p : PV) (r : Bool) (hr : Hid (inI p.co 1 65535 = r)) (w : World) :
    Calls Try.prog 14 #[.agg #[.int .u8 p.pr, .int .u32 p.co, .bool p.on]] w fun e w' => e = .returned (.bool r) ∧ Below w.heap.size w w' := by
  go_enter Try.func14, Try.ntmps14
  go_wp2_with (go_at_call 25; (with_reducible refine (within_u _ _ _ r hr _).mono ?_); rintro e w' ⟨rfl, rfl⟩)
  go_ret
  exact ⟨rfl, (Below.refl _ _).alloc (Nat.le_refl _) _⟩

theorem few_is (c : Cf) (hn : c.n ≤ 9223372036854775807) (w : World) :
    Calls Try.prog 9 #[.agg #[.int .u64 c.ad, .int .u16 c.pr, .int .i64 c.ma, .int .i64 c.he, .int .i64 c.de, .int .i64 c.ag, .int .i64 c.tb, .slice c.A c.n c.cap]] w fun e w' => e = .returned (.bool (decide (c.n ≤ 200))) ∧ Below w.heap.size w w' := by
  go_enter Try.func9, Try.ntmps9
  go_wp2
  go_ret
  exact ⟨ret_bool (by rw [Bool.eq_iff_iff]; simp <;> omega), (Below.refl _ _).alloc (Nat.le_refl _) _⟩

set_option maxHeartbeats 1000000 in
theorem times_is (c : Cf) (r : Bool) (hr : Hid (timesB c = r)) (w : World) :
    Calls Try.prog 12 #[.agg #[.int .u64 c.ad, .int .u16 c.pr, .int .i64 c.ma, .int .i64 c.he, .int .i64 c.de, .int .i64 c.ag, .int .i64 c.tb, .slice c.A c.n c.cap]] w fun e w' => e = .returned (.bool r) ∧ Below w.heap.size w w' := by
  rcases h1 : inI c.ma 6 40 with _ | _
  · have e := hr.out
    rw [timesB, h1, Bool.false_and] at e
    subst e
    have H1 := Lib.hid h1
    clear hr h1
    go_enter Try.func12, Try.ntmps12
    go_wp2_with (go_at_call 21; (with_reducible refine (within_i _ _ _ _ H1 _).mono ?_); rintro e w' ⟨rfl, rfl⟩)
    go_ret
    exact ⟨rfl, (Below.refl _ _).alloc (Nat.le_refl _) _⟩
  have H1 := Lib.hid h1
  rcases h2 : inI c.he 1 10 with _ | _
  · have e := hr.out
    rw [timesB, h1, h2, Bool.true_and, Bool.false_and] at e
    subst e
    have H2 := Lib.hid h2
    clear hr h1 h2
    go_enter Try.func12, Try.ntmps12
    go_wp2_with (go_at_call 21; (with_reducible first | refine (within_i _ _ _ _ H1 _).mono ?_ | refine (within_i _ _ _ _ H2 _).mono ?_); rintro e w' ⟨rfl, rfl⟩)
    go_ret
    exact ⟨rfl, (Below.refl _ _).alloc (Nat.le_refl _) _⟩
  have H2 := Lib.hid h2
  rcases h3 : inI c.de 4 30 with _ | _
  · have e := hr.out
    rw [timesB, h1, h2, h3, Bool.true_and, Bool.true_and, Bool.false_and] at e
    subst e
    have H3 := Lib.hid h3
    clear hr h1 h2 h3
    go_enter Try.func12, Try.ntmps12
    go_wp2_with (go_at_call 21; (with_reducible first | refine (within_i _ _ _ _ H1 _).mono ?_ | refine (within_i _ _ _ _ H2 _).mono ?_ | refine (within_i _ _ _ _ H3 _).mono ?_); rintro e w' ⟨rfl, rfl⟩)
    go_ret
    exact ⟨rfl, (Below.refl _ _).alloc (Nat.le_refl _) _⟩
  have H3 := Lib.hid h3
  have e := hr.out
  rw [timesB, h1, h2, h3, Bool.true_and, Bool.true_and, Bool.true_and] at e
  have H4 := Lib.hid e
  obtain ⟨a1, a2⟩ := inI_t h1
  obtain ⟨b1, b2⟩ := inI_t h2
  obtain ⟨d1, d2⟩ := inI_t h3
  clear hr h1 h2 h3 e
  go_enter Try.func12, Try.ntmps12
  go_wp2_with (go_at_call 21; (with_reducible first | refine (within_i _ _ _ _ H1 _).mono ?_ | refine (within_i _ _ _ _ H2 _).mono ?_ | refine (within_i _ _ _ _ H3 _).mono ?_ | refine (within_i _ _ _ _ H4 _).mono ?_); rintro e w' ⟨rfl, rfl⟩)
  go_ret
  exact ⟨rfl, (Below.refl _ _).alloc (Nat.le_refl _) _⟩

end Go.Proofs.Ytlccdjkababapaa
