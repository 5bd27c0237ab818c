/- The law FdbMoves, walked. -/
import Derived.Test.YtokepfgknffdfaaFdbApi
namespace Go.Proofs.Ytokepfgknffdfaa
open Go.ChangeShapes Go.WideShapes Go.ChangeAt Go.RowKit Go.Shelf
set_option linter.unusedVariables false

theorem one_get (a : Int) (v : Int × Int) : getC [(a, v)] a = some v := by rw [getC_cons, if_pos rfl]
theorem one_in (a : Int) (v : Int × Int) : inC [(a, v)] a = true := by simp [inC]
theorem one_port (a p q : Int) : portO (getC [(a, (p, q))] a) = p := by rw [one_get]; rfl
theorem one_put (a : Int) (v u : Int × Int) : putEnd [(a, v)] a u true = [(a, u)] := by simp [putEnd, putC, delC]
theorem one_flush_no (a p q : Int) (h : p ≠ q) : flushC p [(a, (q, 0))] = [(a, (q, 0))] := by
  have : flushN p (q, 0) = ((q, 0), true) := by unfold flushN; simp; exact fun e => h e.symm
  unfold flushC; rw [List.filterMap_cons, keep_some this]; rfl
theorem one_flush_yes (a p : Int) : flushC p [(a, (p, 0))] = [] := by
  have : flushN p (p, 0) = ((p, 0), false) := by unfold flushN; simp
  unfold flushC; rw [List.filterMap_cons, keep_none this]; rfl

theorem one_lost (a p : Int) : (([(a, (p, (0 : Int)))] : List (Int × (Int × Int))).length : Int) - ((flushC p [(a, (p, 0))]).length : Nat) = 1 := by rw [one_flush_yes]; rfl
theorem one_kept (a p q : Int) (h : p ≠ q) : (([(a, (q, (0 : Int)))] : List (Int × (Int × Int))).length : Int) - ((flushC p [(a, (q, 0))]).length : Nat) = 0 := by rw [one_flush_no a p q h]; simp

set_option maxRecDepth 100000 in
set_option maxHeartbeats 4000000 in
theorem FdbMoves_walk (a0 : Int) (a1 : Int) (a2 : Int) (w0 : (Lit.int .u64 a0).wf = true) (w1 : (Lit.int .i64 a1).wf = true) (w2 : (Lit.int .i64 a2).wf = true) (w : World) :
    Calls Try.prog 6 #[.int .u64 a0, .int .i64 a1, .int .i64 a2] w fun e w' => e = .returned (.bool true) ∧ Below w.heap.size w w' := by
  obtain ⟨p0, p1⟩ := bounds_u64 w0
  have p1' : a0 ≤ 18446744073709551615 := by omega
  clear w0 w1 w2 p1
  have HR := fun W => Lib.hid (refright_any a0 p0 p1' W)
  cases hr : rightB a0 with
  | false =>
    rw [hr] at HR
    clear hr
    go_enter Try.func6, Try.ntmps6
    go_wp2_with fail
    (with_reducible refine (awake_is _).mono ?_); rintro e w1 ⟨rfl, b1⟩
    go_wp2_with fail
    (with_reducible refine (HR _).out.mono ?_); rintro e w2 ⟨rfl, rfl⟩
    go_wp2_with fail
    (with_reducible refine (awake_is _).mono ?_); rintro e w2 ⟨rfl, b2⟩
    go_wp2
    go_ret
    exact ⟨rfl, b1.trans (b2.mono b1.size)⟩
  | true =>
    have HL1 : Hid (learnB [] 2 a0 = true) := by rw [Hid]; unfold learnB; rw [hr]; rfl
    have HL2 : Hid (learnB [(a0, (a1, 0))] 2 a0 = true) := by rw [Hid]; unfold learnB; rw [hr, one_in]; rfl
    rw [hr] at HR
    clear hr
    go_enter Try.func6, Try.ntmps6
    go_wp2_with fail
    (with_reducible refine (awake_is _).mono ?_); rintro e w1 ⟨rfl, b1⟩
    go_wp2_with fail
    (with_reducible refine (HR _).out.mono ?_); rintro e w2 ⟨rfl, rfl⟩
    go_wp2_with fail
    (with_reducible refine (FS.new b1 2 2 (by decide)).mono ?_); rintro e w2 ⟨f, rfl, s2⟩
    have S2 := Lib.hid s2
    clear s2
    go_wp2_with fail
    (with_reducible refine (S2.out.learn a0 p0 p1' a1 true HL1).mono ?_); rintro e w3 ⟨rfl, s3⟩
    have S3 : Hid (FS w f 2 [(a0, (a1, 0))] w3) := s3
    clear s3
    go_wp2_with fail
    (with_reducible refine (S3.out.learn a0 p0 p1' a2 true HL2).mono ?_); rintro e w4 ⟨rfl, s4⟩
    rw [one_put] at s4
    have S4 := Lib.hid s4
    clear s4
    go_wp2_with fail
    (with_reducible refine (S4.out.look a0 p0 p1' a2 true (Lib.hid (one_port _ _ _)) (Lib.hid (one_in _ _))).mono ?_); rintro e w5 ⟨rfl, s5⟩
    have S5 := Lib.hid s5
    clear s5
    go_wp2_with fail
    (with_reducible refine (S5.out.len 1 (Lib.hid rfl)).mono ?_); rintro e w6 ⟨rfl, s6⟩
    have S6 := Lib.hid s6
    clear s6
    by_cases hpq : a1 = a2
    · subst hpq
      have g1 : (a1 != a1) = false := by simp
      have g2 : (a1 == a1) = true := by simp
      go_wp2_with fail
      (with_reducible refine (S6.out.flush a1 1 (Lib.hid (one_lost _ _))).mono ?_); rintro e w7 ⟨rfl, s7⟩
      rw [one_flush_yes] at s7
      have S7 := Lib.hid s7
      clear s7
      go_wp2_with fail
      (with_reducible refine (S7.out.look a0 p0 p1' 0 false (Lib.hid rfl) (Lib.hid rfl)).mono ?_); rintro e w8 ⟨rfl, s8⟩
      have B8 := s8.old
      clear s8
      go_wp2
      go_ret
      exact ⟨by simp, B8⟩
    · have g1 : (a1 != a2) = true := by simp [hpq]
      have g2 : (a1 == a2) = false := by simp [hpq]
      have HF := Lib.hid (one_flush_no a0 a1 a2 hpq)
      have HZ := Lib.hid (one_kept a0 a1 a2 hpq)
      clear hpq
      go_wp2_with fail
      (with_reducible refine (S6.out.flush a1 0 HZ).mono ?_); rintro e w7 ⟨rfl, s7⟩
      rw [HF.out] at s7
      have S7 := Lib.hid s7
      clear s7
      go_wp2_with fail
      (with_reducible refine (S7.out.look a0 p0 p1' a2 true (Lib.hid (one_port _ _ _)) (Lib.hid (one_in _ _))).mono ?_); rintro e w8 ⟨rfl, s8⟩
      have B8 := s8.old
      clear s8
      go_wp2
      go_ret
      exact ⟨by simp, B8⟩

end Go.Proofs.Ytokepfgknffdfaa
