/- The law HashNext, walked: it answers true, whatever the places. -/
import Derived.Test.YthpjonedpemhkaaHashNum
import Derived.Deep.QuietTactic
import Derived.BigQuiet
import Derived.LoopTactic
namespace Go.Proofs.Ythpjonedpemhkaa
open Go.ChangeShapes Go.WideShapes Go.ChangeAt Go.RowKit
set_option linter.unusedVariables false

theorem way_quiet (x y n : Int) (hx0 : -9223372036854775808 ≤ x) (hx1 : x ≤ 9223372036854775807) (hy0 : -9223372036854775808 ≤ y) (hy1 : y ≤ 9223372036854775807) (h : 1 ≤ n) (hn1 : n ≤ 9223372036854775807) (v : Int) (hv : Hid ((y - x) % n = v)) (w : World) :
    Calls Try.prog 13 #[.int .i64 x, .int .i64 y, .int .i64 n] w fun e w' => e = .returned (.int .i64 v) ∧ w' = w :=
  (way_some x y n hx0 hx1 hy0 hy1 h hn1 w).mono fun _ _ ⟨he, hw⟩ => ⟨by rw [he, hv.out], hw.symm⟩

theorem next_mod (a k : Int) (i : Nat) (hk : 1 ≤ k) : nextI ((a + i) % k) k = (a + (i + 1 : Nat)) % k := by
  obtain ⟨b0, b1⟩ := mod_bd (a + i) k hk
  have e : (a + ((i + 1 : Nat) : Int)) % k = ((a + i) % k + 1) % k := by
    rw [Int.emod_add_emod]
    congr 1
    omega
  rw [e]
  unfold nextI
  by_cases h : (a + i) % k < k - 1
  · rw [if_pos ⟨b0, h⟩, Int.emod_eq_of_lt (a := (a + (i : Int)) % k + 1) (b := k) (by omega) (by omega)]
  · rw [if_neg (by omega)]
    have : (a + (i : Int)) % k + 1 = k := by omega
    rw [this, Int.emod_self]

theorem below_drewN' {B : Nat} {a w : World} (h : Below B a w) (n : Nat) : Below B a (w.drewN n) := ⟨h.os, h.tape, h.output, h.size, h.block⟩

set_option maxHeartbeats 1000000 in
theorem HashNext_walk (a0 : Int) (a1 : Int) (a2 : Int) (w0 : (Lit.int .u16 a0).wf = true) (w1 : (Lit.int .u16 a1).wf = true) (w2 : (Lit.int .u8 a2).wf = true) (w : World) :
    Calls Try.prog 6 #[.int .u16 a0, .int .u16 a1, .int .u8 a2] w fun e w' => e = .returned (.bool true) ∧ Below w.heap.size w w' := by
  obtain ⟨p0, p1⟩ := bounds_u16 w0
  obtain ⟨q0, q1⟩ := bounds_u16 w1
  obtain ⟨r0, r1⟩ := bounds_u8 w2
  clear w0 w1 w2
  obtain ⟨k, hk⟩ : ∃ k, 1 + a1 % 500 = k := ⟨_, rfl⟩
  have k0 : 1 ≤ k := by omega
  have k1 : k ≤ 500 := by omega
  obtain ⟨a, ha⟩ : ∃ a, a0 % k = a := ⟨_, rfl⟩
  obtain ⟨A0, A1⟩ := mod_bd a0 k k0
  rw [ha] at A0 A1
  obtain ⟨s, rfl⟩ : ∃ s : Nat, a2 = s := ⟨a2.toNat, by omega⟩
  go_enter Try.func6, Try.ntmps6
  go_wp2_with fail
  (with_reducible refine (awake_hash _).mono ?_); rintro e w' ⟨rfl, rfl⟩
  go_wp2_with fail
  rw [ha]
  have HK := Lib.hid hk
  have HA := Lib.hid ha
  clear hk ha
  go_loopw [9, 10] (fun t i wr => ∃ j : Nat, j ≤ s ∧ i = .int .i64 j ∧ t = .int .i64 ((a + j) % k) ∧ Below w.heap.size w wr) (fun _ i _ => s - (intOf i).toNat)
  case atStart => exact ⟨0, by omega, rfl, by simp [Int.emod_eq_of_lt A0 A1], Below.refl _ _⟩
  case round =>
    obtain ⟨j, hj, rfl, rfl, hb⟩ := hrel
    obtain ⟨y, hy⟩ : ∃ y, (a + j) % k = y := ⟨_, rfl⟩
    obtain ⟨y0, y1⟩ := mod_bd (a + j) k k0
    have hn := next_mod a k j k0
    rw [hy] at y0 y1 hn
    have HY := Lib.hid hy
    have HN := Lib.hid hn
    rw [hy]
    clear hy hn
    by_cases hlt : j < s
    · obtain ⟨v, hv⟩ : ∃ v, (j : Int) % k = v := ⟨_, rfl⟩
      have hv2 : (y - a) % k = v := by
        rw [← HY.out, Int.emod_sub_emod, ← hv]
        congr 1
        omega
      have HV := Lib.hid hv2
      have hv3 : (j : Int).tmod k = v := by rw [Int.tmod_eq_emod_of_nonneg (by omega), hv]
      have hk0 : ¬ k = 0 := by omega
      clear hv2
      go_wp2_with fail
      go_quiet ((go_at_call 13; exact Calls.quiet_of_same (way_quiet _ _ _ (by omega) (by omega) (by omega) (by omega) k0 (by omega) v HV _)))
      clear hv hv3
      go_wp2_with (go_at_call 11; (with_reducible refine (next_any _ _ (by omega) (by omega) (by omega) (by omega) _).mono ?_); rintro e w' ⟨rfl, rfl⟩)
      go_roundw
      case rel => exact ⟨j + 1, by omega, by go_num, by rw [HN.out], below_drewN' hb _⟩
      case measure => simp [intOf]; omega
    · have hz : (y - y) % k = 0 := by rw [Int.sub_self, Int.zero_emod]
      go_wp2_with (go_at_call 13; (with_reducible refine (way_some _ _ _ (by omega) (by omega) (by omega) (by omega) k0 (by omega) _).mono ?_); rintro e w' ⟨rfl, rfl⟩)
      go_ret
      exact ⟨rfl, hb⟩

end Go.Proofs.Ythpjonedpemhkaa
