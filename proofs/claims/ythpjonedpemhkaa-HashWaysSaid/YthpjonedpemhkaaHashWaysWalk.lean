/- The law HashWays, walked: it answers true, whatever the places. -/
import Derived.Test.YthpjonedpemhkaaHashNextWalk
namespace Go.Proofs.Ythpjonedpemhkaa
open Go.ChangeShapes Go.WideShapes Go.ChangeAt Go.RowKit
set_option linter.unusedVariables false

set_option maxHeartbeats 2000000 in
theorem HashWays_walk (a0 : Int) (a1 : Int) (a2 : Int) (w0 : (Lit.int .u16 a0).wf = true) (w1 : (Lit.int .u16 a1).wf = true) (w2 : (Lit.int .u16 a2).wf = true) (w : World) :
    Calls Try.prog 4 #[.int .u16 a0, .int .u16 a1, .int .u16 a2] w fun e w' => e = .returned (.bool true) ∧ Below w.heap.size w w' := by
  obtain ⟨p0, p1⟩ := bounds_u16 w0
  obtain ⟨q0, q1⟩ := bounds_u16 w1
  obtain ⟨r0, r1⟩ := bounds_u16 w2
  clear w0 w1 w2
  obtain ⟨k, hk⟩ : ∃ k, 1 + a2 % 500 = k := ⟨_, rfl⟩
  have k0 : 1 ≤ k := by omega
  have k1 : k ≤ 500 := by omega
  have kz : ¬ k = 0 := by omega
  obtain ⟨a, ha⟩ : ∃ a, a0.tmod k = a := ⟨_, rfl⟩
  obtain ⟨A0, A1⟩ := mod_bd a0 k k0
  rw [← Int.tmod_eq_emod_of_nonneg p0, ha] at A0 A1
  obtain ⟨b, hb⟩ : ∃ b, a1.tmod k = b := ⟨_, rfl⟩
  obtain ⟨B0, B1⟩ := mod_bd a1 k k0
  rw [← Int.tmod_eq_emod_of_nonneg q0, hb] at B0 B1
  obtain ⟨d, hd⟩ : ∃ d, (b - a) % k = d := ⟨_, rfl⟩
  obtain ⟨D0, D1⟩ := mod_bd (b - a) k k0
  rw [hd] at D0 D1
  obtain ⟨s, rfl⟩ : ∃ s : Nat, d = s := ⟨d.toNat, by omega⟩
  have hdd := way_small a b k A0 A1 B0 B1
  rw [hd] at hdd
  have HDD := Lib.hid hdd
  have HD := Lib.hid hd
  have HB := Lib.hid ((way_back a b k).trans hd)
  have HO := Lib.hid ((way_on a b k).trans hd)
  clear hdd hd
  go_enter Try.func4, Try.ntmps4
  go_wp2_with fail
  (with_reducible refine (awake_hash _).mono ?_); rintro e w' ⟨rfl, rfl⟩
  go_wp2_with fail
  go_quiet (fail)
  go_wp2_with fail
  clear hk ha hb
  go_loop [10, 11] (fun t i => ∃ j : Nat, j ≤ s ∧ i = .int .i64 j ∧ t = .int .i64 ((a + j) % k)) (fun _ i => s - (intOf i).toNat)
  case atStart => exact ⟨0, by omega, rfl, by simp [Int.emod_eq_of_lt A0 A1]⟩
  case round =>
    obtain ⟨j, hj, rfl, rfl⟩ := hrel
    obtain ⟨y, hy⟩ : ∃ y, (a + j) % k = y := ⟨_, rfl⟩
    obtain ⟨y0, y1⟩ := mod_bd (a + j) k k0
    have hn := next_mod a k j k0
    have hs := mod_small a j k A0 A1 (by omega) (by omega)
    rw [hy] at y0 y1 hn hs
    have hdd : ((s : Nat) : Int) = if a ≤ b then b - a else b - a + k := HDD.out
    have HN := Lib.hid hn
    rw [hy]
    clear hy hn
    by_cases hlt : j < s
    · have hyb : (y != b) = true := by
        simp only [bne_iff_ne, ne_eq]
        intro e
        split at hs <;> split at hdd <;> omega
      have hjk : (j : Int) < k := by omega
      clear hs hdd
      go_wp2_with (go_at_call 12; (with_reducible refine (refnext_any _ _ (by omega) (by omega) (by omega) (by omega) _).mono ?_); rintro e w' ⟨rfl, rfl⟩)
      go_round
      case rel => exact ⟨j + 1, by omega, by go_num, by rw [HN.out]⟩
      case measure => simp [intOf]; omega
    · have hyb : y = b := by split at hs <;> split at hdd <;> omega
      obtain rfl : s = j := by omega
      clear hs hdd HN
      subst hyb
      have hjk : (s : Int) < k := by omega
      have e1 := HD.out
      have e2 := HB.out
      have e3 := HO.out
      go_wp2_with (first
        | (go_at_call 13; (with_reducible refine (way_some _ _ _ (by omega) (by omega) (by omega) (by omega) k0 (by omega) _).mono ?_); rintro e w' ⟨rfl, rfl⟩)
        | (go_at_call 13; (with_reducible refine (way_none _ _ _ (by omega) (by omega) _).mono ?_); rintro e w' ⟨rfl, rfl⟩))
      go_ret
      exact ⟨rfl, below_drewN' (Below.refl _ _) _⟩

end Go.Proofs.Ythpjonedpemhkaa
