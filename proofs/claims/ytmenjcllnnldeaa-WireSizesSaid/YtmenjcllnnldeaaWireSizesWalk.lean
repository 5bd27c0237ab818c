/- The law WireSizes, walked: it answers true, whatever the bytes, the number and the size. -/
import Derived.Test.YtmenjcllnnldeaaWireArg
namespace Go.Proofs.Ytmenjcllnnldeaa
open Go.ChangeShapes Go.WideShapes Go.ChangeAt Go.RowKit
set_option linter.unusedVariables false

theorem sizes_long (A : Option Addr) (m c : Nat) (n s : Int) (h : 600 < m) (hm : m ≤ 9223372036854775807) (w : World) :
    Calls Try.prog 6 #[.slice A m c, .int .u64 n, .int .u8 s] w fun e w' => e = .returned (.bool true) ∧ Below w.heap.size w w' := by
  go_enter Try.func6, Try.ntmps6
  go_wp2_with fail
  (with_reducible refine (awake_any _).mono ?_); rintro e wa ⟨rfl, hba⟩
  go_wp2_with fail
  (with_reducible refine (awake_any _).mono ?_); rintro e wb ⟨rfl, hbb⟩
  go_wp2
  go_ret
  exact ⟨rfl, hba.trans (hbb.mono hba.size)⟩

theorem bk_drop {w : World} {g : Nat} {t : TypeId} {l x : List UInt8} (h : Bk w g t ((l ++ x).map bc)) (m : Nat) (hm : l.length = m) (lo hi : Nat) (h1 : lo ≤ g) (h2 : g < hi) : RB w (some ⟨g, m, none⟩) lo hi x := by
  intro _
  refine ⟨_, rfl, h1, h2, fun j hj => ?_⟩
  rw [addr_add, h.cell]
  subst hm
  simp [hj]

theorem num_put (n : Int) (h0 : 0 ≤ n) (h1 : n < 18446744073709551616) (k : Nat) : numU ((beB n k).take k) = restK n k := by
  rw [List.take_of_length_le (by rw [beB_len]; omega), numU_beB n h0 h1]

theorem put_none (n : Int) (k : Nat) : (beB n k).drop k = [] := List.drop_eq_nil_of_le (by rw [beB_len]; omega)

set_option maxRecDepth 100000 in
set_option maxHeartbeats 2000000 in
theorem sizes_some (A : Option Addr) (m c k : Nat) (n s : Int) (l : List UInt8) (hl : Hid (l.length = m)) (h : m ≤ 600) (hmc : m ≤ c) (h0 : 0 ≤ n) (h1 : n < 18446744073709551616) (s0 : 0 ≤ s) (s1 : s < 256) (w : World) (hr : RB w A 0 w.heap.size l)
    (hk : Hid (s % 20 = (k : Int))) (hk1 : 1 ≤ k) (hk20 : k < 20) :
    Calls Try.prog 6 #[.slice A m c, .int .u64 n, .int .u8 s] w fun e w' => e = .returned (.bool true) ∧ Below w.heap.size w w' := by
  have hk0 : ¬ m + k = m := by omega
  go_enter Try.func6, Try.ntmps6
  go_wp2_with fail
  (with_reducible refine (awake_any _).mono ?_); rintro e wa ⟨rfl, hba⟩
  go_wp2_with fail
  rw [hk.out]
  (with_reducible refine (put64 A c l m 0 w.heap.size k (k : Int) n (Lib.hid rfl) (by omega) h0 h1 hl (by omega) _ (hr.below hba (Nat.le_refl _)) hba.size).mono ?_); rintro e w1 ⟨rfl, hB1, hb1⟩
  have hz1 := hB1.lt
  go_wp2_with fail
  (with_reducible refine (new_any _ _ (beB n k) k w.heap.size w1.heap.size (Lib.hid (beB_len n k)) (by omega) _ (bk_drop hB1 m hl.out w.heap.size w1.heap.size hba.size hz1) (Nat.le_refl _)).mono ?_); rintro e w2 ⟨hp, A2, rfl, hR2, hb2⟩
  go_wp2_with fail
  (with_reducible refine (num_ok _ _ hp A2 (beB n k) k _ (Lib.hid rfl) _ hR2 (by rw [beB_len]; omega) (by rw [beB_len]; omega)).mono ?_); rintro e w3 ⟨rfl, hR3, hb3, hz3⟩
  rw [num_put n h0 h1 k]
  have HZ := Lib.hid hz3
  clear hz3
  rw [put_none n k] at hR3
  have hr0 := restK_lt n h0 k
  have hbw3 : Below w.heap.size w w3 := below_two (below_two (below_two hba hb1 hba.size) (hb2.trans hb3) (Nat.le_trans hba.size (Nat.le_of_lt hz1))) (Below.refl _ _) (Nat.le_trans hba.size (Nat.le_trans hb1.size (Nat.le_trans hb2.size hb3.size)))
  have hw3 : w.heap.size ≤ w3.heap.size := hbw3.size
  clear hb1 hb2 hb3 hR2 hB1 hr hba
  have hk8 : 8 ≤ k ∨ k = 1 ∨ k = 2 ∨ k = 3 ∨ k = 4 ∨ k = 5 ∨ k = 6 ∨ k = 7 := by omega
  rcases hk8 with hk8 | rfl | rfl | rfl | rfl | rfl | rfl | rfl
  · have e : restK n k = n := by
      have := restK_big n h0 h1 (k - 8)
      rwa [show k - 8 + 8 = k by omega] at this
    rw [e]
    clear e hr0
    go_wp2_with (first
      | (go_at_call 12; (with_reducible refine (short_any _ _ hp _ _ _ _ hR3).mono ?_); rintro e w' ⟨rfl, rfl⟩)
      | (go_at_call 13; (with_reducible refine (rest_any _ _ hp _ _ _ _ hR3 (by simp)).mono ?_); rintro e w4 ⟨rfl, hB4, hb4⟩))
    go_ret
    exact ⟨rfl, below_two hbw3 hb4 hw3⟩
  all_goals
    first
      | rw [show restK n 1 = n % 256 by simp only [restK]; omega]
      | rw [show restK n 2 = n % 65536 by simp only [restK]; omega]
      | rw [show restK n 3 = n % 16777216 by simp only [restK]; omega]
      | rw [show restK n 4 = n % 4294967296 by simp only [restK]; omega]
      | rw [show restK n 5 = n % 1099511627776 by simp only [restK]; omega]
      | rw [show restK n 6 = n % 281474976710656 by simp only [restK]; omega]
      | rw [show restK n 7 = n % 72057594037927936 by simp only [restK]; omega]
    clear hr0
    go_wp2_with (first
      | (go_at_call 12; (with_reducible refine (short_any _ _ hp _ _ _ _ hR3).mono ?_); rintro e w' ⟨rfl, rfl⟩)
      | (go_at_call 13; (with_reducible refine (rest_any _ _ hp _ _ _ _ hR3 (by simp)).mono ?_); rintro e w4 ⟨rfl, hB4, hb4⟩))
    go_ret
    exact ⟨rfl, below_two hbw3 hb4 hw3⟩

set_option maxRecDepth 100000 in
set_option maxHeartbeats 2000000 in
theorem sizes_none (A : Option Addr) (m c : Nat) (n s : Int) (l : List UInt8) (hl : Hid (l.length = m)) (h : m ≤ 600) (hmc : m ≤ c) (h0 : 0 ≤ n) (h1 : n < 18446744073709551616) (s0 : 0 ≤ s) (s1 : s < 256) (w : World) (hr : RB w A 0 w.heap.size l)
    (hk : Hid (s % 20 = 0)) :
    Calls Try.prog 6 #[.slice A m c, .int .u64 n, .int .u8 s] w fun e w' => e = .returned (.bool true) ∧ Below w.heap.size w w' := by
  go_enter Try.func6, Try.ntmps6
  go_wp2_with fail
  (with_reducible refine (awake_any _).mono ?_); rintro e wa ⟨rfl, hba⟩
  go_wp2_with fail
  rw [hk.out]
  (with_reducible refine (put64 A c l m 0 w.heap.size 0 0 n (Lib.hid rfl) (by omega) h0 h1 hl (by omega) _ (hr.below hba (Nat.le_refl _)) hba.size).mono ?_); rintro e w1 ⟨rfl, hB1, hb1⟩
  have hz1 := hB1.lt
  go_wp2_with fail
  (with_reducible refine (new_any _ _ [] 0 0 0 (Lib.hid rfl) (by omega) _ (RB.nil _ _ _ _) (Nat.zero_le _)).mono ?_); rintro e w2 ⟨hp, A2, rfl, hR2, hb2⟩
  go_wp2_with fail
  (with_reducible refine (num_ok _ _ hp A2 [] 0 0 (Lib.hid rfl) _ hR2 (by simp) (by simp)).mono ?_); rintro e w3 ⟨rfl, hR3, hb3, hz3⟩
  have HZ := Lib.hid hz3
  clear hz3
  rw [show numU (List.take 0 []) = 0 from rfl]
  rw [show List.drop 0 ([] : List UInt8) = [] from rfl] at hR3
  have hbw3 : Below w.heap.size w w3 := below_two (below_two (below_two hba hb1 hba.size) (hb2.trans hb3) (Nat.le_trans hba.size (Nat.le_of_lt hz1))) (Below.refl _ _) (Nat.le_trans hba.size (Nat.le_trans hb1.size (Nat.le_trans hb2.size hb3.size)))
  have hw3 : w.heap.size ≤ w3.heap.size := hbw3.size
  clear hb1 hb2 hb3 hR2 hB1 hr hba
  go_wp2_with (first
    | (go_at_call 12; (with_reducible refine (short_any _ _ hp _ _ _ _ hR3).mono ?_); rintro e w' ⟨rfl, rfl⟩)
    | (go_at_call 13; (with_reducible refine (rest_any _ _ hp _ _ _ _ hR3 (by simp)).mono ?_); rintro e w4 ⟨rfl, hB4, hb4⟩))
  go_ret
  exact ⟨rfl, below_two hbw3 hb4 hw3⟩

theorem WireSizes_walk (a0 : Option Addr) (len0 cap0 : Nat) (z0 : List Int) (a1 : Int) (a2 : Int) (w : World) (w0 : IsRow .u8 w a0 len0 cap0 z0) (w1 : (Lit.int .u64 a1).wf = true) (w2 : (Lit.int .u8 a2).wf = true) :
    Calls Try.prog 6 #[.slice a0 len0 cap0, .int .u64 a1, .int .u8 a2] w fun e w' => e = .returned (.bool true) ∧ Below w.heap.size w w' := by
  obtain ⟨l, hl, hr, hc, hm⟩ := bytes_in w0
  obtain ⟨p0, p1⟩ := bounds_u64 w1
  obtain ⟨q0, q1⟩ := bounds_u8 w2
  by_cases h : 600 < len0
  · exact sizes_long _ _ _ _ _ h hm w
  · by_cases hk : a2 % 20 = 0
    · exact sizes_none a0 len0 cap0 a1 a2 l hl (by omega) hc p0 (by omega) q0 (by omega) w hr hk
    · exact sizes_some a0 len0 cap0 (a2 % 20).toNat a1 a2 l hl (by omega) hc p0 (by omega) q0 (by omega) w hr (by show _ = _; omega) (by omega) (by omega)

end Go.Proofs.Ytmenjcllnnldeaa
