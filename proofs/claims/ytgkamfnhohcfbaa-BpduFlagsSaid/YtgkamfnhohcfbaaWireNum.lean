/- Num, and the document's own. -/
import Derived.Test.YtgkamfnhohcfbaaWireRead
import Derived.Test.YtgkamfnhohcfbaaWirePut
namespace Go.Proofs.Ytgkamfnhohcfbaa
open Go.ChangeShapes Go.WideShapes Go.ChangeAt Go.RowKit
set_option linter.unusedVariables false

theorem or8w (y b : Int) (h0 : 0 ≤ y) (h1 : y < 18446744073709551616) (b0 : 0 ≤ b) (b1 : b < 256) : bits .or .u64 (IntKind.u64.wrap (y * 256)) b = (y * 256 + b) % 18446744073709551616 := by
  have e : IntKind.u64.wrap (y * 256) = (y % 72057594037927936) * 256 := by rw [IntKind.wrap_u64]; omega
  rw [e, or8_64 _ b (by omega) (by omega) b0 b1]
  omega

theorem num_bad (lo hi h : Nat) (A : Option Addr) (l : List UInt8) (s : Bool) (n : Int) (w : World) (hr : RD 60 w lo hi h A l s) (hm : l.length ≤ 140737488355328) (h0 : -9223372036854775808 ≤ n) (h1 : n ≤ 9223372036854775807) (hbad : BadN s l.length n) :
    Calls Try.prog 22 #[.pointer (some ⟨h, 0, none⟩), .int .i64 n] w fun e w' => e = .returned (.int .u64 0) ∧ RD 60 w' lo hi h A l true ∧ Below lo w w' ∧ w'.heap.size = w.heap.size := by
  go_enter Try.func22, Try.ntmps22
  go_wp2_with (go_at_call 28; (with_reducible refine (next_bad lo hi h A l s n _ hr hm h0 h1 hbad).mono ?_); rintro e w1 ⟨rfl, hr1, hb1, hz⟩; have HZ := Lib.hid hz; clear hz)
  go_rounds 1
  go_ret
  exact ⟨rfl, hr1, hb1, HZ.out⟩

theorem num_ok (lo hi h : Nat) (A : Option Addr) (l : List UInt8) (k : Nat) (sz : Int) (hsz : Hid (sz = k)) (w : World) (hr : RD 60 w lo hi h A l false) (hm : l.length ≤ 140737488355328) (hk : k ≤ l.length) :
    Calls Try.prog 22 #[.pointer (some ⟨h, 0, none⟩), .int .i64 sz] w fun e w' => e = .returned (.int .u64 (numU (l.take k))) ∧ RD 60 w' lo hi h (cutA A k l.length) (l.drop k) false ∧ Below lo w w' ∧ w'.heap.size = w.heap.size := by
  obtain rfl := hsz.out
  clear hsz
  obtain ⟨x, hx⟩ : ∃ x, x = l.take k := ⟨_, rfl⟩
  have htk : x.length = k := by rw [hx]; simp; omega
  have HT := Lib.hid htk
  rw [← hx]
  have HX := Lib.hid hx
  clear htk hx
  go_enter Try.func22, Try.ntmps22
  go_wp2_with (go_at_call 28; (with_reducible refine (next_ok lo hi h A l k _ hr hm hk).mono ?_); rintro e w1 ⟨rfl, hr1, hrb1, hb1, hz⟩; rw [← HX.out] at hrb1; have HZ := Lib.hid hz; clear hz)
  go_loop [5, 12] (fun t i => ∃ j : Nat, j ≤ k ∧ i = .int .i64 j ∧ t = .int .u64 (numU (x.take j))) (fun _ i => k - (intOf i).toNat)
  case atStart => exact ⟨0, Nat.zero_le _, rfl, rfl⟩
  case round =>
    obtain ⟨j, hj, rfl, rfl⟩ := hrel
    obtain ⟨q0, q1⟩ := numU_lo (x.take j)
    by_cases hlt : j < k
    · have hjx : j < x.length := by rw [HT.out]; exact hlt
      obtain ⟨ad, rfl, g1, g2, hc⟩ := hrb1 (by omega)
      have hcell := hc j hjx
      unfold bc at hcell
      have HN := Lib.hid (numU_take x j hjx)
      obtain ⟨y, hy⟩ : ∃ y, y = numU (x.take j) := ⟨_, rfl⟩
      rw [← hy] at q0 q1 HN ⊢
      obtain ⟨b, hb⟩ : ∃ b : Int, b = (x[j].toNat : Int) := ⟨_, rfl⟩
      have hb0 : 0 ≤ b := by omega
      have hb2 : b < 256 := by have := x[j].toNat_lt; omega
      rw [← hb] at hcell HN
      have HB := Lib.hid hb
      have HY := Lib.hid hy
      clear hb hy hc
      go_wp2
      go_round
      case rel => exact ⟨j + 1, by omega, by go_num, by rw [or8w y b q0 q1 hb0 hb2, HN.out]⟩
      case measure => simp [intOf]; omega
    · obtain rfl : j = k := by omega
      go_wp2
      go_ret
      rw [List.take_of_length_le (by rw [HT.out]; omega)]
      exact ⟨rfl, hr1, hb1, HZ.out⟩

theorem refnum_any (A : Option Addr) (c : Nat) (x : List UInt8) (k lo hi : Nat) (HT : Hid (x.length = k)) (hm : k ≤ 140737488355328) (w : World) (hr : RB w A lo hi x) :
    Calls Try.prog 26 #[.slice A k c] w fun e w' => e = .returned (.int .u64 (numU x)) ∧ w = w' := by
  go_enter Try.func26, Try.ntmps26
  go_wp2
  go_loop [3, 4] (fun t i => ∃ j : Nat, j ≤ k ∧ i = .int .i64 j ∧ t = .int .u64 (numU (x.take j))) (fun _ i => k - (intOf i).toNat)
  case atStart => exact ⟨0, Nat.zero_le _, rfl, rfl⟩
  case round =>
    obtain ⟨j, hj, rfl, rfl⟩ := hrel
    obtain ⟨q0, q1⟩ := numU_lo (x.take j)
    by_cases hlt : j < k
    · have hjx : j < x.length := by rw [HT.out]; exact hlt
      obtain ⟨ad, rfl, g1, g2, hc⟩ := hr (by omega)
      have hcell := hc j hjx
      unfold bc at hcell
      have HN := Lib.hid (numU_take x j hjx)
      obtain ⟨y, hy⟩ : ∃ y, y = numU (x.take j) := ⟨_, rfl⟩
      rw [← hy] at q0 q1 HN ⊢
      obtain ⟨b, hb⟩ : ∃ b : Int, b = (x[j].toNat : Int) := ⟨_, rfl⟩
      have hb0 : 0 ≤ b := by omega
      have hb2 : b < 256 := by have := x[j].toNat_lt; omega
      rw [← hb] at hcell HN
      have HB := Lib.hid hb
      have HY := Lib.hid hy
      clear hb hy hc
      go_wp2
      go_round
      case rel => exact ⟨j + 1, by omega, by go_num, by rw [HN.out]; simp only [IntKind.wrap_u64]; rw [Int.emod_add_emod]⟩
      case measure => simp [intOf]; omega
    · obtain rfl : j = k := by omega
      go_wp2
      go_ret
      rw [List.take_of_length_le (by rw [HT.out]; omega)]
      exact ⟨rfl, rfl⟩

end Go.Proofs.Ytgkamfnhohcfbaa
