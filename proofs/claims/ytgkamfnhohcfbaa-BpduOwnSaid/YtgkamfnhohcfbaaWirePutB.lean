/- Put of 8 and of 32 bits, and of a bridge's number. -/
import Derived.Test.YtgkamfnhohcfbaaWirePut
namespace Go.Proofs.Ytgkamfnhohcfbaa
open Go.ChangeShapes Go.WideShapes Go.ChangeAt Go.RowKit
set_option linter.unusedVariables false

theorem put8 (A : Option Addr) (c : Nat) (l : List UInt8) (m lo hi k : Nat) (sz n : Int) (hsz : Hid (sz = k)) (hk : k ≤ 1000) (h0 : 0 ≤ n) (h1 : n < 256) (hn : Hid (l.length = m)) (hm : m ≤ 100000) (w : World) (hr : RB w A lo hi l) (hhi : hi ≤ w.heap.size) :
    Calls Try.prog 15 #[.slice A m c, .int .u8 n, .int .i64 sz] w fun e w' => e = .returned (.slice (some ⟨w.heap.size, 0, none⟩) (m + k) (m + k)) ∧ Bk w' w.heap.size 5 ((l ++ beB n k).map bc) ∧ Below w.heap.size w w' := by
  obtain rfl := hsz.out
  obtain rfl := hn.out
  clear hsz hn
  have hmm : min (k : Int) 1000 = (k : Int) := by omega
  have hmk := make_sum l.length k (by omega)
  go_enter Try.func15, Try.ntmps15
  go_wp2_with (with_reducible refine wpList_copy_splice rfl (.tmp 18) (.tmp 19) 30 30 rfl 5 Try.underlying30 Try.sizeByte _ _ _ _ _ _ rfl rfl w.heap.size 0 (List.replicate (l.length + k) (Value.int .u8 0)) 5 (heap_alloc_new w _) (l.map bc) (len_min2 l k) (copy_src hr (below_new hhi) _) (fit_front l k) (one_bcs l) w.heap.size w (below_new (Nat.le_refl _)) (Nat.le_refl _) ?_; intro w1 hg hb)
  clear hmm hmk
  go_loopw [8, 24] (fun t i wr => ∃ j : Nat, j ≤ k ∧ i = .int .i64 j ∧ t = .int .u64 (shiftK n j) ∧ Bk wr w.heap.size 5 (rowP l n k j) ∧ Below w.heap.size w wr) (fun _ i _ => k - (intOf i).toNat)
  case atStart => exact ⟨0, Nat.zero_le _, rfl, rfl, by have h := hg.out; rw [rowP_start l n k] at h; exact h, hb⟩
  case round =>
    obtain ⟨j, hj, rfl, rfl, hB, hbl⟩ := hrel
    obtain ⟨q0, q1⟩ := shiftK_lo n h0 (by omega) j
    clear hg hb
    by_cases hlt : j < k
    · obtain ⟨idx, hidx⟩ : ∃ idx : Nat, idx = l.length + k - 1 - j := ⟨_, rfl⟩
      have hil : idx < (rowP l n k j).length := by rw [rowP_len l n k j hj]; omega
      obtain ⟨v, hcell⟩ : ∃ v, wr.cell? ⟨w.heap.size, idx, none⟩ = some v := ⟨_, (hB.cell idx).trans (List.getElem?_eq_getElem hil)⟩
      have hfz := hB.thaw idx
      have hi1 : (l.length : Int) + (k : Int) - 1 - (j : Int) = (idx : Int) := by omega
      have hi2 : idx < l.length + k := by omega
      have HI := Lib.hid hidx
      clear hidx hil
      go_wp2
      go_roundw
      case rel => exact ⟨j + 1, by omega, by go_num, by rw [shiftK_succ], by have h := hB.set idx (.int .u8 (shiftK n j % 256)); rw [HI.out, rowP_step l n k j hlt, ← HI.out] at h; exact h, hbl.setCell (Nat.le_refl _) _⟩
      case measure => simp [intOf]; omega
    · obtain rfl : j = k := by omega
      go_wp2
      go_ret
      refine ⟨rfl, ?_, hbl⟩
      rw [rowP_end] at hB
      exact hB

theorem put32 (A : Option Addr) (c : Nat) (l : List UInt8) (m lo hi k : Nat) (sz n : Int) (hsz : Hid (sz = k)) (hk : k ≤ 1000) (h0 : 0 ≤ n) (h1 : n < 4294967296) (hn : Hid (l.length = m)) (hm : m ≤ 100000) (w : World) (hr : RB w A lo hi l) (hhi : hi ≤ w.heap.size) :
    Calls Try.prog 18 #[.slice A m c, .int .u32 n, .int .i64 sz] w fun e w' => e = .returned (.slice (some ⟨w.heap.size, 0, none⟩) (m + k) (m + k)) ∧ Bk w' w.heap.size 5 ((l ++ beB n k).map bc) ∧ Below w.heap.size w w' := by
  obtain rfl := hsz.out
  obtain rfl := hn.out
  clear hsz hn
  have hmm : min (k : Int) 1000 = (k : Int) := by omega
  have hmk := make_sum l.length k (by omega)
  go_enter Try.func18, Try.ntmps18
  go_wp2_with (with_reducible refine wpList_copy_splice rfl (.tmp 18) (.tmp 19) 30 30 rfl 5 Try.underlying30 Try.sizeByte _ _ _ _ _ _ rfl rfl w.heap.size 0 (List.replicate (l.length + k) (Value.int .u8 0)) 5 (heap_alloc_new w _) (l.map bc) (len_min2 l k) (copy_src hr (below_new hhi) _) (fit_front l k) (one_bcs l) w.heap.size w (below_new (Nat.le_refl _)) (Nat.le_refl _) ?_; intro w1 hg hb)
  clear hmm hmk
  go_loopw [8, 24] (fun t i wr => ∃ j : Nat, j ≤ k ∧ i = .int .i64 j ∧ t = .int .u64 (shiftK n j) ∧ Bk wr w.heap.size 5 (rowP l n k j) ∧ Below w.heap.size w wr) (fun _ i _ => k - (intOf i).toNat)
  case atStart => exact ⟨0, Nat.zero_le _, rfl, rfl, by have h := hg.out; rw [rowP_start l n k] at h; exact h, hb⟩
  case round =>
    obtain ⟨j, hj, rfl, rfl, hB, hbl⟩ := hrel
    obtain ⟨q0, q1⟩ := shiftK_lo n h0 (by omega) j
    clear hg hb
    by_cases hlt : j < k
    · obtain ⟨idx, hidx⟩ : ∃ idx : Nat, idx = l.length + k - 1 - j := ⟨_, rfl⟩
      have hil : idx < (rowP l n k j).length := by rw [rowP_len l n k j hj]; omega
      obtain ⟨v, hcell⟩ : ∃ v, wr.cell? ⟨w.heap.size, idx, none⟩ = some v := ⟨_, (hB.cell idx).trans (List.getElem?_eq_getElem hil)⟩
      have hfz := hB.thaw idx
      have hi1 : (l.length : Int) + (k : Int) - 1 - (j : Int) = (idx : Int) := by omega
      have hi2 : idx < l.length + k := by omega
      have HI := Lib.hid hidx
      clear hidx hil
      go_wp2
      go_roundw
      case rel => exact ⟨j + 1, by omega, by go_num, by rw [shiftK_succ], by have h := hB.set idx (.int .u8 (shiftK n j % 256)); rw [HI.out, rowP_step l n k j hlt, ← HI.out] at h; exact h, hbl.setCell (Nat.le_refl _) _⟩
      case measure => simp [intOf]; omega
    · obtain rfl : j = k := by omega
      go_wp2
      go_ret
      refine ⟨rfl, ?_, hbl⟩
      rw [rowP_end] at hB
      exact hB

theorem putN (A : Option Addr) (c : Nat) (l : List UInt8) (m lo hi k : Nat) (sz n : Int) (hsz : Hid (sz = k)) (hk : k ≤ 1000) (h0 : 0 ≤ n) (h1 : n < 18446744073709551616) (hn : Hid (l.length = m)) (hm : m ≤ 100000) (w : World) (hr : RB w A lo hi l) (hhi : hi ≤ w.heap.size) :
    Calls Try.prog 17 #[.slice A m c, .int .u64 n, .int .i64 sz] w fun e w' => e = .returned (.slice (some ⟨w.heap.size, 0, none⟩) (m + k) (m + k)) ∧ Bk w' w.heap.size 5 ((l ++ beB n k).map bc) ∧ Below w.heap.size w w' := by
  obtain rfl := hsz.out
  obtain rfl := hn.out
  clear hsz hn
  have hmm : min (k : Int) 1000 = (k : Int) := by omega
  have hmk := make_sum l.length k (by omega)
  go_enter Try.func17, Try.ntmps17
  go_wp2_with (with_reducible refine wpList_copy_splice rfl (.tmp 18) (.tmp 19) 30 30 rfl 5 Try.underlying30 Try.sizeByte _ _ _ _ _ _ rfl rfl w.heap.size 0 (List.replicate (l.length + k) (Value.int .u8 0)) 5 (heap_alloc_new w _) (l.map bc) (len_min2 l k) (copy_src hr (below_new hhi) _) (fit_front l k) (one_bcs l) w.heap.size w (below_new (Nat.le_refl _)) (Nat.le_refl _) ?_; intro w1 hg hb)
  clear hmm hmk
  go_loopw [8, 23] (fun t i wr => ∃ j : Nat, j ≤ k ∧ i = .int .i64 j ∧ t = .int .u64 (shiftK n j) ∧ Bk wr w.heap.size 5 (rowP l n k j) ∧ Below w.heap.size w wr) (fun _ i _ => k - (intOf i).toNat)
  case atStart => exact ⟨0, Nat.zero_le _, rfl, rfl, by have h := hg.out; rw [rowP_start l n k] at h; exact h, hb⟩
  case round =>
    obtain ⟨j, hj, rfl, rfl, hB, hbl⟩ := hrel
    obtain ⟨q0, q1⟩ := shiftK_lo n h0 (by omega) j
    clear hg hb
    by_cases hlt : j < k
    · obtain ⟨idx, hidx⟩ : ∃ idx : Nat, idx = l.length + k - 1 - j := ⟨_, rfl⟩
      have hil : idx < (rowP l n k j).length := by rw [rowP_len l n k j hj]; omega
      obtain ⟨v, hcell⟩ : ∃ v, wr.cell? ⟨w.heap.size, idx, none⟩ = some v := ⟨_, (hB.cell idx).trans (List.getElem?_eq_getElem hil)⟩
      have hfz := hB.thaw idx
      have hi1 : (l.length : Int) + (k : Int) - 1 - (j : Int) = (idx : Int) := by omega
      have hi2 : idx < l.length + k := by omega
      have HI := Lib.hid hidx
      clear hidx hil
      go_wp2
      go_roundw
      case rel => exact ⟨j + 1, by omega, by go_num, by rw [shiftK_succ], by have h := hB.set idx (.int .u8 (shiftK n j % 256)); rw [HI.out, rowP_step l n k j hlt, ← HI.out] at h; exact h, hbl.setCell (Nat.le_refl _) _⟩
      case measure => simp [intOf]; omega
    · obtain rfl : j = k := by omega
      go_wp2
      go_ret
      refine ⟨rfl, ?_, hbl⟩
      rw [rowP_end] at hB
      exact hB

end Go.Proofs.Ytgkamfnhohcfbaa
