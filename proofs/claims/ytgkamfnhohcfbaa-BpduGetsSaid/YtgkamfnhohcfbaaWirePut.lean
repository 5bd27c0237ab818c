/- Put: a number's bytes behind others, in new memory. -/
import Derived.Test.YtgkamfnhohcfbaaWireMake
import Derived.Test.YtgkamfnhohcfbaaWireMath
import Derived.Lib.MinMax
import Derived.LoopTactic
namespace Go.Proofs.Ytgkamfnhohcfbaa
open Go.ChangeShapes Go.WideShapes Go.ChangeAt Go.RowKit
set_option linter.unusedVariables false

/-- The row behind 'j' rounds: the bytes ahead, zeros, the lowest j bytes. -/
def rowP (l : List UInt8) (n : Int) (k j : Nat) : List Value := (l ++ (List.replicate (k - j) 0 ++ beB n j)).map bc

theorem rowP_start (l : List UInt8) (n : Int) (k : Nat) : splice (List.replicate (l.length + k) (Value.int .u8 0)) 0 (l.map bc) = rowP l n k 0 := by
  simp only [splice, rowP, beB, List.take_zero, List.nil_append, List.drop_replicate, List.length_map, Nat.zero_add, List.append_nil, List.map_append, List.map_replicate, Nat.sub_zero]
  rw [show l.length + k - l.length = k by omega]
  rfl

theorem rowP_end (l : List UInt8) (n : Int) (k : Nat) : rowP l n k k = (l ++ beB n k).map bc := by
  simp [rowP]

theorem rowP_len (l : List UInt8) (n : Int) (k j : Nat) (h : j ≤ k) : (rowP l n k j).length = l.length + k := by
  simp [rowP, beB_len]; omega

theorem rowP_step (l : List UInt8) (n : Int) (k j : Nat) (h : j < k) : (rowP l n k j).set (l.length + k - 1 - j) (.int .u8 (shiftK n j % 256)) = rowP l n k (j + 1) := by
  have e : Value.int .u8 (shiftK n j % 256) = bc (UInt8.ofNat (shiftK n j % 256).toNat) := by unfold bc; rw [byte_nat]
  obtain ⟨m, hm⟩ : ∃ m, k - j = m + 1 := ⟨k - j - 1, by omega⟩
  rw [e]
  unfold rowP
  rw [← List.map_set, beB_front, show k - (j + 1) = m by omega, hm, show l.length + k - 1 - j = l.length + m by omega]
  congr 1
  rw [List.set_append_right _ _ (by omega), show l.length + m - l.length = m by omega, List.replicate_succ', List.append_assoc, List.set_append_right _ _ (by simp)]
  simp

theorem make_sum (a k : Nat) (h : a + k ≤ 140737488355328) (w : World) :
    (Instr.makeSlice 30 (.int .i64 ((a : Int) + (k : Int))) (.int .i64 ((a : Int) + (k : Int)))).run Try.prog w = .ok (.slice (some ⟨w.heap.size, 0, none⟩) (a + k) (a + k)) (w.alloc (.cells (List.replicate (a + k) (Value.int .u8 0)).toArray 5)) := by
  have := make_bytes (a + k) h w
  rw [Int.natCast_add] at this
  exact this

theorem len_min2 (l : List UInt8) (k : Nat) : (l.map bc).length = Nat.min l.length (l.length + k) := by
  rw [List.length_map]; exact (Nat.min_eq_left (by omega)).symm

theorem fit_front (l : List UInt8) (k : Nat) : 0 + (l.map bc).length ≤ (List.replicate (l.length + k) (Value.int .u8 0)).length := by
  simp

theorem put16 (A : Option Addr) (c : Nat) (l : List UInt8) (m lo hi k : Nat) (sz n : Int) (hsz : Hid (sz = k)) (hk : k ≤ 1000) (h0 : 0 ≤ n) (h1 : n < 65536) (hn : Hid (l.length = m)) (hm : m ≤ 100000) (w : World) (hr : RB w A lo hi l) (hhi : hi ≤ w.heap.size) :
    Calls Try.prog 19 #[.slice A m c, .int .u16 n, .int .i64 sz] w fun e w' => e = .returned (.slice (some ⟨w.heap.size, 0, none⟩) (m + k) (m + k)) ∧ Bk w' w.heap.size 5 ((l ++ beB n k).map bc) ∧ Below w.heap.size w w' := by
  obtain rfl := hsz.out
  obtain rfl := hn.out
  clear hsz hn
  have hmm : min (k : Int) 1000 = (k : Int) := by omega
  have hmk := make_sum l.length k (by omega)
  go_enter Try.func19, Try.ntmps19
  go_wp2_with (with_reducible refine wpList_copy_splice rfl (.tmp 18) (.tmp 19) 30 30 rfl 5 Try.underlying30 Try.sizeByte _ _ _ _ _ _ rfl rfl w.heap.size 0 (List.replicate (l.length + k) (Value.int .u8 0)) 5 (heap_alloc_new w _) (l.map bc) (len_min2 l k) (copy_src hr (below_new hhi) _) (fit_front l k) (one_bcs l) w.heap.size w (below_new (Nat.le_refl _)) (Nat.le_refl _) ?_; intro w1 hg hb)
  clear hmm hmk
  go_loopw [8, 24] (fun t i wr => ∃ j : Nat, j ≤ k ∧ i = .int .i64 j ∧ t = .int .u64 (shiftK n j) ∧ Bk wr w.heap.size 5 (rowP l n k j) ∧ Below w.heap.size w wr) (fun _ i _ => k - (intOf i).toNat)
  case atStart => exact ⟨0, Nat.zero_le _, rfl, rfl, by have h := hg.out; rw [rowP_start l n k] at h; exact h, hb⟩
  case round =>
    obtain ⟨j, hj, rfl, rfl, hB, hbl⟩ := hrel
    obtain ⟨q0, q1⟩ := shiftK_lo n h0 (by omega) j
    clear hg hb
    by_cases hlt : j < k
    · obtain ⟨idx, hidx⟩ : ∃ idx : Nat, idx = l.length + k - 1 - j := ⟨_, rfl⟩
      have hil : idx < (rowP l n k j).length := by rw [rowP_len l n k j hj]; omega
      obtain ⟨v, hcell⟩ : ∃ v, wr.cell? ⟨w.heap.size, idx, none⟩ = some v := ⟨_, (hB.cell idx).trans (List.getElem?_eq_getElem hil)⟩
      have hfz := hB.thaw idx
      have hi1 : (l.length : Int) + (k : Int) - 1 - (j : Int) = (idx : Int) := by omega
      have hi2 : idx < l.length + k := by omega
      have HI := Lib.hid hidx
      clear hidx hil
      go_wp2
      go_roundw
      case rel => exact ⟨j + 1, by omega, by go_num, by rw [shiftK_succ], by have h := hB.set idx (.int .u8 (shiftK n j % 256)); rw [HI.out, rowP_step l n k j hlt, ← HI.out] at h; exact h, hbl.setCell (Nat.le_refl _) _⟩
      case measure => simp [intOf]; omega
    · obtain rfl : j = k := by omega
      go_wp2
      go_ret
      refine ⟨rfl, ?_, hbl⟩
      rw [rowP_end] at hB
      exact hB

theorem conv_row {w : World} {ad : Addr} {lo hi : Nat} {l : List UInt8} (h : RB w (some ad) lo hi l) (n c : Nat) (hn : Hid (l.length = n)) :
    (convert 30 9 (.slice (some ad) n c)).run Try.prog w = .ok (.string ⟨l.toArray⟩) w := by
  have e := run_convert_bytes_back (P := Try.prog) w 30 9 5 ad c l Try.underlying30 Try.underlying5 Try.underlying9 h.bytes
  rw [hn.out] at e
  exact e

end Go.Proofs.Ytgkamfnhohcfbaa
