/- Put: a number's bytes behind others, in new memory. -/
import Derived.Test.YtbjcjeadnfckgaaDoorWireMake
import Derived.Test.YtbjcjeadnfckgaaDoorWireMath
import Derived.Lib.MinMax
import Derived.LoopTactic
namespace Go.Proofs.YtbjcjeadnfckgaaDoor
set_option maxRecDepth 100000
open Go.ChangeShapes Go.WideShapes Go.ChangeAt Go.RowKit
set_option linter.unusedVariables false

/-- The row behind 'j' rounds: the bytes ahead, zeros, the lowest j bytes. -/
def rowP (l : List UInt8) (n : Int) (k j : Nat) : List Value := (l ++ (List.replicate (k - j) 0 ++ beB n j)).map bc

theorem rowP_start (l : List UInt8) (n : Int) (k : Nat) : splice (List.replicate (l.length + k) (Value.int .u8 0)) 0 (l.map bc) = rowP l n k 0 := by
  simp only [splice, rowP, beB, List.take_zero, List.nil_append, List.drop_replicate, List.length_map, Nat.zero_add, List.append_nil, List.map_append, List.map_replicate, Nat.sub_zero]
  rw [show l.length + k - l.length = k by omega]
  rfl

theorem rowP_end (l : List UInt8) (n : Int) (k : Nat) : rowP l n k k = (l ++ beB n k).map bc := by
  simp [rowP]

theorem rowP_len (l : List UInt8) (n : Int) (k j : Nat) (h : j ≤ k) : (rowP l n k j).length = l.length + k := by
  simp [rowP, beB_len]; omega

theorem rowP_step (l : List UInt8) (n : Int) (k j : Nat) (h : j < k) : (rowP l n k j).set (l.length + k - 1 - j) (.int .u8 (shiftK n j % 256)) = rowP l n k (j + 1) := by
  have e : Value.int .u8 (shiftK n j % 256) = bc (UInt8.ofNat (shiftK n j % 256).toNat) := by unfold bc; rw [byte_nat]
  obtain ⟨m, hm⟩ : ∃ m, k - j = m + 1 := ⟨k - j - 1, by omega⟩
  rw [e]
  unfold rowP
  rw [← List.map_set, beB_front, show k - (j + 1) = m by omega, hm, show l.length + k - 1 - j = l.length + m by omega]
  congr 1
  rw [List.set_append_right _ _ (by omega), show l.length + m - l.length = m by omega, List.replicate_succ', List.append_assoc, List.set_append_right _ _ (by simp)]
  simp

theorem make_sum (a k : Nat) (h : a + k ≤ 140737488355328) (w : World) :
    (Instr.makeSlice 25 (.int .i64 ((a : Int) + (k : Int))) (.int .i64 ((a : Int) + (k : Int)))).run Tryd.prog w = .ok (.slice (some ⟨w.heap.size, 0, none⟩) (a + k) (a + k)) (w.alloc (.cells (List.replicate (a + k) (Value.int .u8 0)).toArray 5)) := by
  have := make_bytes (a + k) h w
  rw [Int.natCast_add] at this
  exact this

theorem len_min2 (l : List UInt8) (k : Nat) : (l.map bc).length = Nat.min l.length (l.length + k) := by
  rw [List.length_map]; exact (Nat.min_eq_left (by omega)).symm

theorem fit_front (l : List UInt8) (k : Nat) : 0 + (l.map bc).length ≤ (List.replicate (l.length + k) (Value.int .u8 0)).length := by
  simp

theorem conv_row {w : World} {ad : Addr} {lo hi : Nat} {l : List UInt8} (h : RB w (some ad) lo hi l) (n c : Nat) (hn : Hid (l.length = n)) :
    (convert 25 9 (.slice (some ad) n c)).run Tryd.prog w = .ok (.string ⟨l.toArray⟩) w := by
  have e := run_convert_bytes_back (P := Tryd.prog) w 25 9 5 ad c l Tryd.underlying25 Tryd.underlying5 Tryd.underlying9 h.bytes
  rw [hn.out] at e
  exact e

end Go.Proofs.YtbjcjeadnfckgaaDoor
