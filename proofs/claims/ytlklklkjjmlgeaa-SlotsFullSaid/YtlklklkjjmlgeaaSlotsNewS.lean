/- New of slots: an empty table of so many places. -/
import Derived.Test.YtlklklkjjmlgeaaSlotsMem
import Derived.Test.YtlklklkjjmlgeaaHashStep
import Derived.Lib.MinMax
namespace Go.Proofs.Ytlklklkjjmlgeaa
open Go.ChangeShapes Go.WideShapes Go.ChangeAt Go.RowKit
set_option linter.unusedVariables false

theorem Try.infoPlS : (Try.prog.info? 71).map (fun i => (i.zero, i.size, i.bytes)) = some (some (.agg #[.bool false, .int .u64 0, .string ByteArray.empty]), 3, 32) := by kernel_rfl

theorem made_S (n : Nat) : madeCells (Value.agg #[.bool false, .int .u64 0, .string ByteArray.empty]).cells (n * 3) = (flat encS (List.replicate n noPl)).toArray := by
  have e3 : ∀ p, (encS p).length = 3 := fun _ => rfl
  have hl := flat_len e3 (List.replicate n noPl)
  unfold madeCells
  apply Array.ext
  · simp at hl; simp [hl]
  · intro i h1 h2
    have hi : i < n * 3 := by simpa using h1
    have hg := flat_get e3 (List.replicate n noPl) (i / 3) noPl (i % 3) (by rw [List.getElem?_replicate, if_pos (by omega)]) (by omega)
    have e : i / 3 * 3 + i % 3 = i := by omega
    rw [e] at hg
    have hc : (Value.agg #[.bool false, .int .u64 0, .string ByteArray.empty]).cells = #[.bool false, .int .u64 0, .string ByteArray.empty] := rfl
    simp only [hc]
    have h3 : i % 3 = 0 ∨ i % 3 = 1 ∨ i % 3 = 2 := by omega
    simp at h2
    rw [List.getElem?_eq_getElem (by omega)] at hg
    rcases h3 with h | h | h <;> simp [h, encS, noPl] at hg ⊢ <;> exact hg.symm

theorem make_plS (n : Nat) (h : n ≤ 64) (w : World) :
    (Instr.makeSlice 67 (.int .i64 (n : Int)) (.int .i64 (n : Int))).run Try.prog w = .ok (.slice (some ⟨w.heap.size, 0, none⟩) n n) (w.alloc (.cells (flat encS (List.replicate n noPl)).toArray 71)) := by
  obtain ⟨i0, hi, hz0, hz1, hz2⟩ := info_parts Try.infoPlS
  have hr := run_make (P := Try.prog) w 67 71 i0 _ Try.underlying67 hi hz0 .i64 .i64 (n : Int) (n : Int) (by omega) (by omega) (by rw [hz2]; omega) (by omega)
  rw [hz1] at hr
  simp only [Int.toNat_natCast] at hr
  rw [hr, made_S]

/-- What a new table is. -/
def NewEndS (w : World) (n : Nat) (e : Ending) (w' : World) : Prop :=
  e = .returned (.pointer (some ⟨w.heap.size + 1, 0, none⟩)) ∧ TB encS 69 71 w' (w.heap.size + 1) w.heap.size (List.replicate n noPl) ∧ Below w.heap.size w w'

theorem newS_any (k : Int) (n : Nat) (hn : min (max k 0) 64 = n) (w : World) :
    Calls Try.prog 20 #[.int .i64 k] w (NewEndS w n) := by
  have hm := make_plS n (by omega) w
  obtain ⟨C, hC⟩ : ∃ C, flat encS (List.replicate n (noPl : Pl ByteArray)) = C := ⟨_, rfl⟩
  rw [hC] at hm
  have HC := Lib.hid hC
  clear hC
  go_enter Try.func20, Try.ntmps20
  go_wp2
  go_ret
  refine ⟨rfl, ⟨?_, ?_, by omega, by simp; omega⟩, ((Below.refl _ _).alloc (Nat.le_refl _) _).alloc (by simp) _⟩
  · unfold Bk
    have e : ((w.alloc (.cells C.toArray 71)).heap.size) = w.heap.size + 1 := by simp
    rw [← e, heap_alloc_new]
    simp
  · unfold Bk
    rw [heap_alloc_old _ _ (by simp), heap_alloc_new, HC.out]

end Go.Proofs.Ytlklklkjjmlgeaa
