/- New of slots: an empty table of so many places. -/
import Derived.Test.YtokepfgknffdfaaSlotsMem
import Derived.Test.YtokepfgknffdfaaHashStep
import Derived.Lib.MinMax
namespace Go.Proofs.Ytokepfgknffdfaa
open Go.ChangeShapes Go.WideShapes Go.ChangeAt Go.RowKit
set_option linter.unusedVariables false

theorem Try.infoPlE : (Try.prog.info? 69).map (fun i => (i.zero, i.size, i.bytes)) = some (some (.agg #[.bool false, .int .u64 0, .int .i64 0, .int .i64 0]), 4, 32) := by kernel_rfl

theorem made_E (n : Nat) : madeCells (Value.agg #[.bool false, .int .u64 0, .int .i64 0, .int .i64 0]).cells (n * 4) = (flat encE (List.replicate n noPl)).toArray := by
  have e3 : ∀ p, (encE p).length = 4 := fun _ => rfl
  have hl := flat_len e3 (List.replicate n noPl)
  unfold madeCells
  apply Array.ext
  · simp at hl; simp [hl]
  · intro i h1 h2
    have hi : i < n * 4 := by simpa using h1
    have hg := flat_get e3 (List.replicate n noPl) (i / 4) noPl (i % 4) (by rw [List.getElem?_replicate, if_pos (by omega)]) (by omega)
    have e : i / 4 * 4 + i % 4 = i := by omega
    rw [e] at hg
    have hc : (Value.agg #[.bool false, .int .u64 0, .int .i64 0, .int .i64 0]).cells = #[.bool false, .int .u64 0, .int .i64 0, .int .i64 0] := rfl
    simp only [hc]
    have h3 : i % 4 = 0 ∨ i % 4 = 1 ∨ i % 4 = 2 ∨ i % 4 = 3 := by omega
    simp at h2
    rw [List.getElem?_eq_getElem (by omega)] at hg
    rcases h3 with h | h | h | h <;> simp [h, encE, noPl] at hg ⊢ <;> exact hg.symm

theorem make_plE (n : Nat) (h : n ≤ 64) (w : World) :
    (Instr.makeSlice 65 (.int .i64 (n : Int)) (.int .i64 (n : Int))).run Try.prog w = .ok (.slice (some ⟨w.heap.size, 0, none⟩) n n) (w.alloc (.cells (flat encE (List.replicate n noPl)).toArray 69)) := by
  obtain ⟨i0, hi, hz0, hz1, hz2⟩ := info_parts Try.infoPlE
  have hr := run_make (P := Try.prog) w 65 69 i0 _ Try.underlying65 hi hz0 .i64 .i64 (n : Int) (n : Int) (by omega) (by omega) (by rw [hz2]; omega) (by omega)
  rw [hz1] at hr
  simp only [Int.toNat_natCast] at hr
  rw [hr, made_E]

/-- What a new table is. -/
def NewEndE (w : World) (n : Nat) (e : Ending) (w' : World) : Prop :=
  e = .returned (.pointer (some ⟨w.heap.size + 1, 0, none⟩)) ∧ TB encE 67 69 w' (w.heap.size + 1) w.heap.size (List.replicate n noPl) ∧ Below w.heap.size w w'

theorem newE_any (k : Int) (n : Nat) (hn : min (max k 0) 64 = n) (w : World) :
    Calls Try.prog 21 #[.int .i64 k] w (NewEndE w n) := by
  have hm := make_plE n (by omega) w
  obtain ⟨C, hC⟩ : ∃ C, flat encE (List.replicate n (noPl : Pl (Int × Int))) = C := ⟨_, rfl⟩
  rw [hC] at hm
  have HC := Lib.hid hC
  clear hC
  go_enter Try.func21, Try.ntmps21
  go_wp2
  go_ret
  refine ⟨rfl, ⟨?_, ?_, by omega, by simp; omega⟩, ((Below.refl _ _).alloc (Nat.le_refl _) _).alloc (by simp) _⟩
  · unfold Bk
    have e : ((w.alloc (.cells C.toArray 69)).heap.size) = w.heap.size + 1 := by simp
    rw [← e, heap_alloc_new]
    simp
  · unfold Bk
    rw [heap_alloc_old _ _ (by simp), heap_alloc_new, HC.out]

end Go.Proofs.Ytokepfgknffdfaa
