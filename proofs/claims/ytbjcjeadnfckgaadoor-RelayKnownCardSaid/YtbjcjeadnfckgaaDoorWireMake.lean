/- Bytes made, copied into, and the facts on their type. -/
import Derived.Test.YtbjcjeadnfckgaaDoorRows
import Derived.Test.YtbjcjeadnfckgaaDoorWireMem
namespace Go.Proofs.YtbjcjeadnfckgaaDoor
set_option maxRecDepth 100000
open Go.ChangeShapes Go.WideShapes Go.ChangeAt Go.RowKit
set_option linter.unusedVariables false

theorem Tryd.infoByte : (Tryd.prog.info? 5).map (fun i => (i.zero, i.size, i.bytes)) = some (some (.int .u8 0), 1, 1) := by kernel_rfl
theorem Tryd.sizeByte : (Tryd.prog.info? 5).map (·.size) = some 1 := by kernel_rfl

theorem make_bytes (n : Nat) (h : n ≤ 140737488355328) (w : World) :
    (Instr.makeSlice 25 (.int .i64 (n : Int)) (.int .i64 (n : Int))).run Tryd.prog w = .ok (.slice (some ⟨w.heap.size, 0, none⟩) n n) (w.alloc (.cells (List.replicate n (Value.int .u8 0)).toArray 5)) := by
  obtain ⟨i0, hi, hz0, hz1, hz2⟩ := info_parts Tryd.infoByte
  have hr := run_make (P := Tryd.prog) w 25 5 i0 _ Tryd.underlying25 hi hz0 .i64 .i64 (n : Int) (n : Int) (by omega) (by omega) (by rw [hz2]; omega) (by omega)
  rw [hz1] at hr
  simp only [Int.toNat_natCast] at hr
  rw [hr, made_bytes]

theorem copy_src {w w' : World} {A : Option Addr} {l : List UInt8} {lo hi : Nat} (hr : RB w A lo hi l) (hb : Below hi w w') (d : Option Addr) :
    0 < (l.map bc).length → d = d ∧ ∃ ad, A = some ad ∧ ∀ (j : Nat) v, (l.map bc)[j]? = some v → w'.cell? (ad.add j) = some v := by
  intro hp
  obtain ⟨ad, rfl, g1, g2, hc⟩ := hr (by simpa using hp)
  refine ⟨rfl, ad, rfl, fun j v hv => ?_⟩
  have hj : j < l.length := by
    rcases Nat.lt_or_ge j l.length with k | k
    · exact k
    · rw [List.getElem?_eq_none (by simpa using k)] at hv; cases hv
  rw [hb.cell (by rw [add_block]; omega), hc j hj, ← hv]
  simp [hj]

theorem len_min {l : List UInt8} {n : Nat} (h : l.length = n) : (l.map bc).length = Nat.min n n := by
  rw [List.length_map, h]; exact (Nat.min_self n).symm

theorem fit_all {l : List UInt8} {n : Nat} (h : l.length = n) : 0 + (l.map bc).length ≤ (List.replicate n (Value.int .u8 0)).length := by
  simp [h]

theorem below_new {w : World} {o : Obj} {hi : Nat} (h : hi ≤ w.heap.size) : Below hi w (w.alloc o) := (Below.refl _ _).alloc h _

end Go.Proofs.YtbjcjeadnfckgaaDoor
