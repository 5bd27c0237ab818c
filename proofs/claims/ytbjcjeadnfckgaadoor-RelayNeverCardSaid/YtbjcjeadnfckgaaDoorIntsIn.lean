/- Whole numbers that came in as a slice: words of this work's own, over any program. -/
import Derived.Test.YtbjcjeadnfckgaaDoorWireMem
namespace Go.Proofs.YtbjcjeadnfckgaaDoor
set_option maxRecDepth 100000
open Go Go.RowKit

/-- The slice at 'a' holds the numbers U. -/
def IntsIn (w : World) (a : Option Addr) (B : Nat) (U : List Int) : Prop :=
  ∀ k u, U[k]? = some u → ∃ ad, a = some ad ∧ ad.block < B ∧ w.cell? (ad.add k) = some (.int .i64 u) ∧ -9223372036854775808 ≤ u ∧ u ≤ 9223372036854775807

theorem ints64_in {w : World} {a : Option Addr} {len cap : Nat} {z : List Int} (h : IsRow .i64 w a len cap z) :
    ∃ U : List Int, U.length = len ∧ len ≤ 9223372036854775807 ∧ IntsIn w a w.heap.size U := by
  rcases h with ⟨rfl, rfl, rfl, rfl⟩ | ⟨ad, rfl, hl, hm, hz, hc, hw⟩
  · exact ⟨[], rfl, by omega, fun k u e => by simp at e⟩
  · refine ⟨z.take len, by simp; omega, by unfold maxLen at hm; omega, fun k u e => ?_⟩
    have hk : k < len := by
      rcases Nat.lt_or_ge k len with q | q
      · exact q
      · rw [List.getElem?_eq_none (by simp; omega)] at e; cases e
    have hkz : k < z.length := by omega
    rw [List.getElem?_take_of_lt hk, List.getElem?_eq_getElem hkz] at e
    have e := Option.some.inj e
    have h1 := hc k hkz
    have h2 := block_lt_of_cell h1
    rw [add_block] at h2
    have e2 : z.getD k 0 = z[k] := by simp [List.getD_eq_getElem?_getD, List.getElem?_eq_getElem hkz]
    rw [e2, e] at h1
    have hb := bounds_i64 (hw _ (List.getElem_mem hkz))
    rw [e] at hb
    exact ⟨ad, rfl, h2, h1, hb.1, by omega⟩

theorem IntsIn.below {w w' : World} {a : Option Addr} {B : Nat} {U : List Int} (h : IntsIn w a B U) (hb : Below B w w') : IntsIn w' a B U := fun k u e => by
  obtain ⟨ad, h1, h2, h3, h4⟩ := h k u e
  exact ⟨ad, h1, h2, (hb.cell (p := ad.add k) (by rw [add_block]; exact h2)).trans h3, h4⟩

end Go.Proofs.YtbjcjeadnfckgaaDoor
