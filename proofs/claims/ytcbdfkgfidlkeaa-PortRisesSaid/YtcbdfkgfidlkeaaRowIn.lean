/- Numbers of any kind that came in as a slice: words of this work's own, over any program. -/
import Derived.Test.YtcbdfkgfidlkeaaWireMem
namespace Go.Proofs.Ytcbdfkgfidlkeaa
open Go Go.RowKit

theorem row_in {K : IntKind} {w : World} {a : Option Addr} {len cap : Nat} {z : List Int} (h : IsRow K w a len cap z) :
    ∀ k, k < len → ∃ ad n, a = some ad ∧ ad.block < w.heap.size ∧ w.cell? (ad.add k) = some (.int K n) ∧ (Lit.int K n).wf = true := by
  rcases h with ⟨rfl, rfl, rfl, rfl⟩ | ⟨ad, rfl, hl, hm, hz, hc, hw⟩
  · intro k hk; omega
  · intro k hk
    have hkz : k < z.length := by omega
    have h1 := hc k hkz
    have h2 := block_lt_of_cell h1
    rw [add_block] at h2
    have e : z.getD k 0 = z[k] := by simp [List.getD_eq_getElem?_getD, List.getElem?_eq_getElem hkz]
    rw [e] at h1
    exact ⟨ad, z[k], rfl, h2, h1, hw _ (List.getElem_mem hkz)⟩

theorem row_len {K : IntKind} {w : World} {a : Option Addr} {len cap : Nat} {z : List Int} (h : IsRow K w a len cap z) : len ≤ 9223372036854775807 := by
  rcases h with ⟨rfl, rfl, rfl, rfl⟩ | ⟨ad, rfl, hl, hm, hz, hc, hw⟩
  · omega
  · unfold maxLen at hm; omega

end Go.Proofs.Ytcbdfkgfidlkeaa
