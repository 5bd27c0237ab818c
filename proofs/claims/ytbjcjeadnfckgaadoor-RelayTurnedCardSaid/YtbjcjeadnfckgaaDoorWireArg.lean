/- Bytes that came in. -/
import Derived.Test.YtbjcjeadnfckgaaDoorWirePut
import Derived.Laws.BytesArg
namespace Go.Proofs.YtbjcjeadnfckgaaDoor
set_option maxRecDepth 100000
open Go.ChangeShapes Go.WideShapes Go.ChangeAt Go.RowKit
set_option linter.unusedVariables false

theorem u8_wf {n : Int} (h : (Lit.int .u8 n).wf = true) : 0 ≤ n ∧ n < 256 := by
  have := bounds_u8 h
  omega

theorem bytes_in {w : World} {a : Option Addr} {len cap : Nat} {z : List Int} (h : IsRow .u8 w a len cap z) :
    ∃ l : List UInt8, Hid (l.length = len) ∧ RB w a 0 w.heap.size l ∧ len ≤ cap ∧ len ≤ 9223372036854775807 := by
  rcases h with ⟨rfl, rfl, rfl, rfl⟩ | ⟨ad, rfl, hl, hm, hz, hc, hw⟩
  · exact ⟨[], rfl, RB.nil _ _ _ _, Nat.le_refl _, by omega⟩
  · have hlen : ((z.take len).map (fun n : Int => UInt8.ofNat n.toNat)).length = len := by simp; omega
    refine ⟨(z.take len).map (fun n : Int => UInt8.ofNat n.toNat), Lib.hid hlen, ?_, hl, by unfold maxLen at hm; omega⟩
    intro h0
    refine ⟨ad, rfl, Nat.zero_le _, ?_, fun j hj => ?_⟩
    · have h1 := hc 0 (by omega)
      have h2 := block_lt_of_cell h1
      rw [add_block] at h2
      exact h2
    · have hj' : j < len := by omega
      have hjz : j < z.length := by omega
      rw [hc j hjz]
      have hb := u8_wf (hw z[j] (List.getElem_mem hjz))
      simp [bc, List.getD_eq_getElem?_getD, List.getElem?_eq_getElem hjz]
      omega

theorem bytes_in_cap {w : World} {a : Option Addr} {len cap : Nat} {z : List Int} (h : IsRow .u8 w a len cap z) : cap ≤ 9223372036854775807 := by
  rcases h with ⟨rfl, rfl, rfl, rfl⟩ | ⟨ad, rfl, hl, hm, hz, hc, hw⟩
  · omega
  · unfold maxLen at hm; omega

theorem none_cap {K : IntKind} {w : World} {a : Option Addr} {len cap : Nat} {z : List Int} (h : IsRow K w a len cap z) : a = none → cap = 0 := by
  rcases h with ⟨rfl, rfl, rfl, rfl⟩ | ⟨ad, rfl, hl, hm, hz, hc, hw⟩
  · intro _; rfl
  · intro e; cases e

theorem ints_in {K : IntKind} {w : World} {a : Option Addr} {len cap : Nat} {z : List Int} (h : IsRow K w a len cap z) :
    ∀ k, k < len → ∃ ad n, a = some ad ∧ ad.block < w.heap.size ∧ w.cell? (ad.add k) = some (.int K n) ∧ (Lit.int K n).wf = true := by
  rcases h with ⟨rfl, rfl, rfl, rfl⟩ | ⟨ad, rfl, hl, hm, hz, hc, hw⟩
  · intro k hk; omega
  · intro k hk
    have hkz : k < z.length := by omega
    have h1 := hc k hkz
    have h2 := block_lt_of_cell h1
    rw [add_block] at h2
    have e : z.getD k 0 = z[k] := by simp [List.getD_eq_getElem?_getD, List.getElem?_eq_getElem hkz]
    rw [e] at h1
    exact ⟨ad, z[k], rfl, h2, h1, hw _ (List.getElem_mem hkz)⟩

theorem ints_len {K : IntKind} {w : World} {a : Option Addr} {len cap : Nat} {z : List Int} (h : IsRow K w a len cap z) : len ≤ 9223372036854775807 := by
  rcases h with ⟨rfl, rfl, rfl, rfl⟩ | ⟨ad, rfl, hl, hm, hz, hc, hw⟩
  · omega
  · unfold maxLen at hm; omega

theorem conv_nil (w : World) : (convert 25 9 (.slice none 0 0)).run Tryd.prog w = .ok (.string ⟨#[]⟩) w :=
  run_convert_bytes_nil w _ _ Tryd.underlying25 Tryd.underlying5 0 0 _ Tryd.underlying9

theorem conv_any {w : World} {A : Option Addr} {lo hi : Nat} {l : List UInt8} (h : RB w A lo hi l) (n c : Nat) (hn : Hid (l.length = n)) :
    (convert 25 9 (.slice A n c)).run Tryd.prog w = .ok (.string ⟨l.toArray⟩) w := by
  cases A with
  | none =>
    have h0 : l = [] := by
      rcases Nat.eq_zero_or_pos l.length with e | e
      · exact List.eq_nil_of_length_eq_zero e
      · obtain ⟨_, e, _⟩ := h e; cases e
    have hn' := hn.out
    subst h0
    subst hn'
    exact run_convert_bytes_nil w _ _ Tryd.underlying25 Tryd.underlying5 0 c _ Tryd.underlying9
  | some ad => exact conv_row h n c hn

theorem conv_bk (g : Nat) (l : List UInt8) {w : World} {t : TypeId} (h : Bk w g t (l.map bc)) (n c : Nat) (hn : Hid (l.length = n)) :
    (convert 25 9 (.slice (some ⟨g, 0, none⟩) n c)).run Tryd.prog w = .ok (.string ⟨l.toArray⟩) w :=
  conv_row (h.rb 0 (g + 1) (Nat.zero_le _) (Nat.lt_succ_self _)) n c hn

theorem RD.drew {T : TypeId} {w : World} {lo hi h : Nat} {A : Option Addr} {l : List UInt8} {s : Bool} (r : RD T w lo hi h A l s) : RD T w.drew lo hi h A l s := r

end Go.Proofs.YtbjcjeadnfckgaaDoor
