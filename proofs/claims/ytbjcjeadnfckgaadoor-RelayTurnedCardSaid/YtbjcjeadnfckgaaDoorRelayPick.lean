/- What is picked of the numbers below one: no program. -/
import Derived.Test.YtbjcjeadnfckgaaDoorRelayPorts
namespace Go.Proofs.YtbjcjeadnfckgaaDoor
set_option maxRecDepth 100000
set_option linter.unusedVariables false
set_option linter.unusedSimpArgs false

theorem pickN_at {p : Nat → Bool} : ∀ {k j x : Nat}, (pickN p k)[j]? = some x → p x = true ∧ x < k
  | 0, j, x, h => by simp [pickN] at h
  | k + 1, j, x, h => by
    cases hk : p k with
    | false => rw [pickN_no hk] at h; have := pickN_at h; exact ⟨this.1, by omega⟩
    | true =>
      rw [pickN_yes hk] at h
      by_cases hj : j < (pickN p k).length
      · rw [List.getElem?_append_left hj] at h; have := pickN_at h; exact ⟨this.1, by omega⟩
      · rw [List.getElem?_append_right (by omega)] at h
        obtain ⟨hlt, e⟩ := List.getElem?_eq_some_iff.1 h
        simp at hlt e
        exact ⟨by rw [← e]; exact hk, by omega⟩

theorem pickN_rise {p : Nat → Bool} : ∀ {k j x y : Nat}, (pickN p k)[j]? = some x → (pickN p k)[j + 1]? = some y → x < y
  | 0, j, x, y, h, _ => by simp [pickN] at h
  | k + 1, j, x, y, h, g => by
    cases hk : p k with
    | false => rw [pickN_no hk] at h g; exact pickN_rise h g
    | true =>
      rw [pickN_yes hk] at h g
      by_cases hj : j + 1 < (pickN p k).length
      · rw [List.getElem?_append_left (by omega)] at h g; exact pickN_rise h g
      · rw [List.getElem?_append_right (by omega)] at g
        obtain ⟨hlt, e⟩ := List.getElem?_eq_some_iff.1 g
        simp at hlt e
        by_cases hj2 : j < (pickN p k).length
        · rw [List.getElem?_append_left hj2] at h
          have := (pickN_at h).2
          omega
        · omega

theorem through_is {cl t inn : Int} {U : List Int} {wh : Int} {kn : Bool} {i : Nat} (h : throughB cl t inn U wh kn i = true) : 0 ≤ inn ∧ inn < U.length ∧ (i : Int) ≠ inn ∧ U[i]? = some 4 ∧ cl = 2 ∧ U[inn.toNat]? = some 4 := by
  unfold throughB goesB at h
  simp only [Bool.and_eq_true, decide_eq_true_eq] at h
  obtain ⟨⟨⟨⟨⟨⟨a, b⟩, c⟩, d⟩, e⟩, f⟩, -⟩ := h
  exact ⟨a, b, c, d, e, f⟩
theorem and1 (a : Int) (h0 : 0 ≤ a) (h1 : a ≤ 18446744073709551615) : bits .and .u64 a 1 = a % 2 := by
  rw [u64_and a 1 h0 (by omega) (by omega) (by omega)]
  have : (1 : Int).toNat = 1 := rfl
  rw [this, Nat.and_one_is_mod]
  omega
theorem goL_all (wh : Int) (l : List Nat) : goL true wh l = l := by unfold goL; simp
theorem goL_one {p : Nat → Bool} {b : Nat} : ∀ m, goL false (b : Int) (pickN p m) = if b < m ∧ p b = true then [b] else []
  | 0 => by simp [goL, pickN]
  | m + 1 => by
    have ih := goL_one (p := p) (b := b) m
    cases hp : p m with
    | false =>
      rw [pickN_no hp, ih]
      by_cases h : b < m ∧ p b = true
      · rw [if_pos h, if_pos ⟨by omega, h.2⟩]
      · rw [if_neg h, if_neg (fun q => h (by
          obtain ⟨q1, q2⟩ := q
          rcases Nat.lt_or_ge b m with r | r
          · exact ⟨r, q2⟩
          · obtain rfl : b = m := by omega
            rw [hp] at q2; cases q2))]
    | true =>
      rw [pickN_yes hp]
      by_cases hb : b = m
      · subst hb
        rw [goL_yes (q := false) (wh := (b : Int)) _ (by simp), ih, if_neg (by omega), if_pos ⟨by omega, hp⟩]
        rfl
      · rw [goL_no (q := false) (wh := (b : Int)) _ (by simp; omega), ih]
        by_cases h : b < m ∧ p b = true
        · rw [if_pos h, if_pos ⟨by omega, h.2⟩]
        · rw [if_neg h, if_neg (fun q => h ⟨by omega, q.2⟩)]
end Go.Proofs.YtbjcjeadnfckgaaDoor
