/- A frame's bytes, read: lists and numbers alone. -/
import Derived.Test.YtneofpgpinkamaaFrameGet
namespace Go.Proofs.Ytneofpgpinkamaa
open Go Go.RowKit
set_option linter.unusedVariables false

theorem rest6 (n : Int) (h0 : 0 ≤ n) (h1 : n < 281474976710656) : restK n 6 = n := by simp only [restK]; omega
theorem rest2' (n : Int) (h0 : 0 ≤ n) (h1 : n < 65536) : restK n 2 = n := by simp only [restK]; omega

theorem take_front {α : Type} (x y : List α) (k : Nat) (h : x.length = k) : (x ++ y).take k = x := by
  rw [List.take_append_of_le_length (by omega), List.take_of_length_le (by omega)]

theorem drop_front {α : Type} (x y : List α) (k : Nat) (h : x.length = k) : (x ++ y).drop k = y := by
  rw [List.drop_append_of_le_length (by omega), List.drop_eq_nil_of_le (by omega), List.nil_append]

theorem frB_to (t f k : Int) (y : List UInt8) (h0 : 0 ≤ t) (h1 : t < 281474976710656) : toOf (frB t f k y) = t := by
  unfold toOf frB
  rw [List.append_assoc, List.append_assoc, take_front _ _ 6 (beB_len t 6), numU_beB t h0 (by omega), rest6 t h0 h1]

theorem frB_from (t f k : Int) (y : List UInt8) (h0 : 0 ≤ f) (h1 : f < 281474976710656) : fromOf (frB t f k y) = f := by
  unfold fromOf frB
  rw [List.append_assoc, List.append_assoc, drop_front _ _ 6 (beB_len t 6), take_front _ _ 6 (beB_len f 6), numU_beB f h0 (by omega), rest6 f h0 h1]

theorem frB_kind (t f k : Int) (y : List UInt8) (h0 : 0 ≤ k) (h1 : k < 65536) : kindOf (frB t f k y) = k := by
  unfold kindOf frB
  rw [List.append_assoc, drop_front _ _ 12 (by simp [beB_len]), take_front _ _ 2 (beB_len k 2), numU_beB k h0 (by omega), rest2' k h0 h1]

theorem frB_rest (t f k : Int) (y : List UInt8) : (frB t f k y).drop 14 = y := by
  unfold frB
  rw [drop_front _ _ 14 (by simp [beB_len])]

theorem frB_getE (t f k : Int) (y : List UInt8) (h0 : 0 ≤ k) (h1 : k < 65536) : getE (frB t f k y) = gdE k y.length := by
  unfold getE
  rw [if_neg (by rw [frB_len]; omega), frB_kind t f k y h0 h1, frB_rest]

theorem frB_getL (t f k : Int) (y : List UInt8) (h0 : 0 ≤ k) (h1 : k < 65536) : getL (frB t f k y) = gdL k y := by
  unfold getL
  rw [frB_kind t f k y h0 h1, frB_rest]

theorem frB_take (t f k : Int) (y : List UInt8) (p : Nat) (h : 14 ≤ p) : (frB t f k y).take p = frB t f k (y.take (p - 14)) := by
  unfold frB
  rw [List.take_append, List.take_of_length_le (by simp [beB_len]; omega)]
  simp [beB_len]

theorem frB_append (t f k : Int) (y z : List UInt8) : frB t f k y ++ z = frB t f k (y ++ z) := by
  simp [frB, List.append_assoc]

theorem getE_less (x : List UInt8) (h : x.length < 14) : getE x = 2 := by unfold getE; rw [if_pos h]

/-- What a frame that may be is. -/
theorem check_ok {t f k : Int} {n : Nat} (h : checkI t f k n = 0) : t < 281474976710656 ∧ f < 281474976710656 ∧ n ≤ 1500 ∧ (1536 ≤ k ∨ k ≤ 1500 ∧ k = n) := by
  unfold checkI at h
  by_cases g1 : 281474976710655 < t ∨ 281474976710655 < f
  · rw [if_pos g1] at h; cases h
  · rw [if_neg g1] at h
    by_cases g2 : 1500 < n
    · rw [if_pos g2] at h; cases h
    · rw [if_neg g2] at h
      by_cases g3 : 1536 ≤ k
      · exact ⟨by omega, by omega, by omega, .inl g3⟩
      · rw [if_neg g3] at h
        by_cases g4 : k ≤ 1500 ∧ k = n
        · exact ⟨by omega, by omega, by omega, .inr g4⟩
        · rw [if_neg g4] at h; cases h

theorem gd_len (k : Int) (n : Nat) (h : k ≤ 1500) (hk : k ≤ n) : gdE k n = 0 := by
  unfold gdE; rw [if_pos h, if_neg (by omega)]

theorem gd_type (k : Int) (n : Nat) (h : 1536 ≤ k) (hn : n ≤ 1500) : gdE k n = 0 := by
  unfold gdE; rw [if_neg (by omega), if_neg (by omega), if_neg (by omega)]

theorem gd_less (k : Int) (n : Nat) (h : k ≤ 1500) (hk : n < k) : gdE k n = 2 := by
  unfold gdE; rw [if_pos h, if_pos hk]

theorem gdL_len (k : Int) (y z : List UInt8) (h : k ≤ 1500) (hk : k = y.length) : gdL k (y ++ z) = y := by
  unfold gdL; rw [if_pos h, take_front _ _ _ (by omega)]

theorem gdL_type (k : Int) (y : List UInt8) (h : 1536 ≤ k) : gdL k y = y := by
  unfold gdL; rw [if_neg (by omega)]

end Go.Proofs.Ytneofpgpinkamaa
