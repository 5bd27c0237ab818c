/- Numbers of bytes, the highest first: no program in sight. -/
import Derived.Test.YtbjcjeadnfckgaaDoorBits
namespace Go.Proofs.YtbjcjeadnfckgaaDoor
set_option maxRecDepth 100000
open Go

/-- 2^64. -/
abbrev M64 : Int := 18446744073709551616

/-- The number of bytes, what is left by 2^64. -/
def numU (l : List UInt8) : Int := l.foldl (fun a c => (a * 256 + (c.toNat : Int)) % 18446744073709551616) 0

theorem numU_snoc (l : List UInt8) (c : UInt8) : numU (l ++ [c]) = (numU l * 256 + (c.toNat : Int)) % 18446744073709551616 := by
  simp [numU]

theorem numU_lo (l : List UInt8) : 0 ≤ numU l ∧ numU l < 18446744073709551616 := by
  rcases List.eq_nil_or_concat l with rfl | ⟨m, c, rfl⟩
  · simp [numU]
  · rw [List.concat_eq_append, numU_snoc]; omega

theorem numU_take (l : List UInt8) (k : Nat) (h : k < l.length) : numU (l.take (k + 1)) = (numU (l.take k) * 256 + (l[k].toNat : Int)) % 18446744073709551616 := by
  rw [List.take_succ_eq_append_getElem h, numU_snoc]

/-- The lowest 'k' bytes of a number, the highest first. -/
def beB (n : Int) : Nat → List UInt8
  | 0 => []
  | k + 1 => beB (n / 256) k ++ [UInt8.ofNat (n % 256).toNat]

theorem beB_len (n : Int) (k : Nat) : (beB n k).length = k := by
  induction k generalizing n with
  | zero => rfl
  | succ k ih => simp [beB, ih]

/-- The rest of 'n' by 256^k, k times 8 bits. -/
def restK (n : Int) : Nat → Int
  | 0 => 0
  | k + 1 => restK (n / 256) k * 256 + n % 256

theorem restK_lt (n : Int) (h : 0 ≤ n) (k : Nat) : 0 ≤ restK n k ∧ restK n k ≤ n := by
  induction k generalizing n with
  | zero => simp [restK]; exact h
  | succ k ih =>
    have := ih (n / 256) (by omega)
    simp only [restK]; omega

theorem byte_nat (n : Int) : ((UInt8.ofNat (n % 256).toNat).toNat : Int) = n % 256 := by
  simp
  omega

theorem numU_beB (n : Int) (h0 : 0 ≤ n) (h1 : n < 18446744073709551616) (k : Nat) : numU (beB n k) = restK n k := by
  induction k generalizing n with
  | zero => rfl
  | succ k ih =>
    have hr := restK_lt n h0 (k + 1)
    simp only [beB, numU_snoc, ih (n / 256) (by omega) (by omega), byte_nat n]
    simp only [restK] at hr ⊢
    omega

theorem restK_big (n : Int) (h0 : 0 ≤ n) (h1 : n < 18446744073709551616) (j : Nat) : restK n (j + 8) = n := by
  induction j generalizing n with
  | zero => simp only [restK]; omega
  | succ j ih =>
    have := ih (n / 256) (by omega) (by omega)
    rw [show j + 1 + 8 = (j + 8) + 1 by omega]
    simp only [restK] at this ⊢
    omega

/-- The number without its lowest 'j' bytes. -/
def shiftK (n : Int) : Nat → Int
  | 0 => n
  | j + 1 => shiftK (n / 256) j

theorem shiftK_succ (n : Int) (j : Nat) : shiftK n (j + 1) = shiftK n j / 256 := by
  induction j generalizing n with
  | zero => rfl
  | succ j ih => rw [shiftK, ih, shiftK]

theorem shiftK_lo (n : Int) (h0 : 0 ≤ n) (h1 : n < 18446744073709551616) (j : Nat) : 0 ≤ shiftK n j ∧ shiftK n j < 18446744073709551616 := by
  induction j generalizing n with
  | zero => exact ⟨h0, h1⟩
  | succ j ih => exact ih (n / 256) (by omega) (by omega)

theorem beB_front (n : Int) (j : Nat) : beB n (j + 1) = UInt8.ofNat (shiftK n j % 256).toNat :: beB n j := by
  induction j generalizing n with
  | zero => rfl
  | succ j ih =>
    rw [beB, ih (n / 256)]
    rfl

end Go.Proofs.YtbjcjeadnfckgaaDoor
