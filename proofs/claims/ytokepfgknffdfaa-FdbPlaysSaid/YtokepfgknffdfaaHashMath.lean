/- FNV-1a as numbers: no program in sight. -/
import Derived.Test.YtokepfgknffdfaaBits
namespace Go.Proofs.Ytokepfgknffdfaa
open Go

/-- Xored; one step of the hash; the hash of six bytes. -/
def fx (h b : Int) : Int := ((h.toNat ^^^ b.toNat : Nat) : Int)
def fs (h b : Int) : Int := fx h b * 16777619 % 4294967296
def fnv6 (b0 b1 b2 b3 b4 b5 : Int) : Int := fs (fs (fs (fs (fs (fs 2166136261 b0) b1) b2) b3) b4) b5
def fnv (a : Int) : Int := fnv6 (a / 1099511627776 % 256) (a / 4294967296 % 256) (a / 16777216 % 256) (a / 65536 % 256) (a / 256 % 256) (a % 256)

theorem fx_bd (h b : Int) (h0 : 0 ≤ h) (h1 : h ≤ 4294967295) (b0 : 0 ≤ b) (b1 : b ≤ 255) : 0 ≤ fx h b ∧ fx h b ≤ 4294967295 := by
  unfold fx
  have : h.toNat ^^^ b.toNat < 2 ^ 32 := Nat.xor_lt_two_pow (by omega) (by omega)
  omega
theorem fs_bd (h b : Int) : 0 ≤ fs h b ∧ fs h b ≤ 4294967295 := by unfold fs; omega
theorem fnv_bd (a : Int) : 0 ≤ fnv a ∧ fnv a ≤ 4294967295 := by unfold fnv fnv6; exact fs_bd _ _
theorem xor32 (h b : Int) (h0 : 0 ≤ h) (h1 : h ≤ 4294967295) (b0 : 0 ≤ b) (b1 : b ≤ 255) : bits .xor .u32 h b = fx h b := u32_xor h b h0 (by omega) b0 (by omega)
theorem xor64 (h b : Int) (h0 : 0 ≤ h) (h1 : h ≤ 4294967295) (b0 : 0 ≤ b) (b1 : b ≤ 255) : bits .xor .u64 h b = fx h b := u64_xor h b h0 (by omega) b0 (by omega)
theorem xs32 (h b : Int) (h0 : 0 ≤ h) (h1 : h ≤ 4294967295) (b0 : 0 ≤ b) (b1 : b ≤ 255) : bits .xor .u32 h b * 16777619 % 4294967296 = fs h b := by rw [xor32 h b h0 h1 b0 b1]; rfl
theorem fs_ref (h b : Int) : (fx h b * 256 * 65536 + fx h b * 403) % 4294967296 = fs h b := by unfold fs; omega

/-- Where one is looked for; the place behind another; how far one is behind another. -/
def slotI (a n : Int) : Int := if n < 1 then 0 else fnv a % n
def nextI (i n : Int) : Int := if 0 ≤ i ∧ i < n - 1 then i + 1 else 0
def wayI (x y n : Int) : Int := if n < 1 then 0 else (y - x) % n

theorem slotI_pos (a n : Int) (h : 1 ≤ n) : slotI a n = fnv a % n := if_neg (by omega)
theorem wayI_pos (x y n : Int) (h : 1 ≤ n) : wayI x y n = (y - x) % n := if_neg (by omega)
theorem mod_bd (x n : Int) (h : 1 ≤ n) : 0 ≤ x % n ∧ x % n < n := ⟨Int.emod_nonneg _ (by omega), Int.emod_lt_of_pos _ (by omega)⟩
theorem fnv_mod (a n : Int) (h : 1 ≤ n) : 0 ≤ fnv a % n ∧ fnv a % n ≤ 4294967295 := by
  obtain ⟨p, q⟩ := fnv_bd a
  obtain ⟨r, s⟩ := mod_bd (fnv a) n h
  by_cases hn : fnv a < n
  · rw [Int.emod_eq_of_lt p hn] at *; exact ⟨p, q⟩
  · omega
/-- Go's rest, turned into one that is not below 0. -/
theorem tmod_bd (i n : Int) (h : 1 ≤ n) : -n < i.tmod n ∧ i.tmod n < n := ⟨Int.lt_tmod_of_pos _ (by omega), Int.tmod_lt_of_pos _ (by omega)⟩
theorem tmod_neg (i n : Int) (h : 1 ≤ n) (hr : i.tmod n < 0) : i.tmod n + n = i % n := by
  have h1 := Int.mul_tdiv_add_tmod i n
  obtain ⟨h2, h3⟩ := tmod_bd i n h
  have h4 : i % n = (i.tmod n + n) % n := by
    conv => lhs; rw [← h1]
    rw [Int.add_comm, Int.add_mul_emod_self_left, Int.add_emod_right]
  rw [h4, Int.emod_eq_of_lt (by omega) (by omega)]
theorem tmod_pos (i n : Int) (h : 1 ≤ n) (hr : ¬ i.tmod n < 0) : i.tmod n = i % n := by
  have h1 := Int.mul_tdiv_add_tmod i n
  obtain ⟨h2, h3⟩ := tmod_bd i n h
  have h4 : i % n = i.tmod n % n := by
    conv => lhs; rw [← h1]
    rw [Int.add_comm, Int.add_mul_emod_self_left]
  rw [h4, Int.emod_eq_of_lt (by omega) (by omega)]
/-- Of places that there are: the rest of their difference. -/
theorem way_small (a b k : Int) (a0 : 0 ≤ a) (a1 : a < k) (b0 : 0 ≤ b) (b1 : b < k) : (b - a) % k = if a ≤ b then b - a else b - a + k := by
  split
  · exact Int.emod_eq_of_lt (by omega) (by omega)
  · rw [← Int.add_emod_right, Int.emod_eq_of_lt (by omega) (by omega)]
theorem mod_small (a j k : Int) (a0 : 0 ≤ a) (a1 : a < k) (j0 : 0 ≤ j) (j1 : j ≤ k) : (a + j) % k = if a + j < k then a + j else a + j - k := by
  split
  · exact Int.emod_eq_of_lt (by omega) (by omega)
  · have : a + j = (a + j - k) + k := by omega
    rw [this, Int.add_emod_right, Int.emod_eq_of_lt (by omega) (by omega)]
    omega
theorem way_back (a b k : Int) : (b - (a + k)) % k = (b - a) % k := by
  rw [← Int.add_emod_right (b - (a + k)) k]
  congr 1
  omega
theorem way_on (a b k : Int) : (b + 3 * k - a) % k = (b - a) % k := by
  have : b + 3 * k - a = (b - a) + k * 3 := by omega
  rw [this, Int.add_mul_emod_self_left]

end Go.Proofs.Ytokepfgknffdfaa
