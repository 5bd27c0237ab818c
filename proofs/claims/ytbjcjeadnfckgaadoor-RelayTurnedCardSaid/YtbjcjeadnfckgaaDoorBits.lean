/- Bits of unsigned numbers as sums, quotients and rests: no program in sight. -/
import Derived.Laws.BitsAllLaws
namespace Go.Proofs.YtbjcjeadnfckgaaDoor
set_option maxRecDepth 100000
open Go

theorem and15 (a : Int) (h0 : 0 ≤ a) (h1 : a ≤ 18446744073709551615) : bits .and .u64 a 15 = a % 16 := by
  rw [u64_and a 15 h0 (by omega) (by omega) (by omega)]
  have : (15 : Int).toNat = 15 := rfl
  rw [this, nat_mask4]
  omega

theorem and48 (a : Int) (h0 : 0 ≤ a) (h1 : a ≤ 18446744073709551615) : bits .and .u64 a 281474976710655 = a % 281474976710656 := by
  rw [u64_and a 281474976710655 h0 (by omega) (by omega) (by omega)]
  have : (281474976710655 : Int).toNat = 2 ^ 48 - 1 := rfl
  rw [this, Nat.and_two_pow_sub_one_eq_mod]
  omega

theorem bit40 (a : Int) (h0 : 0 ≤ a) (h1 : a ≤ 18446744073709551615) : (bits .and .u64 a 1099511627776 != 0) = (a / 1099511627776 % 2 == 1) := by
  rw [u64_and a 1099511627776 h0 (by omega) (by omega) (by omega)]
  have : (1099511627776 : Int).toNat = 2 ^ 40 := rfl
  rw [this, nat_bit]
  rw [Bool.eq_iff_iff]
  simp only [bne_iff_ne, ne_eq, beq_iff_eq]
  omega

theorem or48 (p a : Int) (hp0 : 0 ≤ p) (hp1 : p ≤ 65535) (h0 : 0 ≤ a) (h1 : a < 281474976710656) :
    bits .or .u64 (p * 281474976710656) a = p * 281474976710656 + a := by
  rw [u64_or _ a (by omega) (by omega) h0 (by omega), nat_join 48 _ _ (by omega) (by omega)]
  omega

theorem or8_16 (p a : Int) (hp0 : 0 ≤ p) (hp1 : p ≤ 255) (h0 : 0 ≤ a) (h1 : a < 256) :
    bits .or .u16 (p * 256) a = p * 256 + a := by
  rw [u16_or _ a (by omega) (by omega) h0 (by omega), nat_join 8 _ _ (by omega) (by omega)]
  omega

theorem or8_64 (p a : Int) (hp0 : 0 ≤ p) (hp1 : p < 72057594037927936) (h0 : 0 ≤ a) (h1 : a < 256) :
    bits .or .u64 (p * 256) a = p * 256 + a := by
  rw [u64_or _ a (by omega) (by omega) h0 (by omega), nat_join 8 _ _ (by omega) (by omega)]
  omega

theorem or4_64 (p a : Int) (hp0 : 0 ≤ p) (hp1 : p < 1152921504606846976) (h0 : 0 ≤ a) (h1 : a < 16) :
    bits .or .u64 (p * 16) a = p * 16 + a := by
  rw [u64_or _ a (by omega) (by omega) h0 (by omega), nat_join 4 _ _ (by omega) (by omega)]
  omega

end Go.Proofs.YtbjcjeadnfckgaaDoor
