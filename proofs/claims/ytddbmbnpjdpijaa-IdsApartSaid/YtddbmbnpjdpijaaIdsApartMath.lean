/- Two texts, and two sixes of bytes, of addresses: alike just if the addresses are; the texts in the addresses' order. -/
import Derived.Test.YtddbmbnpjdpijaaIdsMath
import Derived.Test.YtddbmbnpjdpijaaIdsPut
namespace Go.Proofs.Ytddbmbnpjdpijaa
open Go

theorem txt_ne (x y : Int) (x0 : 0 ≤ x) (x1 : x < 281474976710656) (y0 : 0 ≤ y) (y1 : y < 281474976710656) (h : x ≠ y) : txt x ≠ txt y := by
  intro e
  apply h
  rw [← pacc_txt x x0 x1, ← pacc_txt y y0 y1, e]

/-- The six bytes. -/
def by6 (q : Int) : UInt8 := UInt8.ofNat (q % 256).toNat
def pb (x : Int) : List UInt8 := [by6 (x / 1099511627776), by6 (x / 4294967296), by6 (x / 16777216), by6 (x / 65536), by6 (x / 256), by6 x]

theorem by6_nat (q : Int) : ((by6 q).toNat : Int) = q % 256 := by
  unfold by6
  simp [UInt8.toNat_ofNat']
  omega

theorem pb_ne (x y : Int) (x0 : 0 ≤ x) (x1 : x < 281474976710656) (y0 : 0 ≤ y) (y1 : y < 281474976710656) (h : x ≠ y) : pb x ≠ pb y := by
  intro e
  apply h
  simp only [pb, List.cons.injEq, and_true] at e
  obtain ⟨e0, e1, e2, e3, e4, e5⟩ := e
  have f0 := congrArg (fun b : UInt8 => (b.toNat : Int)) e0
  have f1 := congrArg (fun b : UInt8 => (b.toNat : Int)) e1
  have f2 := congrArg (fun b : UInt8 => (b.toNat : Int)) e2
  have f3 := congrArg (fun b : UInt8 => (b.toNat : Int)) e3
  have f4 := congrArg (fun b : UInt8 => (b.toNat : Int)) e4
  have f5 := congrArg (fun b : UInt8 => (b.toNat : Int)) e5
  simp only [by6_nat] at f0 f1 f2 f3 f4 f5
  omega

theorem hexU_lt (a b : Nat) (ha : a < 16) (hb : b < 16) : (hexU a < hexU b) ↔ a < b := by
  rw [UInt8.lt_iff_toNat_lt, hexU_toNat a ha, hexU_toNat b hb]
  split <;> split <;> omega

theorem hexU_eq (a b : Nat) (ha : a < 16) (hb : b < 16) : (hexU a = hexU b) ↔ a = b := by
  rw [← UInt8.toNat_inj, hexU_toNat a ha, hexU_toNat b hb]
  split <;> split <;> omega

theorem less_hx (p q : Int) (h : p / 16 = q / 16) (L M : List UInt8) : Op.bytesLess (hx p :: L) (hx q :: M) = (decide (p < q) || (p == q && Op.bytesLess L M)) := by
  have e1 : decide (hx p < hx q) = decide (p < q) := by
    unfold hx
    rw [decide_eq_decide, hexU_lt _ _ (by omega) (by omega)]
    omega
  have e2 : (hx p == hx q) = (p == q) := by
    unfold hx
    rw [Bool.eq_iff_iff]
    simp only [beq_iff_eq]
    rw [hexU_eq _ _ (by omega) (by omega)]
    omega
  rw [Op.bytesLess, e1, e2]

theorem less_colon (L M : List UInt8) : Op.bytesLess (58 :: L) (58 :: M) = Op.bytesLess L M := by
  rw [Op.bytesLess]; simp


theorem txt_less (x y : Int) (x0 : 0 ≤ x) (x1 : x < 281474976710656) (y0 : 0 ≤ y) (y1 : y < 281474976710656) : Op.bytesLess (txt x) (txt y) = decide (x < y) := by
  have last : x / 16 = y / 16 → Op.bytesLess [hx x] [hx y] = decide (x < y) := by
    intro h
    rw [less_hx x y h]
    simp [Op.bytesLess]
  have s4 : x / 256 = y / 256 → Op.bytesLess [hx (x / 16), hx (x)] [hx (y / 16), hx (y)] = decide (x < y) := by
    intro h
    rw [less_hx (x / 16) (y / 16) (by omega)]
    rcases (show x / 16 < y / 16 ∨ x / 16 = y / 16 ∨ y / 16 < x / 16 from by omega) with c | c | c
    · have : x < y := by omega
      simp [c, this]
    · rw [last c]; simp [c]
    · have h1 : ¬ x / 16 < y / 16 := by omega
      have h2 : ¬ x / 16 = y / 16 := by omega
      have h3 : ¬ x < y := by omega
      simp [h1, h2, h3]
  have s8 : x / 4096 = y / 4096 → Op.bytesLess [hx (x / 256), 58, hx (x / 16), hx (x)] [hx (y / 256), 58, hx (y / 16), hx (y)] = decide (x < y) := by
    intro h
    rw [less_hx (x / 256) (y / 256) (by omega)]
    rcases (show x / 256 < y / 256 ∨ x / 256 = y / 256 ∨ y / 256 < x / 256 from by omega) with c | c | c
    · have : x < y := by omega
      simp [c, this]
    · rw [less_colon, s4 c]; simp [c]
    · have h1 : ¬ x / 256 < y / 256 := by omega
      have h2 : ¬ x / 256 = y / 256 := by omega
      have h3 : ¬ x < y := by omega
      simp [h1, h2, h3]
  have s12 : x / 65536 = y / 65536 → Op.bytesLess [hx (x / 4096), hx (x / 256), 58, hx (x / 16), hx (x)] [hx (y / 4096), hx (y / 256), 58, hx (y / 16), hx (y)] = decide (x < y) := by
    intro h
    rw [less_hx (x / 4096) (y / 4096) (by omega)]
    rcases (show x / 4096 < y / 4096 ∨ x / 4096 = y / 4096 ∨ y / 4096 < x / 4096 from by omega) with c | c | c
    · have : x < y := by omega
      simp [c, this]
    · rw [s8 c]; simp [c]
    · have h1 : ¬ x / 4096 < y / 4096 := by omega
      have h2 : ¬ x / 4096 = y / 4096 := by omega
      have h3 : ¬ x < y := by omega
      simp [h1, h2, h3]
  have s16 : x / 1048576 = y / 1048576 → Op.bytesLess [hx (x / 65536), 58, hx (x / 4096), hx (x / 256), 58, hx (x / 16), hx (x)] [hx (y / 65536), 58, hx (y / 4096), hx (y / 256), 58, hx (y / 16), hx (y)] = decide (x < y) := by
    intro h
    rw [less_hx (x / 65536) (y / 65536) (by omega)]
    rcases (show x / 65536 < y / 65536 ∨ x / 65536 = y / 65536 ∨ y / 65536 < x / 65536 from by omega) with c | c | c
    · have : x < y := by omega
      simp [c, this]
    · rw [less_colon, s12 c]; simp [c]
    · have h1 : ¬ x / 65536 < y / 65536 := by omega
      have h2 : ¬ x / 65536 = y / 65536 := by omega
      have h3 : ¬ x < y := by omega
      simp [h1, h2, h3]
  have s20 : x / 16777216 = y / 16777216 → Op.bytesLess [hx (x / 1048576), hx (x / 65536), 58, hx (x / 4096), hx (x / 256), 58, hx (x / 16), hx (x)] [hx (y / 1048576), hx (y / 65536), 58, hx (y / 4096), hx (y / 256), 58, hx (y / 16), hx (y)] = decide (x < y) := by
    intro h
    rw [less_hx (x / 1048576) (y / 1048576) (by omega)]
    rcases (show x / 1048576 < y / 1048576 ∨ x / 1048576 = y / 1048576 ∨ y / 1048576 < x / 1048576 from by omega) with c | c | c
    · have : x < y := by omega
      simp [c, this]
    · rw [s16 c]; simp [c]
    · have h1 : ¬ x / 1048576 < y / 1048576 := by omega
      have h2 : ¬ x / 1048576 = y / 1048576 := by omega
      have h3 : ¬ x < y := by omega
      simp [h1, h2, h3]
  have s24 : x / 268435456 = y / 268435456 → Op.bytesLess [hx (x / 16777216), 58, hx (x / 1048576), hx (x / 65536), 58, hx (x / 4096), hx (x / 256), 58, hx (x / 16), hx (x)] [hx (y / 16777216), 58, hx (y / 1048576), hx (y / 65536), 58, hx (y / 4096), hx (y / 256), 58, hx (y / 16), hx (y)] = decide (x < y) := by
    intro h
    rw [less_hx (x / 16777216) (y / 16777216) (by omega)]
    rcases (show x / 16777216 < y / 16777216 ∨ x / 16777216 = y / 16777216 ∨ y / 16777216 < x / 16777216 from by omega) with c | c | c
    · have : x < y := by omega
      simp [c, this]
    · rw [less_colon, s20 c]; simp [c]
    · have h1 : ¬ x / 16777216 < y / 16777216 := by omega
      have h2 : ¬ x / 16777216 = y / 16777216 := by omega
      have h3 : ¬ x < y := by omega
      simp [h1, h2, h3]
  have s28 : x / 4294967296 = y / 4294967296 → Op.bytesLess [hx (x / 268435456), hx (x / 16777216), 58, hx (x / 1048576), hx (x / 65536), 58, hx (x / 4096), hx (x / 256), 58, hx (x / 16), hx (x)] [hx (y / 268435456), hx (y / 16777216), 58, hx (y / 1048576), hx (y / 65536), 58, hx (y / 4096), hx (y / 256), 58, hx (y / 16), hx (y)] = decide (x < y) := by
    intro h
    rw [less_hx (x / 268435456) (y / 268435456) (by omega)]
    rcases (show x / 268435456 < y / 268435456 ∨ x / 268435456 = y / 268435456 ∨ y / 268435456 < x / 268435456 from by omega) with c | c | c
    · have : x < y := by omega
      simp [c, this]
    · rw [s24 c]; simp [c]
    · have h1 : ¬ x / 268435456 < y / 268435456 := by omega
      have h2 : ¬ x / 268435456 = y / 268435456 := by omega
      have h3 : ¬ x < y := by omega
      simp [h1, h2, h3]
  have s32 : x / 68719476736 = y / 68719476736 → Op.bytesLess [hx (x / 4294967296), 58, hx (x / 268435456), hx (x / 16777216), 58, hx (x / 1048576), hx (x / 65536), 58, hx (x / 4096), hx (x / 256), 58, hx (x / 16), hx (x)] [hx (y / 4294967296), 58, hx (y / 268435456), hx (y / 16777216), 58, hx (y / 1048576), hx (y / 65536), 58, hx (y / 4096), hx (y / 256), 58, hx (y / 16), hx (y)] = decide (x < y) := by
    intro h
    rw [less_hx (x / 4294967296) (y / 4294967296) (by omega)]
    rcases (show x / 4294967296 < y / 4294967296 ∨ x / 4294967296 = y / 4294967296 ∨ y / 4294967296 < x / 4294967296 from by omega) with c | c | c
    · have : x < y := by omega
      simp [c, this]
    · rw [less_colon, s28 c]; simp [c]
    · have h1 : ¬ x / 4294967296 < y / 4294967296 := by omega
      have h2 : ¬ x / 4294967296 = y / 4294967296 := by omega
      have h3 : ¬ x < y := by omega
      simp [h1, h2, h3]
  have s36 : x / 1099511627776 = y / 1099511627776 → Op.bytesLess [hx (x / 68719476736), hx (x / 4294967296), 58, hx (x / 268435456), hx (x / 16777216), 58, hx (x / 1048576), hx (x / 65536), 58, hx (x / 4096), hx (x / 256), 58, hx (x / 16), hx (x)] [hx (y / 68719476736), hx (y / 4294967296), 58, hx (y / 268435456), hx (y / 16777216), 58, hx (y / 1048576), hx (y / 65536), 58, hx (y / 4096), hx (y / 256), 58, hx (y / 16), hx (y)] = decide (x < y) := by
    intro h
    rw [less_hx (x / 68719476736) (y / 68719476736) (by omega)]
    rcases (show x / 68719476736 < y / 68719476736 ∨ x / 68719476736 = y / 68719476736 ∨ y / 68719476736 < x / 68719476736 from by omega) with c | c | c
    · have : x < y := by omega
      simp [c, this]
    · rw [s32 c]; simp [c]
    · have h1 : ¬ x / 68719476736 < y / 68719476736 := by omega
      have h2 : ¬ x / 68719476736 = y / 68719476736 := by omega
      have h3 : ¬ x < y := by omega
      simp [h1, h2, h3]
  have s40 : x / 17592186044416 = y / 17592186044416 → Op.bytesLess [hx (x / 1099511627776), 58, hx (x / 68719476736), hx (x / 4294967296), 58, hx (x / 268435456), hx (x / 16777216), 58, hx (x / 1048576), hx (x / 65536), 58, hx (x / 4096), hx (x / 256), 58, hx (x / 16), hx (x)] [hx (y / 1099511627776), 58, hx (y / 68719476736), hx (y / 4294967296), 58, hx (y / 268435456), hx (y / 16777216), 58, hx (y / 1048576), hx (y / 65536), 58, hx (y / 4096), hx (y / 256), 58, hx (y / 16), hx (y)] = decide (x < y) := by
    intro h
    rw [less_hx (x / 1099511627776) (y / 1099511627776) (by omega)]
    rcases (show x / 1099511627776 < y / 1099511627776 ∨ x / 1099511627776 = y / 1099511627776 ∨ y / 1099511627776 < x / 1099511627776 from by omega) with c | c | c
    · have : x < y := by omega
      simp [c, this]
    · rw [less_colon, s36 c]; simp [c]
    · have h1 : ¬ x / 1099511627776 < y / 1099511627776 := by omega
      have h2 : ¬ x / 1099511627776 = y / 1099511627776 := by omega
      have h3 : ¬ x < y := by omega
      simp [h1, h2, h3]
  have s44 : x / 281474976710656 = y / 281474976710656 → Op.bytesLess [hx (x / 17592186044416), hx (x / 1099511627776), 58, hx (x / 68719476736), hx (x / 4294967296), 58, hx (x / 268435456), hx (x / 16777216), 58, hx (x / 1048576), hx (x / 65536), 58, hx (x / 4096), hx (x / 256), 58, hx (x / 16), hx (x)] [hx (y / 17592186044416), hx (y / 1099511627776), 58, hx (y / 68719476736), hx (y / 4294967296), 58, hx (y / 268435456), hx (y / 16777216), 58, hx (y / 1048576), hx (y / 65536), 58, hx (y / 4096), hx (y / 256), 58, hx (y / 16), hx (y)] = decide (x < y) := by
    intro h
    rw [less_hx (x / 17592186044416) (y / 17592186044416) (by omega)]
    rcases (show x / 17592186044416 < y / 17592186044416 ∨ x / 17592186044416 = y / 17592186044416 ∨ y / 17592186044416 < x / 17592186044416 from by omega) with c | c | c
    · have : x < y := by omega
      simp [c, this]
    · rw [s40 c]; simp [c]
    · have h1 : ¬ x / 17592186044416 < y / 17592186044416 := by omega
      have h2 : ¬ x / 17592186044416 = y / 17592186044416 := by omega
      have h3 : ¬ x < y := by omega
      simp [h1, h2, h3]
  exact s44 (by omega)

end Go.Proofs.Ytddbmbnpjdpijaa
