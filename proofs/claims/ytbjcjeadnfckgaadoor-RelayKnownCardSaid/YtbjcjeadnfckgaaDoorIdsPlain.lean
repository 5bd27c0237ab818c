/- The text of an address, its bytes, and what is read of a text: as lists. No program in sight. -/
import Derived.Test.YtbjcjeadnfckgaaDoorBits
import Derived.WalkKit
namespace Go.Proofs.YtbjcjeadnfckgaaDoor
set_option maxRecDepth 100000
open Go

def hexU (d : Nat) : UInt8 := if d < 10 then UInt8.ofNat (48 + d) else UInt8.ofNat (87 + d)
def hx (q : Int) : UInt8 := hexU (q % 16).toNat
def txt (a : Int) : List UInt8 :=
  [hx (a / 17592186044416), hx (a / 1099511627776), 58, hx (a / 68719476736), hx (a / 4294967296), 58, hx (a / 268435456), hx (a / 16777216), 58,
   hx (a / 1048576), hx (a / 65536), 58, hx (a / 4096), hx (a / 256), 58, hx (a / 16), hx a]

theorem hexcell (d : Int) (h0 : 0 ≤ d) (h1 : d < 16) (h : d.toNat < (ByteArray.mk #[48, 49, 50, 51, 52, 53, 54, 55, 56, 57, 97, 98, 99, 100, 101, 102]).size) :
    ((ByteArray.mk #[48, 49, 50, 51, 52, 53, 54, 55, 56, 57, 97, 98, 99, 100, 101, 102])[d.toNat]'h) = hexU d.toNat := by
  have hd : d = 0 ∨ d = 1 ∨ d = 2 ∨ d = 3 ∨ d = 4 ∨ d = 5 ∨ d = 6 ∨ d = 7 ∨ d = 8 ∨ d = 9 ∨ d = 10 ∨ d = 11 ∨ d = 12 ∨ d = 13 ∨ d = 14 ∨ d = 15 := by omega
  rcases hd with rfl | rfl | rfl | rfl | rfl | rfl | rfl | rfl | rfl | rfl | rfl | rfl | rfl | rfl | rfl | rfl <;> rfl

theorem txt_len (a : Int) : (txt a).length = 17 := rfl

theorem hx_of (x q : Int) (h : x = q % 16) : hexU x.toNat = hx q := by rw [h]; rfl
theorem str_app (l : List UInt8) (m : Array UInt8) : (ByteArray.mk l.toArray ++ ByteArray.mk m : ByteArray) = ⟨(l ++ m.toList).toArray⟩ := by
  apply ByteArray.ext; simp [ByteArray.data_append]

end Go.Proofs.YtbjcjeadnfckgaaDoor
