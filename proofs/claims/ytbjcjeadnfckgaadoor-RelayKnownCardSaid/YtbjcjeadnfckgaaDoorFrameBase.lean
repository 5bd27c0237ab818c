/- Frames: what is wrong with one, and its bytes, as the program answers them. -/
import Derived.Test.YtbjcjeadnfckgaaDoorWirePutA
import Derived.Test.YtbjcjeadnfckgaaDoorWireAppend
namespace Go.Proofs.YtbjcjeadnfckgaaDoor
set_option maxRecDepth 100000
open Go.ChangeShapes Go.WideShapes Go.ChangeAt Go.RowKit
set_option linter.unusedVariables false

/-- What is wrong with a frame: its number. -/
def checkI (t f k : Int) (n : Nat) : Int :=
  if 281474976710655 < t ∨ 281474976710655 < f then 1 else if 1500 < n then 4 else if 1536 ≤ k then 0 else if k ≤ 1500 ∧ k = n then 0 else 3

/-- What 'Check' leaves. -/
def CheckEnd (t f k : Int) (n : Nat) (w : World) (e : Ending) (w' : World) : Prop := e = .returned (.int .i64 (checkI t f k n)) ∧ Below w.heap.size w w'

theorem own_of_bk {w : World} {base g : Nat} {l : List UInt8} (n : Nat) (hn : Hid (l.length = n)) (hm : n ≤ 1000000) (h : Bk w g 5 (l.map bc)) (hb : base ≤ g) : w.ownsRow base 5 1 (.slice (some ⟨g, 0, none⟩) n n) n (l.map bc) := by
  have e := hn.out
  subst e
  exact ⟨by simp, .inr ⟨g, l.length, (l.map bc).toArray, rfl, hb, h, Nat.le_refl _, by unfold maxLen; omega, by simp, by rw [Nat.mul_one]; exact List.take_of_length_le (by simp)⟩⟩

/-- A frame's bytes. -/
def frB (t f k : Int) (l : List UInt8) : List UInt8 := ((beB t 6 ++ beB f 6) ++ beB k 2) ++ l

theorem frB_len (t f k : Int) (l : List UInt8) : (frB t f k l).length = 14 + l.length := by simp [frB, beB_len]; omega

/-- What 'Put' leaves of a frame that may be: a row of the call's own. -/
def PutEnd (t f k : Int) (l : List UInt8) (n : Nat) (w : World) (e : Ending) (w' : World) : Prop :=
  ∃ g cap, e = .returned (.tuple #[.slice (some ⟨g, 0, none⟩) (14 + n) cap, .int .i64 0]) ∧ w.heap.size ≤ g ∧ Row w' g cap (frB t f k l) ∧ Below w.heap.size w w'

theorem bcell {W w1 : World} (hb : Below W.heap.size W w1) : (∀ b o, b < W.heap.size → w1.cell? ⟨b, o, none⟩ = W.cell? ⟨b, o, none⟩) ∧ (∀ b o, b < W.heap.size → w1.frozen? ⟨b, o, none⟩ = W.frozen? ⟨b, o, none⟩) :=
  ⟨fun b o h => hb.cell (p := ⟨b, o, none⟩) h, fun b o h => hb.frozen (p := ⟨b, o, none⟩) h⟩

/-- A frame in a block of its own. -/
def FB (w : World) (g : Nat) (t f k : Int) (A : Option Addr) (n c : Nat) : Prop := Bk w g 27 [.int .u64 t, .int .u64 f, .int .u16 k, .slice A n c]

theorem FB.new (w : World) (t f k : Int) (A : Option Addr) (n c : Nat) : FB (w.alloc (.cells #[.int .u64 t, .int .u64 f, .int .u16 k, .slice A n c] 27)) w.heap.size t f k A n c := heap_alloc_new w _

theorem FB.below {w w' : World} {g B : Nat} {t f k : Int} {A : Option Addr} {n c : Nat} (h : FB w g t f k A n c) (hb : Below B w w') (hg : g < B) : FB w' g t f k A n c := Bk.below h hb hg

theorem FB.cells {w : World} {g : Nat} {t f k : Int} {A : Option Addr} {n c : Nat} (h : FB w g t f k A n c) :
    w.cell? ⟨g, 0, none⟩ = some (.int .u64 t) ∧ w.cell? ⟨g, 1, none⟩ = some (.int .u64 f) ∧ w.cell? ⟨g, 2, none⟩ = some (.int .u16 k) ∧ w.cell? ⟨g, 3, none⟩ = some (.slice A n c) :=
  ⟨h.cell 0, h.cell 1, h.cell 2, h.cell 3⟩

theorem FB.thaws {w : World} {g : Nat} {t f k : Int} {A : Option Addr} {n c : Nat} (h : FB w g t f k A n c) :
    w.frozen? ⟨g, 0, none⟩ = false ∧ w.frozen? ⟨g, 1, none⟩ = false ∧ w.frozen? ⟨g, 2, none⟩ = false ∧ w.frozen? ⟨g, 3, none⟩ = false :=
  ⟨h.thaw 0, h.thaw 1, h.thaw 2, h.thaw 3⟩

/-- A frame that came in: its numbers fit, its data are a row of bytes. -/
def FrIn (w : World) (t f k : Int) (a : Option Addr) (len cap : Nat) (z : List Int) : Prop :=
  0 ≤ t ∧ t < 18446744073709551616 ∧ 0 ≤ f ∧ f < 18446744073709551616 ∧ 0 ≤ k ∧ k < 65536 ∧ IsRow .u8 w a len cap z

theorem boxed (w : World) (t f k : Int) (A : Option Addr) (n c : Nat) :
    ∃ w0, FB w0 w.heap.size t f k A n c ∧ Below w.heap.size w w0 ∧ w.heap.size < w0.heap.size ∧ w0 = w.alloc (.cells #[.int .u64 t, .int .u64 f, .int .u16 k, .slice A n c] 27) :=
  ⟨_, FB.new w t f k A n c, below_new (Nat.le_refl _), by simp, rfl⟩

theorem awake_bytes : (frB 1 2 0 []).toArray = #[0, 0, 0, 0, 0, 1, 0, 0, 0, 0, 0, 2, 0, 0] := by decide +kernel

end Go.Proofs.YtbjcjeadnfckgaaDoor
