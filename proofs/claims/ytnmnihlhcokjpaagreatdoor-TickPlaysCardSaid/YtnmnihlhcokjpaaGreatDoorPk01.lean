/- Several texts in one, one behind the other: Kit, WireMem, WireMake, Bits, WireMath, WirePut, WirePutA, WireArg, WireAppend, FrameBase, FrameClone, WireCut, FrameOpen, Held, RankMath, PortMem, PortSame, TimerOn. -/
import Derived.WalkKit
import Derived.ProofKit
import Derived.OpenShut
import Derived.WalkLawsBesides
import Derived.Outline
import Derived.Handy
import Derived.Lib.Hide
import Derived.Laws.CopyOwn
import Derived.Laws.MakeOwn
import Derived.Test.YtnmnihlhcokjpaaGreatDoorRows
import Derived.Laws.BitsAllLaws
import Derived.Lib.MinMax
import Derived.LoopTactic
import Derived.Laws.BytesArg
import Derived.Laws.AppendOwnNone
import Derived.RegionTactic
import Derived.Deep.RegionLaw
import Derived.Laws.Rows
import Derived.Laws.Tables
import Derived.Laws.StructEq
import Derived.BigRegion
import Derived.Deep.DeepCutAuto

/- Small laws of this seat's own, over any program: a byte (or any one-cell value) appended to a slice that the call itself made, with room; cells kept by 'Below'. -/
namespace Go.Proofs.YtnmnihlhcokjpaaGreatDoor
set_option maxRecDepth 100000
open Go Go.RowKit

theorem ret_int {k : IntKind} {a b : Int} (h : a = b) : Ending.returned (.int k a) = .returned (.int k b) := by rw [h]
theorem ret_bool {a b : Bool} (h : a = b) : Ending.returned (.bool a) = .returned (.bool b) := by rw [h]
theorem ret_int2 {k l : IntKind} {a b c d : Int} (h : a = b) (g : c = d) : Ending.returned (.tuple #[.int k a, .int l c]) = .returned (.tuple #[.int k b, .int l d]) := by rw [h, g]
theorem addr_add (b off j : Nat) : (⟨b, off, none⟩ : Addr).add j = ⟨b, off + j, none⟩ := by
  unfold Addr.add; split <;> simp_all

/-- A byte as a cell. -/
def bc (b : UInt8) : Value := .int .u8 (b.toNat : Int)

/-- A slice of integers that came in: nil; or a row of 'cap' cells, the numbers 'zs', each fitting its kind. -/
def IsRow (k : IntKind) (w : World) (a : Option Addr) (len cap : Nat) (zs : List Int) : Prop :=
  (a = none ∧ len = 0 ∧ cap = 0 ∧ zs = []) ∨
  ∃ x, a = some x ∧ len ≤ cap ∧ cap ≤ maxLen ∧ zs.length = cap ∧ (∀ i, i < zs.length → w.cell? (x.add i) = some (.int k (zs.getD i 0))) ∧ ∀ n ∈ zs, (Lit.int k n).wf = true

/-- What owns something is not nil. -/
theorem owns_some {w : World} {base e n : Nat} {v : Value} {xs : List Value} (h : w.ownsRow base e 1 v n xs) (hn : 0 < n) :
    ∃ g cap, v = .slice (some ⟨g, 0, none⟩) n cap ∧ base ≤ g := by
  rcases h.2 with ⟨_, h0⟩ | ⟨g, cap, cur, hv, hb, _⟩
  · omega
  · exact ⟨g, cap, hv, hb⟩

end Go.Proofs.YtnmnihlhcokjpaaGreatDoor

/- Bytes in memory, and a reader's memory: words of this work's own, over any program. -/
namespace Go.Proofs.YtnmnihlhcokjpaaGreatDoor
set_option maxRecDepth 100000
open Go Go.RowKit

theorem add_block (a : Addr) (n : Nat) : (a.add n).block = a.block := by
  unfold Addr.add; split <;> rfl

theorem add_add (a : Addr) (i j : Nat) : (a.add i).add j = a.add (i + j) := by
  unfold Addr.add
  rcases Nat.eq_zero_or_pos i with h | h <;> rcases Nat.eq_zero_or_pos j with g | g
  · simp [h, g]
  · simp [h]
  · simp [g]
  · simp [show i ≠ 0 by omega, show j ≠ 0 by omega, Nat.add_assoc]

/-- The slice at 'A', as long as 'l', holds the bytes 'l'; where there are any, they lie in a block from 'lo' on and below 'hi'. -/
def RB (w : World) (A : Option Addr) (lo hi : Nat) (l : List UInt8) : Prop :=
  0 < l.length → ∃ ad, A = some ad ∧ lo ≤ ad.block ∧ ad.block < hi ∧ ∀ j (h : j < l.length), w.cell? (ad.add j) = some (bc l[j])

theorem RB.nil (w : World) (A : Option Addr) (lo hi : Nat) : RB w A lo hi [] := fun h => absurd h (by simp)

theorem RB.keep {w w' : World} {A : Option Addr} {lo hi : Nat} {l : List UInt8} (h : RB w A lo hi l) (k : ∀ p : Addr, lo ≤ p.block → p.block < hi → w'.cell? p = w.cell? p) : RB w' A lo hi l := by
  intro hl
  obtain ⟨ad, e, h1, h2, hc⟩ := h hl
  exact ⟨ad, e, h1, h2, fun j hj => (k _ (by rw [add_block]; exact h1) (by rw [add_block]; exact h2)).trans (hc j hj)⟩

theorem RB.wide {w : World} {A : Option Addr} {lo hi lo' hi' : Nat} {l : List UInt8} (h : RB w A lo hi l) (h1 : lo' ≤ lo) (h2 : hi ≤ hi') : RB w A lo' hi' l := by
  intro hl
  obtain ⟨ad, e, g1, g2, hc⟩ := h hl
  exact ⟨ad, e, by omega, by omega, hc⟩

theorem RB.below {w w' : World} {A : Option Addr} {lo hi B : Nat} {l : List UInt8} (h : RB w A lo hi l) (hb : Below B w w') (hB : hi ≤ B) : RB w' A lo hi l :=
  h.keep fun p _ h2 => hb.cell (by omega)

theorem RB.set {w : World} {A : Option Addr} {lo hi : Nat} {l : List UInt8} (h : RB w A lo hi l) {p : Addr} (hp : p.block < lo ∨ hi ≤ p.block) (u : Value) : RB (w.setCell p u) A lo hi l :=
  h.keep fun q h1 h2 => World.cell?_setCell_other w p q u (fun e => by subst e; omega)

theorem RB.take {w : World} {A : Option Addr} {lo hi : Nat} {l : List UInt8} (h : RB w A lo hi l) (k : Nat) : RB w A lo hi (l.take k) := by
  intro hl
  have : 0 < l.length := by simp at hl; omega
  obtain ⟨ad, e, g1, g2, hc⟩ := h this
  refine ⟨ad, e, g1, g2, fun j hj => ?_⟩
  have hj' : j < l.length := by simp at hj; omega
  rw [hc j hj']; simp

/-- 's[k:]', as the model lays it: at k = cap the address stays. -/
def cutA (A : Option Addr) (k cap : Nat) : Option Addr := if cap = k then A else A.map (·.add k)

theorem RB.drop {w : World} {A : Option Addr} {lo hi : Nat} {l : List UInt8} (h : RB w A lo hi l) (k cap : Nat) (hc : l.length ≤ cap) : RB w (cutA A k cap) lo hi (l.drop k) := by
  intro hl
  have hl' : k < l.length := by simp at hl; omega
  obtain ⟨ad, rfl, g1, g2, hcc⟩ := h (by omega)
  unfold cutA
  rw [if_neg (by omega)]
  refine ⟨ad.add k, rfl, by rw [add_block]; exact g1, by rw [add_block]; exact g2, fun j hj => ?_⟩
  have hj' : k + j < l.length := by simp at hj; omega
  rw [add_add, hcc (k + j) hj']; simp

/-- A block known whole. -/
def Bk (w : World) (g : Nat) (t : TypeId) (cs : List Value) : Prop := w.heap[g]? = some (.cells cs.toArray t (0, 0))

theorem Bk.lt {w : World} {g : Nat} {t : TypeId} {cs : List Value} (h : Bk w g t cs) : g < w.heap.size := by
  unfold Bk at h
  rcases Nat.lt_or_ge g w.heap.size with k | k
  · exact k
  · rw [Array.getElem?_eq_none k] at h; cases h

theorem Bk.cell {w : World} {g : Nat} {t : TypeId} {cs : List Value} (h : Bk w g t cs) (i : Nat) : w.cell? ⟨g, i, none⟩ = cs[i]? := by
  have := cell_of_row w g i cs.toArray t (0, 0) h
  simpa using this

theorem Bk.thaw {w : World} {g : Nat} {t : TypeId} {cs : List Value} (h : Bk w g t cs) (i : Nat) : w.frozen? ⟨g, i, none⟩ = false := by
  unfold Bk at h
  simp [World.frozen?, h]

theorem Bk.set {w : World} {g : Nat} {t : TypeId} {cs : List Value} (h : Bk w g t cs) (i : Nat) (u : Value) : Bk (w.setCell ⟨g, i, none⟩ u) g t (cs.set i u) := by
  unfold Bk at h ⊢
  simp [World.setCell, Array.getElem?_modify, h]

theorem Bk.far {w : World} {g : Nat} {t : TypeId} {cs : List Value} (h : Bk w g t cs) {p : Addr} (hp : p.block ≠ g) (u : Value) : Bk (w.setCell p u) g t cs :=
  (Below.heap_setCell w p u g (fun e => hp e.symm)).trans h

theorem Bk.below {w w' : World} {g B : Nat} {t : TypeId} {cs : List Value} (h : Bk w g t cs) (hb : Below B w w') (hg : g < B) : Bk w' g t cs :=
  (hb.block g hg).trans h

theorem Bk.rb {w : World} {g : Nat} {t : TypeId} {l : List UInt8} (h : Bk w g t (l.map bc)) (lo hi : Nat) (h1 : lo ≤ g) (h2 : g < hi) : RB w (some ⟨g, 0, none⟩) lo hi l := by
  intro _
  refine ⟨_, rfl, h1, h2, fun j hj => ?_⟩
  rw [addr_add, h.cell]
  simp [hj]

theorem RB.bytes {w : World} {ad : Addr} {lo hi : Nat} {l : List UInt8} (h : RB w (some ad) lo hi l) : ∀ j (hj : j < l.length), w.cell? (ad.add j) = some (.int .u8 (l[j].toNat : Int)) := by
  intro j hj
  obtain ⟨ad', e, _, _, hc⟩ := h (by omega)
  cases e
  exact hc j hj

/-- A reader at block 'h': its bytes left, and whether it came to the end too soon; all its memory lies from 'lo' on and below 'hi'. -/
def RD (T : TypeId) (w : World) (lo hi h : Nat) (A : Option Addr) (l : List UInt8) (s : Bool) : Prop :=
  lo ≤ h ∧ h < hi ∧ Bk w h T [.slice A l.length l.length, .bool s] ∧ RB w A lo h l

theorem RD.keep {T : TypeId} {w w' : World} {lo hi h : Nat} {A : Option Addr} {l : List UInt8} {s : Bool} (r : RD T w lo hi h A l s) (k : ∀ b, lo ≤ b → b < hi → w'.heap[b]? = w.heap[b]?) : RD T w' lo hi h A l s := by
  obtain ⟨h1, h2, h3, h4⟩ := r
  exact ⟨h1, h2, (k h h1 h2).trans h3, h4.keep fun p g1 g2 => World.cell?_of_block (k _ g1 (by omega))⟩

theorem RD.below {T : TypeId} {w w' : World} {lo hi h B : Nat} {A : Option Addr} {l : List UInt8} {s : Bool} (r : RD T w lo hi h A l s) (hb : Below B w w') (hB : hi ≤ B) : RD T w' lo hi h A l s :=
  r.keep fun b _ g => hb.block b (by omega)

theorem RD.set {T : TypeId} {w : World} {lo hi h : Nat} {A : Option Addr} {l : List UInt8} {s : Bool} (r : RD T w lo hi h A l s) {p : Addr} (hp : p.block < lo ∨ hi ≤ p.block) (u : Value) : RD T (w.setCell p u) lo hi h A l s :=
  r.keep fun b g1 g2 => Below.heap_setCell w p u b (fun e => by subst e; omega)

theorem RD.wide {T : TypeId} {w : World} {lo hi lo' hi' h : Nat} {A : Option Addr} {l : List UInt8} {s : Bool} (r : RD T w lo hi h A l s) (g1 : lo' ≤ lo) (g2 : hi ≤ hi') : RD T w lo' hi' h A l s := by
  obtain ⟨h1, h2, h3, h4⟩ := r
  exact ⟨by omega, by omega, h3, h4.wide g1 (Nat.le_refl _)⟩

theorem made_bytes (n : Nat) : madeCells (Value.int .u8 0).cells (n * 1) = ((List.replicate n (Value.int .u8 0)).toArray) := by
  unfold madeCells
  apply Array.ext
  · simp
  · intro i h1 h2
    simp [Value.cells, Nat.mod_one]

theorem splice_all {α : Type} (L cs : List α) (h : cs.length = L.length) : splice L 0 cs = cs := by
  simp [splice, h]

theorem one_bcs (l : List UInt8) : ∀ v ∈ l.map bc, v.oneCell' = true := by
  intro v hv
  simp at hv
  obtain ⟨_, _, rfl⟩ := hv
  rfl

theorem below_two {B : Nat} {w w1 w2 : World} (h : Below B w w1) (g : Below w1.heap.size w1 w2) (hB : B ≤ w1.heap.size) : Below B w w2 := h.trans (g.mono hB)

end Go.Proofs.YtnmnihlhcokjpaaGreatDoor

/- Bytes made, copied into, and the facts on their type. -/
namespace Go.Proofs.YtnmnihlhcokjpaaGreatDoor
set_option maxRecDepth 100000
open Go.ChangeShapes Go.WideShapes Go.ChangeAt Go.RowKit
set_option linter.unusedVariables false

theorem Tryz.infoByte : (Tryz.prog.info? 5).map (fun i => (i.zero, i.size, i.bytes)) = some (some (.int .u8 0), 1, 1) := by kernel_rfl
theorem Tryz.sizeByte : (Tryz.prog.info? 5).map (·.size) = some 1 := by kernel_rfl

theorem make_bytes (n : Nat) (h : n ≤ 140737488355328) (w : World) :
    (Instr.makeSlice 79 (.int .i64 (n : Int)) (.int .i64 (n : Int))).run Tryz.prog w = .ok (.slice (some ⟨w.heap.size, 0, none⟩) n n) (w.alloc (.cells (List.replicate n (Value.int .u8 0)).toArray 5)) := by
  obtain ⟨i0, hi, hz0, hz1, hz2⟩ := info_parts Tryz.infoByte
  have hr := run_make (P := Tryz.prog) w 79 5 i0 _ Tryz.underlying79 hi hz0 .i64 .i64 (n : Int) (n : Int) (by omega) (by omega) (by rw [hz2]; omega) (by omega)
  rw [hz1] at hr
  simp only [Int.toNat_natCast] at hr
  rw [hr, made_bytes]

theorem copy_src {w w' : World} {A : Option Addr} {l : List UInt8} {lo hi : Nat} (hr : RB w A lo hi l) (hb : Below hi w w') (d : Option Addr) :
    0 < (l.map bc).length → d = d ∧ ∃ ad, A = some ad ∧ ∀ (j : Nat) v, (l.map bc)[j]? = some v → w'.cell? (ad.add j) = some v := by
  intro hp
  obtain ⟨ad, rfl, g1, g2, hc⟩ := hr (by simpa using hp)
  refine ⟨rfl, ad, rfl, fun j v hv => ?_⟩
  have hj : j < l.length := by
    rcases Nat.lt_or_ge j l.length with k | k
    · exact k
    · rw [List.getElem?_eq_none (by simpa using k)] at hv; cases hv
  rw [hb.cell (by rw [add_block]; omega), hc j hj, ← hv]
  simp [hj]

theorem len_min {l : List UInt8} {n : Nat} (h : l.length = n) : (l.map bc).length = Nat.min n n := by
  rw [List.length_map, h]; exact (Nat.min_self n).symm

theorem fit_all {l : List UInt8} {n : Nat} (h : l.length = n) : 0 + (l.map bc).length ≤ (List.replicate n (Value.int .u8 0)).length := by
  simp [h]

theorem below_new {w : World} {o : Obj} {hi : Nat} (h : hi ≤ w.heap.size) : Below hi w (w.alloc o) := (Below.refl _ _).alloc h _

end Go.Proofs.YtnmnihlhcokjpaaGreatDoor

/- Bits of unsigned numbers as sums, quotients and rests: no program in sight. -/
namespace Go.Proofs.YtnmnihlhcokjpaaGreatDoor
set_option maxRecDepth 100000
open Go

theorem and48 (a : Int) (h0 : 0 ≤ a) (h1 : a ≤ 18446744073709551615) : bits .and .u64 a 281474976710655 = a % 281474976710656 := by
  rw [u64_and a 281474976710655 h0 (by omega) (by omega) (by omega)]
  have : (281474976710655 : Int).toNat = 2 ^ 48 - 1 := rfl
  rw [this, Nat.and_two_pow_sub_one_eq_mod]
  omega

theorem or48 (p a : Int) (hp0 : 0 ≤ p) (hp1 : p ≤ 65535) (h0 : 0 ≤ a) (h1 : a < 281474976710656) :
    bits .or .u64 (p * 281474976710656) a = p * 281474976710656 + a := by
  rw [u64_or _ a (by omega) (by omega) h0 (by omega), nat_join 48 _ _ (by omega) (by omega)]
  omega

theorem or8_16 (p a : Int) (hp0 : 0 ≤ p) (hp1 : p ≤ 255) (h0 : 0 ≤ a) (h1 : a < 256) :
    bits .or .u16 (p * 256) a = p * 256 + a := by
  rw [u16_or _ a (by omega) (by omega) h0 (by omega), nat_join 8 _ _ (by omega) (by omega)]
  omega

theorem or8_64 (p a : Int) (hp0 : 0 ≤ p) (hp1 : p < 72057594037927936) (h0 : 0 ≤ a) (h1 : a < 256) :
    bits .or .u64 (p * 256) a = p * 256 + a := by
  rw [u64_or _ a (by omega) (by omega) h0 (by omega), nat_join 8 _ _ (by omega) (by omega)]
  omega

end Go.Proofs.YtnmnihlhcokjpaaGreatDoor

/- Numbers of bytes, the highest first: no program in sight. -/
namespace Go.Proofs.YtnmnihlhcokjpaaGreatDoor
set_option maxRecDepth 100000
open Go

/-- 2^64. -/
abbrev M64 : Int := 18446744073709551616

/-- The number of bytes, what is left by 2^64. -/
def numU (l : List UInt8) : Int := l.foldl (fun a c => (a * 256 + (c.toNat : Int)) % 18446744073709551616) 0

theorem numU_snoc (l : List UInt8) (c : UInt8) : numU (l ++ [c]) = (numU l * 256 + (c.toNat : Int)) % 18446744073709551616 := by
  simp [numU]

theorem numU_lo (l : List UInt8) : 0 ≤ numU l ∧ numU l < 18446744073709551616 := by
  rcases List.eq_nil_or_concat l with rfl | ⟨m, c, rfl⟩
  · simp [numU]
  · rw [List.concat_eq_append, numU_snoc]; omega

theorem numU_take (l : List UInt8) (k : Nat) (h : k < l.length) : numU (l.take (k + 1)) = (numU (l.take k) * 256 + (l[k].toNat : Int)) % 18446744073709551616 := by
  rw [List.take_succ_eq_append_getElem h, numU_snoc]

/-- The lowest 'k' bytes of a number, the highest first. -/
def beB (n : Int) : Nat → List UInt8
  | 0 => []
  | k + 1 => beB (n / 256) k ++ [UInt8.ofNat (n % 256).toNat]

theorem beB_len (n : Int) (k : Nat) : (beB n k).length = k := by
  induction k generalizing n with
  | zero => rfl
  | succ k ih => simp [beB, ih]

/-- The rest of 'n' by 256^k, k times 8 bits. -/
def restK (n : Int) : Nat → Int
  | 0 => 0
  | k + 1 => restK (n / 256) k * 256 + n % 256

theorem restK_lt (n : Int) (h : 0 ≤ n) (k : Nat) : 0 ≤ restK n k ∧ restK n k ≤ n := by
  induction k generalizing n with
  | zero => simp [restK]; exact h
  | succ k ih =>
    have := ih (n / 256) (by omega)
    simp only [restK]; omega

theorem byte_nat (n : Int) : ((UInt8.ofNat (n % 256).toNat).toNat : Int) = n % 256 := by
  simp
  omega

theorem numU_beB (n : Int) (h0 : 0 ≤ n) (h1 : n < 18446744073709551616) (k : Nat) : numU (beB n k) = restK n k := by
  induction k generalizing n with
  | zero => rfl
  | succ k ih =>
    have hr := restK_lt n h0 (k + 1)
    simp only [beB, numU_snoc, ih (n / 256) (by omega) (by omega), byte_nat n]
    simp only [restK] at hr ⊢
    omega

/-- The number without its lowest 'j' bytes. -/
def shiftK (n : Int) : Nat → Int
  | 0 => n
  | j + 1 => shiftK (n / 256) j

theorem shiftK_succ (n : Int) (j : Nat) : shiftK n (j + 1) = shiftK n j / 256 := by
  induction j generalizing n with
  | zero => rfl
  | succ j ih => rw [shiftK, ih, shiftK]

theorem shiftK_lo (n : Int) (h0 : 0 ≤ n) (h1 : n < 18446744073709551616) (j : Nat) : 0 ≤ shiftK n j ∧ shiftK n j < 18446744073709551616 := by
  induction j generalizing n with
  | zero => exact ⟨h0, h1⟩
  | succ j ih => exact ih (n / 256) (by omega) (by omega)

theorem beB_front (n : Int) (j : Nat) : beB n (j + 1) = UInt8.ofNat (shiftK n j % 256).toNat :: beB n j := by
  induction j generalizing n with
  | zero => rfl
  | succ j ih =>
    rw [beB, ih (n / 256)]
    rfl

end Go.Proofs.YtnmnihlhcokjpaaGreatDoor

/- Put: a number's bytes behind others, in new memory. -/
namespace Go.Proofs.YtnmnihlhcokjpaaGreatDoor
set_option maxRecDepth 100000
open Go.ChangeShapes Go.WideShapes Go.ChangeAt Go.RowKit
set_option linter.unusedVariables false

/-- The row behind 'j' rounds: the bytes ahead, zeros, the lowest j bytes. -/
def rowP (l : List UInt8) (n : Int) (k j : Nat) : List Value := (l ++ (List.replicate (k - j) 0 ++ beB n j)).map bc

theorem rowP_start (l : List UInt8) (n : Int) (k : Nat) : splice (List.replicate (l.length + k) (Value.int .u8 0)) 0 (l.map bc) = rowP l n k 0 := by
  simp only [splice, rowP, beB, List.take_zero, List.nil_append, List.drop_replicate, List.length_map, Nat.zero_add, List.append_nil, List.map_append, List.map_replicate, Nat.sub_zero]
  rw [show l.length + k - l.length = k by omega]
  rfl

theorem rowP_end (l : List UInt8) (n : Int) (k : Nat) : rowP l n k k = (l ++ beB n k).map bc := by
  simp [rowP]

theorem rowP_len (l : List UInt8) (n : Int) (k j : Nat) (h : j ≤ k) : (rowP l n k j).length = l.length + k := by
  simp [rowP, beB_len]; omega

theorem rowP_step (l : List UInt8) (n : Int) (k j : Nat) (h : j < k) : (rowP l n k j).set (l.length + k - 1 - j) (.int .u8 (shiftK n j % 256)) = rowP l n k (j + 1) := by
  have e : Value.int .u8 (shiftK n j % 256) = bc (UInt8.ofNat (shiftK n j % 256).toNat) := by unfold bc; rw [byte_nat]
  obtain ⟨m, hm⟩ : ∃ m, k - j = m + 1 := ⟨k - j - 1, by omega⟩
  rw [e]
  unfold rowP
  rw [← List.map_set, beB_front, show k - (j + 1) = m by omega, hm, show l.length + k - 1 - j = l.length + m by omega]
  congr 1
  rw [List.set_append_right _ _ (by omega), show l.length + m - l.length = m by omega, List.replicate_succ', List.append_assoc, List.set_append_right _ _ (by simp)]
  simp

theorem make_sum (a k : Nat) (h : a + k ≤ 140737488355328) (w : World) :
    (Instr.makeSlice 79 (.int .i64 ((a : Int) + (k : Int))) (.int .i64 ((a : Int) + (k : Int)))).run Tryz.prog w = .ok (.slice (some ⟨w.heap.size, 0, none⟩) (a + k) (a + k)) (w.alloc (.cells (List.replicate (a + k) (Value.int .u8 0)).toArray 5)) := by
  have := make_bytes (a + k) h w
  rw [Int.natCast_add] at this
  exact this

theorem len_min2 (l : List UInt8) (k : Nat) : (l.map bc).length = Nat.min l.length (l.length + k) := by
  rw [List.length_map]; exact (Nat.min_eq_left (by omega)).symm

theorem fit_front (l : List UInt8) (k : Nat) : 0 + (l.map bc).length ≤ (List.replicate (l.length + k) (Value.int .u8 0)).length := by
  simp

theorem put16 (A : Option Addr) (c : Nat) (l : List UInt8) (m lo hi k : Nat) (sz n : Int) (hsz : Hid (sz = k)) (hk : k ≤ 1000) (h0 : 0 ≤ n) (h1 : n < 65536) (hn : Hid (l.length = m)) (hm : m ≤ 100000) (w : World) (hr : RB w A lo hi l) (hhi : hi ≤ w.heap.size) :
    Calls Tryz.prog 128 #[.slice A m c, .int .u16 n, .int .i64 sz] w fun e w' => e = .returned (.slice (some ⟨w.heap.size, 0, none⟩) (m + k) (m + k)) ∧ Bk w' w.heap.size 5 ((l ++ beB n k).map bc) ∧ Below w.heap.size w w' := by
  obtain rfl := hsz.out
  obtain rfl := hn.out
  clear hsz hn
  have hmm : min (k : Int) 1000 = (k : Int) := by omega
  have hmk := make_sum l.length k (by omega)
  go_enter Tryz.func128, Tryz.ntmps128
  go_wp2_with (with_reducible refine wpList_copy_splice rfl (.tmp 18) (.tmp 19) 79 79 rfl 5 Tryz.underlying79 Tryz.sizeByte _ _ _ _ _ _ rfl rfl w.heap.size 0 (List.replicate (l.length + k) (Value.int .u8 0)) 5 (heap_alloc_new w _) (l.map bc) (len_min2 l k) (copy_src hr (below_new hhi) _) (fit_front l k) (one_bcs l) w.heap.size w (below_new (Nat.le_refl _)) (Nat.le_refl _) ?_; intro w1 hg hb)
  clear hmm hmk
  go_loopw [8, 24] (fun t i wr => ∃ j : Nat, j ≤ k ∧ i = .int .i64 j ∧ t = .int .u64 (shiftK n j) ∧ Bk wr w.heap.size 5 (rowP l n k j) ∧ Below w.heap.size w wr) (fun _ i _ => k - (intOf i).toNat)
  case atStart => exact ⟨0, Nat.zero_le _, rfl, rfl, by have h := hg.out; rw [rowP_start l n k] at h; exact h, hb⟩
  case round =>
    obtain ⟨j, hj, rfl, rfl, hB, hbl⟩ := hrel
    obtain ⟨q0, q1⟩ := shiftK_lo n h0 (by omega) j
    clear hg hb
    by_cases hlt : j < k
    · obtain ⟨idx, hidx⟩ : ∃ idx : Nat, idx = l.length + k - 1 - j := ⟨_, rfl⟩
      have hil : idx < (rowP l n k j).length := by rw [rowP_len l n k j hj]; omega
      obtain ⟨v, hcell⟩ : ∃ v, wr.cell? ⟨w.heap.size, idx, none⟩ = some v := ⟨_, (hB.cell idx).trans (List.getElem?_eq_getElem hil)⟩
      have hfz := hB.thaw idx
      have hi1 : (l.length : Int) + (k : Int) - 1 - (j : Int) = (idx : Int) := by omega
      have hi2 : idx < l.length + k := by omega
      have HI := Lib.hid hidx
      clear hidx hil
      go_wp2
      go_roundw
      case rel => exact ⟨j + 1, by omega, by go_num, by rw [shiftK_succ], by have h := hB.set idx (.int .u8 (shiftK n j % 256)); rw [HI.out, rowP_step l n k j hlt, ← HI.out] at h; exact h, hbl.setCell (Nat.le_refl _) _⟩
      case measure => simp [intOf]; omega
    · obtain rfl : j = k := by omega
      go_wp2
      go_ret
      refine ⟨rfl, ?_, hbl⟩
      rw [rowP_end] at hB
      exact hB

end Go.Proofs.YtnmnihlhcokjpaaGreatDoor

/- Put of an address. -/
namespace Go.Proofs.YtnmnihlhcokjpaaGreatDoor
set_option maxRecDepth 100000
open Go.ChangeShapes Go.WideShapes Go.ChangeAt Go.RowKit
set_option linter.unusedVariables false

end Go.Proofs.YtnmnihlhcokjpaaGreatDoor

/- Bytes that came in. -/
namespace Go.Proofs.YtnmnihlhcokjpaaGreatDoor
set_option maxRecDepth 100000
open Go.ChangeShapes Go.WideShapes Go.ChangeAt Go.RowKit
set_option linter.unusedVariables false

theorem RD.drew {T : TypeId} {w : World} {lo hi h : Nat} {A : Option Addr} {l : List UInt8} {s : Bool} (r : RD T w lo hi h A l s) : RD T w.drew lo hi h A l s := r

end Go.Proofs.YtnmnihlhcokjpaaGreatDoor

/- Bytes appended to a row of the call's own: the source nil, empty or not. -/
namespace Go.Proofs.YtnmnihlhcokjpaaGreatDoor
set_option maxRecDepth 100000
open Go.ChangeShapes Go.WideShapes Go.ChangeAt Go.RowKit
set_option linter.unusedVariables false

/-- A row of the call's own, in block 'g': the bytes 'l', and what is spare. -/
def Row (w : World) (g cap : Nat) (l : List UInt8) : Prop := ∃ sp : List Value, sp.length = cap - l.length ∧ l.length ≤ cap ∧ Bk w g 5 (l.map bc ++ sp)

theorem Row.of_own {w : World} {base g n cap : Nat} {l : List UInt8} (h : w.ownsRow base 5 1 (.slice (some ⟨g, 0, none⟩) n cap) n (l.map bc)) : Row w g cap l ∧ base ≤ g ∧ l.length = n := by
  obtain ⟨h1, ⟨h2, _⟩ | ⟨g', cap', cur, hv, hb, hh, hn, _, hs, ht⟩⟩ := h
  · cases h2
  · injection hv with e1 _ e3
    injection e1 with e1
    injection e1 with e1
    subst e1; subst e3
    simp only [Nat.mul_one] at ht hs
    have hl : l.length = n := by simpa using h1
    refine ⟨⟨cur.toList.drop n, by simp; omega, by omega, ?_⟩, hb, hl⟩
    rw [← ht, List.take_append_drop]
    exact hh

theorem Row.rb {w : World} {g cap : Nat} {l : List UInt8} (h : Row w g cap l) (lo hi : Nat) (h1 : lo ≤ g) (h2 : g < hi) : RB w (some ⟨g, 0, none⟩) lo hi l := by
  obtain ⟨sp, _, _, hb⟩ := h
  intro _
  refine ⟨_, rfl, h1, h2, fun j hj => ?_⟩
  rw [addr_add, hb.cell]
  simp [hj, List.getElem?_append_left]

theorem Row.lt {w : World} {g cap : Nat} {l : List UInt8} (h : Row w g cap l) : g < w.heap.size := by
  obtain ⟨sp, _, _, hb⟩ := h
  exact hb.lt

theorem src_cells {w : World} {ad : Addr} {lo hi : Nat} {l : List UInt8} (h : RB w (some ad) lo hi l) : ∀ (j : Nat) u, (l.map bc)[j]? = some u → w.cell? (ad.add j) = some u := by
  intro j u hu
  have hj : j < l.length := by
    rcases Nat.lt_or_ge j l.length with k | k
    · exact k
    · rw [List.getElem?_eq_none (by simpa using k)] at hu; cases hu
  have := h.bytes j hj
  rw [this, ← hu]
  simp [hj, bc]

theorem append_bytes (w : World) {ops : Array Oper} {rest : List Oper} {o : Oper} {a : Act} {Q : Exit → Act → World → Prop} (hgd : o.guard = none) (s x : Operand)
    (ho : o.op = .call { callee := .builtin .append, args := #[s, x], argTypes := #[79, 79] })
    (base g n cap : Nat) (l : List UInt8) (hs : a.eval s = .slice (some ⟨g, 0, none⟩) n cap) (hown : w.ownsRow base 5 1 (.slice (some ⟨g, 0, none⟩) n cap) n (l.map bc))
    (A : Option Addr) (m c lo hi : Nat) (l2 : List UInt8) (hx : a.eval x = .slice A m c) (hr : RB w A lo hi l2) (hl : Hid (l2.length = m)) (hc : A = none → c = 0)
    (hn : n + m ≤ 1000000) (hbase : base ≤ w.heap.size) (B : Nat) (w0 : World) (hb : Below B w0 w) (hB : B ≤ base)
    (h : ∀ g' cap' w', w'.ownsRow base 5 1 (.slice (some ⟨g', 0, none⟩) (n + m) cap') (n + m) ((l ++ l2).map bc) → Below B w0 w' → base ≤ w'.heap.size → wpList Tryz.prog ops Q rest (a.put o.dst (.slice (some ⟨g', 0, none⟩) (n + m) cap')) w') :
    wpList Tryz.prog ops Q (o :: rest) a w := by
  obtain ⟨i0, hi0, hz0, hz1, hz2⟩ := info_parts Tryz.infoByte
  have hg : base ≤ g := (Row.of_own hown).2.1
  cases A with
  | none =>
    have h0 : l2 = [] := by
      rcases Nat.eq_zero_or_pos l2.length with e | e
      · exact List.eq_nil_of_length_eq_zero e
      · obtain ⟨_, e, _⟩ := hr e; cases e
    subst h0
    have hm := hl.out
    subst hm
    have hc0 := hc rfl
    subst hc0
    refine wpList_append_own_none hgd s x 79 ho base 5 i0 1 Tryz.underlying79 hi0 _ n (l.map bc) hs hown hx ?_
    have := h g cap w (by simpa using hown) hb hbase
    simpa using this
  | some ad =>
    refine wpList_append_own w hgd s x 79 ho base 5 i0 (.int .u8 0) 1 1 Tryz.underlying79 hi0 hz0 hz1 hz2 rfl (by decide) _ n (l.map bc) hs hown ad m c (l2.map bc) hx (by rw [List.length_map, hl.out, Nat.mul_one]) (src_cells hr) (one_bcs l2) (by unfold maxLen; omega) (by omega) hbase ?_
    intro v' w' hown' hgrow hnil
    have hbw : Below B w0 w' := hb.grown hgrow (Nat.le_trans hB hbase) (fun k hk => by simp [Value.ownBlock] at hk; omega)
    have hsz : base ≤ w'.heap.size := Nat.le_trans hbase hgrow.size
    rcases hown'.2 with ⟨hv, hn0⟩ | ⟨g', cap', cur, hv, _⟩
    · have := (hnil.1 hv).1
      cases this
    · subst hv
      rw [← List.map_append] at hown'
      exact h g' cap' w' hown' hbw hsz

/-- Bytes appended to nil: in new memory, or nil still, if there are none. -/
theorem append_nil (w : World) {ops : Array Oper} {rest : List Oper} {o : Oper} {a : Act} {Q : Exit → Act → World → Prop} (hgd : o.guard = none) (s x : Operand)
    (ho : o.op = .call { callee := .builtin .append, args := #[s, x], argTypes := #[79, 79] })
    (hs : a.eval s = .slice none 0 0) (A : Option Addr) (m c lo hi : Nat) (l2 : List UInt8) (hx : a.eval x = .slice A m c) (hr : RB w A lo hi l2) (hl : Hid (l2.length = m)) (hc : A = none → c = 0)
    (hn : m ≤ 1000000)
    (h : ∀ D cap w', RB w' D w.heap.size w'.heap.size l2 → Below w.heap.size w w' → wpList Tryz.prog ops Q rest (a.put o.dst (.slice D m cap)) w') :
    wpList Tryz.prog ops Q (o :: rest) a w := by
  obtain ⟨i0, hi0, hz0, hz1, hz2⟩ := info_parts Tryz.infoByte
  cases A with
  | none =>
    have h0 : l2 = [] := by
      rcases Nat.eq_zero_or_pos l2.length with e | e
      · exact List.eq_nil_of_length_eq_zero e
      · obtain ⟨_, e, _⟩ := hr e; cases e
    subst h0
    have hm := hl.out
    subst hm
    have hc0 := hc rfl
    subst hc0
    refine wpList_append_own_none hgd s x 79 ho w.heap.size 5 i0 1 Tryz.underlying79 hi0 _ 0 [] hs (World.ownsRow_nil w _ _ _) hx ?_
    exact h none 0 w (RB.nil _ _ _ _) (Below.refl _ _)
  | some ad =>
    refine wpList_append_own w hgd s x 79 ho w.heap.size 5 i0 (.int .u8 0) 1 1 Tryz.underlying79 hi0 hz0 hz1 hz2 rfl (by decide) _ 0 [] hs (World.ownsRow_nil w _ _ _) ad m c (l2.map bc) hx (by rw [List.length_map, hl.out, Nat.mul_one]) (src_cells hr) (one_bcs l2) (by unfold maxLen; omega) (by omega) (Nat.le_refl _) ?_
    intro v' w' hown' hgrow hnil
    have hbw : Below w.heap.size w w' := (Below.refl _ _).grown hgrow (Nat.le_refl _) (fun k hk => by simp [Value.ownBlock] at hk)
    rw [Nat.zero_add, List.nil_append] at hown'
    rcases hown'.2 with ⟨hv, hn0⟩ | ⟨g', cap', cur, hv, _⟩
    · subst hv
      subst hn0
      have e : l2 = [] := List.eq_nil_of_length_eq_zero hl.out
      subst e
      exact h none 0 w' (RB.nil _ _ _ _) hbw
    · subst hv
      obtain ⟨hrow, hg, _⟩ := Row.of_own hown'
      exact h _ cap' w' (hrow.rb _ _ hg hrow.lt) hbw

end Go.Proofs.YtnmnihlhcokjpaaGreatDoor

/- Frames: what is wrong with one, and its bytes, as the program answers them. -/
namespace Go.Proofs.YtnmnihlhcokjpaaGreatDoor
set_option maxRecDepth 100000
open Go.ChangeShapes Go.WideShapes Go.ChangeAt Go.RowKit
set_option linter.unusedVariables false

/-- What is wrong with a frame: its number. -/
def checkI (t f k : Int) (n : Nat) : Int :=
  if 281474976710655 < t ∨ 281474976710655 < f then 1 else if 1500 < n then 4 else if 1536 ≤ k then 0 else if k ≤ 1500 ∧ k = n then 0 else 3

/-- What 'Check' leaves. -/
def CheckEnd (t f k : Int) (n : Nat) (w : World) (e : Ending) (w' : World) : Prop := e = .returned (.int .i64 (checkI t f k n)) ∧ Below w.heap.size w w'

/-- A frame's bytes. -/
def frB (t f k : Int) (l : List UInt8) : List UInt8 := ((beB t 6 ++ beB f 6) ++ beB k 2) ++ l

/-- What 'Put' leaves of a frame that may be: a row of the call's own. -/
def PutEnd (t f k : Int) (l : List UInt8) (n : Nat) (w : World) (e : Ending) (w' : World) : Prop :=
  ∃ g cap, e = .returned (.tuple #[.slice (some ⟨g, 0, none⟩) (14 + n) cap, .int .i64 0]) ∧ w.heap.size ≤ g ∧ Row w' g cap (frB t f k l) ∧ Below w.heap.size w w'

/-- A frame in a block of its own. -/
def FB (w : World) (g : Nat) (t f k : Int) (A : Option Addr) (n c : Nat) : Prop := Bk w g 81 [.int .u64 t, .int .u64 f, .int .u16 k, .slice A n c]

theorem FB.new (w : World) (t f k : Int) (A : Option Addr) (n c : Nat) : FB (w.alloc (.cells #[.int .u64 t, .int .u64 f, .int .u16 k, .slice A n c] 81)) w.heap.size t f k A n c := heap_alloc_new w _

theorem FB.below {w w' : World} {g B : Nat} {t f k : Int} {A : Option Addr} {n c : Nat} (h : FB w g t f k A n c) (hb : Below B w w') (hg : g < B) : FB w' g t f k A n c := Bk.below h hb hg

theorem FB.cells {w : World} {g : Nat} {t f k : Int} {A : Option Addr} {n c : Nat} (h : FB w g t f k A n c) :
    w.cell? ⟨g, 0, none⟩ = some (.int .u64 t) ∧ w.cell? ⟨g, 1, none⟩ = some (.int .u64 f) ∧ w.cell? ⟨g, 2, none⟩ = some (.int .u16 k) ∧ w.cell? ⟨g, 3, none⟩ = some (.slice A n c) :=
  ⟨h.cell 0, h.cell 1, h.cell 2, h.cell 3⟩

theorem FB.thaws {w : World} {g : Nat} {t f k : Int} {A : Option Addr} {n c : Nat} (h : FB w g t f k A n c) :
    w.frozen? ⟨g, 0, none⟩ = false ∧ w.frozen? ⟨g, 1, none⟩ = false ∧ w.frozen? ⟨g, 2, none⟩ = false ∧ w.frozen? ⟨g, 3, none⟩ = false :=
  ⟨h.thaw 0, h.thaw 1, h.thaw 2, h.thaw 3⟩

/-- A frame that came in: its numbers fit, its data are a row of bytes. -/
def FrIn (w : World) (t f k : Int) (a : Option Addr) (len cap : Nat) (z : List Int) : Prop :=
  0 ≤ t ∧ t < 18446744073709551616 ∧ 0 ≤ f ∧ f < 18446744073709551616 ∧ 0 ≤ k ∧ k < 65536 ∧ IsRow .u8 w a len cap z

theorem boxed (w : World) (t f k : Int) (A : Option Addr) (n c : Nat) :
    ∃ w0, FB w0 w.heap.size t f k A n c ∧ Below w.heap.size w w0 ∧ w.heap.size < w0.heap.size ∧ w0 = w.alloc (.cells #[.int .u64 t, .int .u64 f, .int .u16 k, .slice A n c] 81) :=
  ⟨_, FB.new w t f k A n c, below_new (Nat.le_refl _), by simp, rfl⟩

end Go.Proofs.YtnmnihlhcokjpaaGreatDoor

/- Clone: the same bytes, in memory of the call's own, or nil. -/
namespace Go.Proofs.YtnmnihlhcokjpaaGreatDoor
set_option maxRecDepth 100000
open Go.ChangeShapes Go.WideShapes Go.ChangeAt Go.RowKit
set_option linter.unusedVariables false

/-- A slice of the call's own that holds the bytes 'l': where there are any, they lie in a block from 'base' on. -/
def OwnD (w : World) (base : Nat) (D : Option Addr) (cap : Nat) (l : List UInt8) : Prop := 0 < l.length → ∃ g, D = some ⟨g, 0, none⟩ ∧ base ≤ g ∧ Row w g cap l

theorem OwnD.rb {w : World} {base : Nat} {D : Option Addr} {cap : Nat} {l : List UInt8} (h : OwnD w base D cap l) : RB w D base w.heap.size l := by
  intro hl
  obtain ⟨g, rfl, hg, hrow⟩ := h hl
  exact hrow.rb base w.heap.size hg hrow.lt hl

theorem Row.below {w w' : World} {g cap B : Nat} {l : List UInt8} (h : Row w g cap l) (hb : Below B w w') (hg : g < B) : Row w' g cap l := by
  obtain ⟨sp, h1, h2, h3⟩ := h
  exact ⟨sp, h1, h2, h3.below hb hg⟩

theorem OwnD.below {w w' : World} {base B : Nat} {D : Option Addr} {cap : Nat} {l : List UInt8} (h : OwnD w base D cap l) (hb : Below B w w') (hB : w.heap.size ≤ B) : OwnD w' base D cap l := by
  intro hl
  obtain ⟨g, rfl, hg, hrow⟩ := h hl
  exact ⟨g, rfl, hg, hrow.below hb (Nat.lt_of_lt_of_le hrow.lt hB)⟩

def CloneEnd (l : List UInt8) (n : Nat) (w : World) (e : Ending) (w' : World) : Prop :=
  ∃ D cap, e = .returned (.slice D n cap) ∧ OwnD w' w.heap.size D cap l ∧ n ≤ cap ∧ cap ≤ 9223372036854775807 ∧ Below w.heap.size w w'

end Go.Proofs.YtnmnihlhcokjpaaGreatDoor

/- Slices of bytes cut: 's[p:]', 's[p:q]', 's[:q]', run, for every p and q. -/
namespace Go.Proofs.YtnmnihlhcokjpaaGreatDoor
set_option maxRecDepth 100000
open Go.ChangeShapes Go.WideShapes Go.ChangeAt Go.RowKit
set_option linter.unusedVariables false

/-- 's[p:]', run. -/
theorem scut_any (A : Option Addr) (m c p : Nat) (h : p ≤ m) (w : World) :
    (Instr.sliceAt 79 (.slice A m c) (some (.int .i64 (p : Int))) none none).run Tryz.prog w = .ok (.slice (cutA A p c) (m - p) (c - p)) w := by
  have hu : Tryz.prog.underlying 79 = some (.slice (Tryz.prog.elem 79)) := by kernel_rfl
  have hs : (sizeOf (Tryz.prog.elem 79)).run Tryz.prog w = .ok 1 w := by kernel_rfl
  rw [run_sliceAt_slice w _ _ _ _ _ hu, run_slice_l w _ _ _ _ hu .i64 (p : Int) (by omega) (by omega), hs]
  simp [Result.andThen, sliced, cutA]

/-- 's[:q]', run. -/
theorem cut3_any (A : Option Addr) (m c q : Nat) (h : q ≤ c) (w : World) :
    (Instr.sliceAt 79 (.slice A m c) none (some (.int .i64 (q : Int))) none).run Tryz.prog w = .ok (.slice A q c) w := by
  have hu : Tryz.prog.underlying 79 = some (.slice (Tryz.prog.elem 79)) := by kernel_rfl
  have hs : (sizeOf (Tryz.prog.elem 79)).run Tryz.prog w = .ok 1 w := by kernel_rfl
  rw [run_sliceAt_slice w _ _ _ _ _ hu, run_slice_h w _ _ _ _ hu .i64 (q : Int) (by omega) (by omega), hs]
  simp [Result.andThen, sliced]
  cases A <;> simp [Addr.add]

end Go.Proofs.YtnmnihlhcokjpaaGreatDoor

/- Open: a Bpdu's bytes of a frame; the document's; Wrap. The variable bpduHead holds its three bytes. -/
namespace Go.Proofs.YtnmnihlhcokjpaaGreatDoor
set_option maxRecDepth 100000
open Go.ChangeShapes Go.WideShapes Go.ChangeAt Go.RowKit
set_option linter.unusedVariables false

/-- The variable bpduHead holds 42 42 3 (hexadecimal). -/
def Hd (w : World) : Prop := w.cell? ⟨0, 0, none⟩ = some (.int .u8 66) ∧ w.cell? ⟨0, 1, none⟩ = some (.int .u8 66) ∧ w.cell? ⟨0, 2, none⟩ = some (.int .u8 3) ∧ 0 < w.heap.size

theorem Hd.below {w w' : World} {B : Nat} (h : Hd w) (hb : Below B w w') (hB : w.heap.size ≤ B) : Hd w' := by
  obtain ⟨h0, h1, h2, h3⟩ := h
  have h4 : 0 < B := Nat.lt_of_lt_of_le h3 hB
  exact ⟨(hb.cell h4).trans h0, (hb.cell h4).trans h1, (hb.cell h4).trans h2, Nat.lt_of_lt_of_le h3 hb.size⟩

theorem three {w : World} {g : Nat} {b0 b1 b2 : UInt8} (h : w.heap[g]? = some (.cells (splice [Value.int .u8 0, .int .u8 0, .int .u8 0] 0 ([b0, b1, b2].map bc)).toArray 158 (0, 0))) :
    w.cell? ⟨g, 0, none⟩ = some (.int .u8 (b0.toNat : Int)) ∧ w.cell? ⟨g, 1, none⟩ = some (.int .u8 (b1.toNat : Int)) ∧ w.cell? ⟨g, 2, none⟩ = some (.int .u8 (b2.toNat : Int)) := by
  have hb : Bk w g 158 [bc b0, bc b1, bc b2] := h
  exact ⟨hb.cell 0, hb.cell 1, hb.cell 2⟩

/-- A frame that bridges tell each other? -/
def openB (t k : Int) (l : List UInt8) : Bool := t == 1652522221568 && decide (k ≤ 1500) && (l.take 3 == [66, 66, 3])

def OpenYes (x : List UInt8) (m : Nat) (w : World) (e : Ending) (w' : World) : Prop :=
  ∃ D cap, e = .returned (.tuple #[.slice D m cap, .bool true]) ∧ RB w' D 0 w'.heap.size x ∧ Below w.heap.size w w'

def OpenNo (w : World) (e : Ending) (w' : World) : Prop := e = .returned (.tuple #[.slice none 0 0, .bool false]) ∧ Below w.heap.size w w'

/-- What 'Open' leaves. -/
def OpenEnd (t k : Int) (l : List UInt8) (n : Nat) (w : World) (e : Ending) (w' : World) : Prop :=
  (openB t k l = true ∧ OpenYes (l.drop 3) (n - 3) w e w') ∨ (openB t k l = false ∧ OpenNo w e w')

end Go.Proofs.YtnmnihlhcokjpaaGreatDoor

/- A list of blocks of the call's own, each known whole: what a walk holds of the world where structs of many cells lie in boxes. Over any program. -/
namespace Go.Proofs.YtnmnihlhcokjpaaGreatDoor
set_option maxRecDepth 100000
open Go.ChangeShapes Go.WideShapes Go.ChangeAt Go.RowKit
set_option linter.unusedVariables false

/-- The blocks of the list lie as it says, each made since w; all that w had lies as it lay. -/
def Hs (w : World) (l : List (Nat × TypeId × List Value)) (wx : World) : Prop :=
  (∀ (k g : Nat) T cs, l[k]? = some (g, T, cs) → Bk wx g T cs ∧ w.heap.size ≤ g) ∧
  (∀ (j k : Nat) a b, j ≠ k → l[j]? = some a → l[k]? = some b → a.1 ≠ b.1) ∧ Below w.heap.size w wx

theorem Hs.nil (w : World) : Hs w [] w := ⟨fun k g T cs h => by simp at h, fun j k a b _ h => by simp at h, Below.refl _ _⟩
theorem Hs.old {w wx : World} {l : List (Nat × TypeId × List Value)} (h : Hs w l wx) : Below w.heap.size w wx := h.2.2
theorem Hs.bk {w wx : World} {l : List (Nat × TypeId × List Value)} (h : Hs w l wx) (k : Nat) {g : Nat} {T : TypeId} {cs : List Value} (hk : l[k]? = some (g, T, cs)) : wx.heap[g]? = some (.cells cs.toArray T (0, 0)) := (h.1 k g T cs hk).1
theorem Hs.lt {w wx : World} {l : List (Nat × TypeId × List Value)} (h : Hs w l wx) (k : Nat) {g : Nat} {T : TypeId} {cs : List Value} (hk : l[k]? = some (g, T, cs)) : g < wx.heap.size := Bk.lt (h.1 k g T cs hk).1
theorem Hs.cell {w wx : World} {l : List (Nat × TypeId × List Value)} (h : Hs w l wx) (k : Nat) {g : Nat} {T : TypeId} {cs : List Value} (i : Nat) {v : Value} (hk : l[k]? = some (g, T, cs)) (hv : cs[i]? = some v) : wx.cell? ⟨g, i, none⟩ = some v := by
  rw [Bk.cell (h.1 k g T cs hk).1 i, hv]
theorem Hs.thaw {w wx : World} {l : List (Nat × TypeId × List Value)} (h : Hs w l wx) (k : Nat) {g : Nat} {T : TypeId} {cs : List Value} (i : Nat) (hk : l[k]? = some (g, T, cs)) : wx.frozen? ⟨g, i, none⟩ = false := Bk.thaw (h.1 k g T cs hk).1 i

theorem Hs.below {w wx wy : World} {l : List (Nat × TypeId × List Value)} (h : Hs w l wx) (b : Below wx.heap.size wx wy) : Hs w l wy :=
  ⟨fun k g T cs hk => ⟨(h.1 k g T cs hk).1.below b (h.lt k hk), (h.1 k g T cs hk).2⟩, h.2.1, h.2.2.trans (b.mono h.2.2.size)⟩
theorem Hs.drew {w wx : World} {l : List (Nat × TypeId × List Value)} (h : Hs w l wx) : Hs w l wx.drew :=
  ⟨fun k g T cs hk => ⟨(h.1 k g T cs hk).1, (h.1 k g T cs hk).2⟩, h.2.1, h.2.2.drew⟩

theorem Hs.tail {w wx : World} {e : Nat × TypeId × List Value} {l : List (Nat × TypeId × List Value)} (h : Hs w (e :: l) wx) : Hs w l wx :=
  ⟨fun k g T cs hk => h.1 (k + 1) g T cs hk, fun j k a b hn hj hk => h.2.1 (j + 1) (k + 1) a b (by omega) hj hk, h.2.2⟩

/-- A new block. -/
theorem Hs.al {w wx : World} {l : List (Nat × TypeId × List Value)} (h : Hs w l wx) {g : Nat} (hg : wx.heap.size = g) (T : TypeId) (cs : List Value) : Hs w ((g, T, cs) :: l) (wx.alloc (.cells cs.toArray T)) := by
  subst hg
  have b : Below wx.heap.size wx (wx.alloc (.cells cs.toArray T)) := (Below.refl _ _).alloc (Nat.le_refl _) _
  have h' := h.below b
  refine ⟨fun k g T' cs' hk => ?_, fun j k a c hn hj hk => ?_, h'.2.2⟩
  · cases k with
    | zero => cases hk; exact ⟨heap_alloc_new wx _, h.2.2.size⟩
    | succ k => exact h'.1 k g T' cs' hk
  · cases j with
    | zero =>
      cases k with
      | zero => exact absurd rfl hn
      | succ k =>
        cases hj
        have := h.lt (g := c.1) (T := c.2.1) (cs := c.2.2) k hk
        show wx.heap.size ≠ c.1
        omega
    | succ j =>
      cases k with
      | zero =>
        cases hk
        have := h.lt (g := a.1) (T := a.2.1) (cs := a.2.2) j hj
        show a.1 ≠ wx.heap.size
        omega
      | succ k => exact h.2.1 j k a c (fun e => hn (by rw [e])) hj hk

/-- One block's cells changed. -/
theorem Hs.put {w wx wy : World} {l : List (Nat × TypeId × List Value)} (h : Hs w l wx) (i : Nat) {g : Nat} {T : TypeId} {cs : List Value} (hi : l[i]? = some (g, T, cs)) (cs' : List Value)
    (h1 : Bk wy g T cs') (h2 : ∀ k, k ≠ g → wy.heap[k]? = wx.heap[k]?) (h3 : Below w.heap.size w wy) : Hs w (l.set i (g, T, cs')) wy := by
  have hlen : i < l.length := (List.getElem?_eq_some_iff.1 hi).1
  have hat : ∀ k x, (l.set i (g, T, cs'))[k]? = some x → (k = i ∧ x = (g, T, cs')) ∨ (k ≠ i ∧ l[k]? = some x) := by
    intro k x hx
    by_cases e : k = i
    · subst e
      rw [List.getElem?_set_self hlen] at hx
      exact .inl ⟨rfl, (Option.some.inj hx).symm⟩
    · rw [List.getElem?_set_ne (fun q => e q.symm)] at hx
      exact .inr ⟨e, hx⟩
  refine ⟨fun k g' T' cs'' hk => ?_, fun j k a b hn hj hk => ?_, h3⟩
  · rcases hat k _ hk with ⟨rfl, e⟩ | ⟨hn, hx⟩
    · cases e
      exact ⟨h1, (h.1 _ _ _ _ hi).2⟩
    · have hne := h.2.1 k i _ _ hn hx hi
      exact ⟨(h2 g' hne).trans (h.1 _ _ _ _ hx).1, (h.1 _ _ _ _ hx).2⟩
  · rcases hat j _ hj with ⟨rfl, rfl⟩ | ⟨hnj, hxj⟩
    · rcases hat k _ hk with ⟨rfl, rfl⟩ | ⟨hnk, hxk⟩
      · exact absurd rfl hn
      · exact h.2.1 j k (g, T, cs) _ hn hi hxk
    · rcases hat k _ hk with ⟨rfl, rfl⟩ | ⟨hnk, hxk⟩
      · exact h.2.1 j k _ (g, T, cs) hn hxj hi
      · exact h.2.1 j k _ _ hn hxj hxk

theorem Hs.set {w wx : World} {l : List (Nat × TypeId × List Value)} (h : Hs w l wx) (i : Nat) {g : Nat} {T : TypeId} {cs : List Value} (hi : l[i]? = some (g, T, cs)) (j : Nat) (u : Value) :
    Hs w (l.set i (g, T, cs.set j u)) (wx.setCell ⟨g, j, none⟩ u) :=
  h.put i hi _ ((h.1 _ _ _ _ hi).1.set j u) (fun k hk => Below.heap_setCell wx ⟨g, j, none⟩ u k hk) (h.2.2.setCell (p := ⟨g, j, none⟩) (h.1 _ _ _ _ hi).2 u)

theorem Hs.row {w wx : World} {l : List (Nat × TypeId × List Value)} (h : Hs w l wx) (i : Nat) {g : Nat} {T : TypeId} {cs : List Value} (hi : l[i]? = some (g, T, cs)) (cs' : List Value) :
    Hs w (l.set i (g, T, cs')) (wx.setRow g cs'.toArray) :=
  h.put i hi _ (setRow_heap wx g _ cs'.toArray T (0, 0) (h.bk i hi)) (fun k hk => setRow_other wx g k _ hk) (below_setRow h.2.2 (h.1 _ _ _ _ hi).2 _)

/-- A new block, and then its row. -/
theorem alloc_row (w : World) (old cs : Array Value) (T : TypeId) : (w.alloc (.cells old T)).setRow w.heap.size cs = w.alloc (.cells cs T) := by
  unfold World.setRow World.alloc
  congr 1
  apply Array.ext
  · simp
  · intro i h1 h2
    simp only [Array.getElem_modify, Array.getElem_push]
    simp at h1 h2
    by_cases e : i < w.heap.size
    · simp [e, show w.heap.size ≠ i by omega]
    · have : i = w.heap.size := by omega
      subst this
      simp

/-- Boxes made at a call's start. -/
theorem hs_one (w : World) (T : TypeId) (cs : List Value) : ∃ wb, w.alloc (.cells cs.toArray T) = wb ∧ Hs w [(w.heap.size, T, cs)] wb := ⟨_, rfl, (Hs.nil w).al rfl T cs⟩
theorem hs_two (w : World) (T U : TypeId) (cs ds : List Value) : ∃ wb, (w.alloc (.cells cs.toArray T)).alloc (.cells ds.toArray U) = wb ∧ Hs w [(w.heap.size + 1, U, ds), (w.heap.size, T, cs)] wb :=
  ⟨_, rfl, ((Hs.nil w).al rfl T cs).al (by simp) U ds⟩
theorem hs_three (w : World) (T U V : TypeId) (cs ds es : List Value) : ∃ wb, ((w.alloc (.cells cs.toArray T)).alloc (.cells ds.toArray U)).alloc (.cells es.toArray V) = wb ∧ Hs w [(w.heap.size + 1 + 1, V, es), (w.heap.size + 1, U, ds), (w.heap.size, T, cs)] wb :=
  ⟨_, rfl, (((Hs.nil w).al rfl T cs).al (by simp) U ds).al (by simp) V es⟩

/-- A whole load that stands under a guard. -/
theorem wpList_load_rowG {P : Program} {ops : Array Oper} {rest : List Oper} {o : Oper} {a : Act} {w : World} {Q : Exit → Act → World → Prop} (hw : Region.wanted o (yielded ops a.tmps) = true) (ty : TypeId) (x : Operand) (ho : o.op = .load ty x)
    (g : Nat) (hx : a.eval x = .pointer (some ⟨g, 0, none⟩)) (t : TypeId) (cs : Array Value) (fr : Nat × Nat) (d : TypeDesc) (hg : w.heap[g]? = some (.cells cs t fr))
    (hu : P.underlying ty = some d) (hd : (match d with | .struct _ | .array _ _ => true | _ => false) = true) (hi : (P.info? ty).map (·.size) = some cs.size)
    (h : wpList P ops Q rest (a.put o.dst (.agg cs)) w) : wpList P ops Q (o :: rest) a w :=
  wpList_step fun _ hK => by rw [if_pos hw]; exact wp_load_row ty x ho g hx t cs fr d hg hu hd hi (hK _ _ h)

/-- A result of many cells in its box, beside one in a slot. -/
theorem results_two {P : Program} {fn : Func} {p r : Tmp} {ty : TypeId} (h : fn.results = #[.cell p ty, .tmp r]) (tmps : Array Value) (w : World) (g : Nat) (t : TypeId) (cs : Array Value) (fr : Nat × Nat) (d : TypeDesc)
    (hp : tmps.getD p undef = .pointer (some ⟨g, 0, none⟩)) (v : Value) (hv : tmps.getD r undef = v) (hg : w.heap[g]? = some (.cells cs t fr))
    (hu : P.underlying ty = some d) (hd : (match d with | .struct _ | .array _ _ => true | _ => false) = true) (hi : (P.info? ty).map (·.size) = some cs.size) :
    (results fn tmps).run P w = .ok (.tuple #[.agg cs, v]) w := by
  have hp' : tmps[p]?.getD undef = .pointer (some ⟨g, 0, none⟩) := by simpa using hp
  have hv' : tmps[r]?.getD undef = v := by simpa using hv
  simp [results, h, hp', hv', asAddr, run_loadVar_row w g t ty cs fr d hg hu hd hi]

end Go.Proofs.YtnmnihlhcokjpaaGreatDoor

/- Tellings compared, as numbers: no program. -/
namespace Go.Proofs.YtnmnihlhcokjpaaGreatDoor
set_option maxRecDepth 100000
set_option linter.unusedVariables false

/-- The order of two numbers. -/
def cmpI (x y : Int) : Int := if x < y then -1 else if y < x then 1 else 0
/-- The first that isn't 0. -/
def orI (x y : Int) : Int := if x = 0 then y else x

theorem cmpI_lt {x y : Int} (h : x < y) : cmpI x y = -1 := if_pos h
theorem cmpI_eq (x : Int) : cmpI x x = 0 := by unfold cmpI; rw [if_neg (by omega), if_neg (by omega)]
theorem cmpI_gt {x y : Int} (h : y < x) : cmpI x y = 1 := by unfold cmpI; rw [if_neg (by omega), if_pos h]
theorem cmpI_cases (x y : Int) : (x < y ∧ cmpI x y = -1) ∨ (x = y ∧ cmpI x y = 0) ∨ (y < x ∧ cmpI x y = 1) := by
  rcases Int.lt_trichotomy x y with h | h | h
  · exact .inl ⟨h, cmpI_lt h⟩
  · subst h; exact .inr (.inl ⟨rfl, cmpI_eq x⟩)
  · exact .inr (.inr ⟨h, cmpI_gt h⟩)

/-- A telling. -/
structure Vec where
  r : Int
  c : Int
  b : Int
  p : Int

/-- All but the port; all. -/
def wpI (x y : Vec) : Int := orI (cmpI x.r y.r) (orI (cmpI x.c y.c) (cmpI x.b y.b))
def cmpV (x y : Vec) : Int := orI (wpI x y) (cmpI x.p y.p)
/-- A sum, at most the greatest. -/
def farI (a b : Int) : Int := min (a + b) 4294967295
/-- Behind a port of some cost. -/
def viaV (x : Vec) (k : Int) : Vec := ⟨x.r, farI x.c k, x.b, x.p⟩
/-- Does x take the place of y? -/
def supB (x y : Vec) (own : Int) : Bool := if wpI x y = 0 then (!decide (x.b = own)) || decide (x.p ≤ y.p) else decide (wpI x y < 0)
/-- The document's: is x the better one? -/
def lessB (x y : Vec) : Bool :=
  if x.r = y.r then if x.c = y.c then if x.b = y.b then decide (x.p < y.p) else decide (x.b < y.b) else decide (x.c < y.c) else decide (x.r < y.r)

/-- A telling's numbers are in their ranges. -/
def VB (x : Vec) : Prop := (0 ≤ x.r ∧ x.r < 18446744073709551616) ∧ (0 ≤ x.c ∧ x.c < 4294967296) ∧ (0 ≤ x.b ∧ x.b < 18446744073709551616) ∧ (0 ≤ x.p ∧ x.p < 65536)

theorem farI_bd {a b : Int} (ha : 0 ≤ a) (hb : 0 ≤ b) : 0 ≤ farI a b ∧ farI a b < 4294967296 := by unfold farI; omega
theorem VB.via {x : Vec} (h : VB x) {k : Int} (hk : 0 ≤ k) : VB (viaV x k) := ⟨h.1, farI_bd h.2.1.1 hk, h.2.2.1, h.2.2.2⟩

/-- Where two tellings part. -/
theorem wpI_cases (x y : Vec) :
    ((x.r < y.r ∨ x.r = y.r ∧ (x.c < y.c ∨ x.c = y.c ∧ x.b < y.b)) ∧ wpI x y = -1) ∨
    ((x.r = y.r ∧ x.c = y.c ∧ x.b = y.b) ∧ wpI x y = 0) ∨
    ((y.r < x.r ∨ x.r = y.r ∧ (y.c < x.c ∨ x.c = y.c ∧ y.b < x.b)) ∧ wpI x y = 1) := by
  unfold wpI orI
  rcases cmpI_cases x.r y.r with ⟨h, e⟩ | ⟨h, e⟩ | ⟨h, e⟩ <;> rcases cmpI_cases x.c y.c with ⟨h2, e2⟩ | ⟨h2, e2⟩ | ⟨h2, e2⟩ <;> rcases cmpI_cases x.b y.b with ⟨h3, e3⟩ | ⟨h3, e3⟩ | ⟨h3, e3⟩ <;>
    rw [e, e2, e3] <;> simp <;> omega

theorem cmpV_cases (x y : Vec) :
    ((wpI x y = -1 ∨ wpI x y = 0 ∧ x.p < y.p) ∧ cmpV x y = -1) ∨ (wpI x y = 0 ∧ x.p = y.p ∧ cmpV x y = 0) ∨ ((wpI x y = 1 ∨ wpI x y = 0 ∧ y.p < x.p) ∧ cmpV x y = 1) := by
  unfold cmpV orI
  rcases wpI_cases x y with ⟨_, e⟩ | ⟨_, e⟩ | ⟨_, e⟩ <;> rcases cmpI_cases x.p y.p with ⟨h3, e3⟩ | ⟨h3, e3⟩ | ⟨h3, e3⟩ <;>
    rw [e, e3] <;> simp [h3] <;> omega

theorem lessB_iff (x y : Vec) : lessB x y = true ↔ (x.r < y.r ∨ x.r = y.r ∧ (x.c < y.c ∨ x.c = y.c ∧ (x.b < y.b ∨ x.b = y.b ∧ x.p < y.p))) := by
  unfold lessB
  split
  · split
    · split
      · simp only [decide_eq_true_eq]; omega
      · simp only [decide_eq_true_eq]; omega
    · simp only [decide_eq_true_eq]; omega
  · simp only [decide_eq_true_eq]; omega
theorem lessB_no (x y : Vec) (h : lessB x y = false) : ¬ (x.r < y.r ∨ x.r = y.r ∧ (x.c < y.c ∨ x.c = y.c ∧ (x.b < y.b ∨ x.b = y.b ∧ x.p < y.p))) := by
  rw [← lessB_iff, h]; decide
/-- The law's 'want'. -/
def wantI (x y : Vec) : Int := if lessB y x = true then 1 else if lessB x y = true then -1 else 0
/-- What takes the place of what, as the document says it. -/
def near3 (x y : Vec) : Bool := decide (x.r < y.r) || (decide (x.r = y.r) && decide (x.c < y.c)) || ((decide (x.r = y.r) && decide (x.c = y.c)) && decide (x.b < y.b))
def same3 (x y : Vec) : Bool := (decide (x.r = y.r) && decide (x.c = y.c)) && decide (x.b = y.b)
theorem supB_lt {x y : Vec} {o : Int} (h : wpI x y = -1) : supB x y o = true := by unfold supB; rw [if_neg (by omega)]; simp [h]
theorem supB_gt {x y : Vec} {o : Int} (h : wpI x y = 1) : supB x y o = false := by unfold supB; rw [if_neg (by omega)]; simp [h]
theorem supB_eq {x y : Vec} {o : Int} (h : wpI x y = 0) : supB x y o = ((!decide (x.b = o)) || decide (x.p ≤ y.p)) := by unfold supB; rw [if_pos h]
end Go.Proofs.YtnmnihlhcokjpaaGreatDoor

/- A port, and what becomes of it: no program. -/
namespace Go.Proofs.YtnmnihlhcokjpaaGreatDoor
set_option maxRecDepth 100000
set_option linter.unusedVariables false

/-- A port: its number, state and cost; what it holds; what it owes; its timers. -/
structure Po where
  id : Int
  st : Int
  co : Int
  hr : Int
  hc : Int
  hb : Int
  hp : Int
  ak : Bool
  pe : Bool
  ao : Bool
  av : Int
  yo : Bool
  yv : Int
  ho : Bool
  hv : Int

/-- What becomes of it. -/
def riseP (p : Po) : Po := if p.st = 1 then { p with st := 2, yo := true, yv := 0 } else p
def learnsB (s : Int) : Bool := decide (s = 3) || decide (s = 4)
def blockP (p : Po) : Po × Bool := if p.st = 0 ∨ p.st = 1 then (p, false) else ({ p with st := 1, yo := false, yv := 0 }, learnsB p.st)
def nextP (p : Po) : Po × Bool := if p.st = 2 then ({ p with st := 3, yo := true, yv := 0 }, false) else if p.st = 3 then ({ p with st := 4 }, true) else (p, false)

end Go.Proofs.YtnmnihlhcokjpaaGreatDoor

/- '==' of ports that are alike. -/
namespace Go.Proofs.YtnmnihlhcokjpaaGreatDoor
set_option maxRecDepth 100000
open Go.ChangeShapes Go.WideShapes Go.ChangeAt Go.RowKit
set_option linter.unusedVariables false

/-- '==' of ports that are alike. -/
theorem port_same (p : Po) (w : World) : (Op.equalIn 10000 63 (.agg #[.int .u16 p.id, .int .i64 p.st, .int .u32 p.co, .int .u64 p.hr, .int .u32 p.hc, .int .u64 p.hb, .int .u16 p.hp, .bool p.ak, .bool p.pe, .bool p.ao, .int .i64 p.av, .bool p.yo, .int .i64 p.yv, .bool p.ho, .int .i64 p.hv]) (.agg #[.int .u16 p.id, .int .i64 p.st, .int .u32 p.co, .int .u64 p.hr, .int .u32 p.hc, .int .u64 p.hb, .int .u16 p.hp, .bool p.ak, .bool p.pe, .bool p.ao, .int .i64 p.av, .bool p.yo, .int .i64 p.yv, .bool p.ho, .int .i64 p.hv])).run Tryz.prog w = .ok true w := by
  have ev : ∀ w, (Op.equalIn 9999 61 (.agg #[.int .u64 p.hr, .int .u32 p.hc, .int .u64 p.hb, .int .u16 p.hp]) (.agg #[.int .u64 p.hr, .int .u32 p.hc, .int .u64 p.hb, .int .u16 p.hp])).run Tryz.prog w = .ok true w := by
    intro w
    rw [show (9999 : Nat) = 9998 + 1 from rfl, run_equalIn_struct w 9998 61 _ _ (by kernel_rfl) (by kernel_rfl)]
    simp only [Program.fieldsOf, Tryz.underlying61]
    go_simp
  have et : ∀ (o : Bool) (v : Int) w, (Op.equalIn 9999 28 (.agg #[.bool o, .int .i64 v]) (.agg #[.bool o, .int .i64 v])).run Tryz.prog w = .ok true w := by
    intro o v w
    rw [show (9999 : Nat) = 9998 + 1 from rfl, run_equalIn_struct w 9998 28 _ _ (by kernel_rfl) (by kernel_rfl)]
    simp only [Program.fieldsOf, Tryz.underlying28]
    cases o <;> go_simp
  rw [show (10000 : Nat) = 9999 + 1 from rfl, run_equalIn_struct w 9999 63 _ _ (by kernel_rfl) (by kernel_rfl)]
  simp only [Program.fieldsOf, Tryz.underlying63]
  go_simp

end Go.Proofs.YtnmnihlhcokjpaaGreatDoor

/- Timers: what they are; Start and Stop: contracts. -/
namespace Go.Proofs.YtnmnihlhcokjpaaGreatDoor
set_option maxRecDepth 100000
open Go.ChangeShapes Go.WideShapes Go.ChangeAt Go.RowKit
set_option linter.unusedVariables false

/-- A timer, as a value. -/
def tmr (o : Bool) (v : Int) : Value := .agg #[.bool o, .int .i64 v]

/-- How long one has run that was started; that ran a second longer. -/
def startI (v : Int) : Int := min (max v 0) 1073741824
def laterI (v : Int) : Int := min v 1073741568 + 256

theorem startI_bd (v : Int) : 0 ≤ startI v ∧ startI v ≤ 1073741824 := by unfold startI; omega
theorem laterI_bd (v : Int) (h : 0 ≤ v) : 256 ≤ laterI v ∧ laterI v ≤ 1073741824 := by unfold laterI; omega
theorem laterI_is (v : Int) (h : 0 ≤ v) : laterI v = startI (v + 256) := by unfold laterI startI; omega

/-- What one calls that answers a timer. -/
def TEnd (W : World) (o : Bool) (v : Int) (e : Ending) (W' : World) : Prop :=
  e = .returned (.agg #[.bool o, .int .i64 v]) ∧ Below W.heap.size W W'

theorem start_is (v : Int) (h0 : -9223372036854775808 ≤ v) (h1 : v ≤ 9223372036854775807) (w : World) :
    Calls Tryz.prog 15 #[.int .i64 v] w (TEnd w true (startI v)) := by
  obtain ⟨s, hs⟩ : ∃ s, startI v = s := ⟨_, rfl⟩
  have hss : min (max v 0) 1073741824 = s := hs
  have sb := startI_bd v
  rw [hs] at sb ⊢
  clear hs
  go_enter Tryz.func15, Tryz.ntmps15
  go_wp2
  exact bodyPost_ret (v := .agg #[.bool true, .int .i64 s]) (by simp [results, Tryz.results15, go_sem]) rfl ⟨rfl, ((Below.refl _ _).alloc (Nat.le_refl _) _)⟩

theorem stop_is (w : World) : Calls Tryz.prog 41 #[] w (TEnd w false 0) := by
  go_enter Tryz.func41, Tryz.ntmps41
  go_wp2
  exact bodyPost_ret (v := .agg #[.bool false, .int .i64 0]) (by simp [results, Tryz.results41, go_sem]) rfl ⟨rfl, ((Below.refl _ _).alloc (Nat.le_refl _) _)⟩

end Go.Proofs.YtnmnihlhcokjpaaGreatDoor
