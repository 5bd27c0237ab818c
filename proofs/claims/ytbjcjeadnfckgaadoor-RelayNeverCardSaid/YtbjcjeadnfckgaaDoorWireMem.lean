/- Bytes in memory, and a reader's memory: words of this work's own, over any program. -/
import Derived.Test.YtbjcjeadnfckgaaDoorKit
import Derived.Laws.CopyOwn
import Derived.Laws.MakeOwn
namespace Go.Proofs.YtbjcjeadnfckgaaDoor
set_option maxRecDepth 100000
open Go Go.RowKit

theorem add_block (a : Addr) (n : Nat) : (a.add n).block = a.block := by
  unfold Addr.add; split <;> rfl

theorem add_add (a : Addr) (i j : Nat) : (a.add i).add j = a.add (i + j) := by
  unfold Addr.add
  rcases Nat.eq_zero_or_pos i with h | h <;> rcases Nat.eq_zero_or_pos j with g | g
  · simp [h, g]
  · simp [h]
  · simp [g]
  · simp [show i ≠ 0 by omega, show j ≠ 0 by omega, Nat.add_assoc]

/-- The slice at 'A', as long as 'l', holds the bytes 'l'; where there are any, they lie in a block from 'lo' on and below 'hi'. -/
def RB (w : World) (A : Option Addr) (lo hi : Nat) (l : List UInt8) : Prop :=
  0 < l.length → ∃ ad, A = some ad ∧ lo ≤ ad.block ∧ ad.block < hi ∧ ∀ j (h : j < l.length), w.cell? (ad.add j) = some (bc l[j])

theorem RB.nil (w : World) (A : Option Addr) (lo hi : Nat) : RB w A lo hi [] := fun h => absurd h (by simp)

theorem RB.keep {w w' : World} {A : Option Addr} {lo hi : Nat} {l : List UInt8} (h : RB w A lo hi l) (k : ∀ p : Addr, lo ≤ p.block → p.block < hi → w'.cell? p = w.cell? p) : RB w' A lo hi l := by
  intro hl
  obtain ⟨ad, e, h1, h2, hc⟩ := h hl
  exact ⟨ad, e, h1, h2, fun j hj => (k _ (by rw [add_block]; exact h1) (by rw [add_block]; exact h2)).trans (hc j hj)⟩

theorem RB.wide {w : World} {A : Option Addr} {lo hi lo' hi' : Nat} {l : List UInt8} (h : RB w A lo hi l) (h1 : lo' ≤ lo) (h2 : hi ≤ hi') : RB w A lo' hi' l := by
  intro hl
  obtain ⟨ad, e, g1, g2, hc⟩ := h hl
  exact ⟨ad, e, by omega, by omega, hc⟩

theorem RB.below {w w' : World} {A : Option Addr} {lo hi B : Nat} {l : List UInt8} (h : RB w A lo hi l) (hb : Below B w w') (hB : hi ≤ B) : RB w' A lo hi l :=
  h.keep fun p _ h2 => hb.cell (by omega)

theorem RB.set {w : World} {A : Option Addr} {lo hi : Nat} {l : List UInt8} (h : RB w A lo hi l) {p : Addr} (hp : p.block < lo ∨ hi ≤ p.block) (u : Value) : RB (w.setCell p u) A lo hi l :=
  h.keep fun q h1 h2 => World.cell?_setCell_other w p q u (fun e => by subst e; omega)

theorem RB.take {w : World} {A : Option Addr} {lo hi : Nat} {l : List UInt8} (h : RB w A lo hi l) (k : Nat) : RB w A lo hi (l.take k) := by
  intro hl
  have : 0 < l.length := by simp at hl; omega
  obtain ⟨ad, e, g1, g2, hc⟩ := h this
  refine ⟨ad, e, g1, g2, fun j hj => ?_⟩
  have hj' : j < l.length := by simp at hj; omega
  rw [hc j hj']; simp

/-- 's[k:]', as the model lays it: at k = cap the address stays. -/
def cutA (A : Option Addr) (k cap : Nat) : Option Addr := if cap = k then A else A.map (·.add k)

theorem RB.drop {w : World} {A : Option Addr} {lo hi : Nat} {l : List UInt8} (h : RB w A lo hi l) (k cap : Nat) (hc : l.length ≤ cap) : RB w (cutA A k cap) lo hi (l.drop k) := by
  intro hl
  have hl' : k < l.length := by simp at hl; omega
  obtain ⟨ad, rfl, g1, g2, hcc⟩ := h (by omega)
  unfold cutA
  rw [if_neg (by omega)]
  refine ⟨ad.add k, rfl, by rw [add_block]; exact g1, by rw [add_block]; exact g2, fun j hj => ?_⟩
  have hj' : k + j < l.length := by simp at hj; omega
  rw [add_add, hcc (k + j) hj']; simp

/-- A block known whole. -/
def Bk (w : World) (g : Nat) (t : TypeId) (cs : List Value) : Prop := w.heap[g]? = some (.cells cs.toArray t (0, 0))

theorem Bk.lt {w : World} {g : Nat} {t : TypeId} {cs : List Value} (h : Bk w g t cs) : g < w.heap.size := by
  unfold Bk at h
  rcases Nat.lt_or_ge g w.heap.size with k | k
  · exact k
  · rw [Array.getElem?_eq_none k] at h; cases h

theorem Bk.cell {w : World} {g : Nat} {t : TypeId} {cs : List Value} (h : Bk w g t cs) (i : Nat) : w.cell? ⟨g, i, none⟩ = cs[i]? := by
  have := cell_of_row w g i cs.toArray t (0, 0) h
  simpa using this

theorem Bk.thaw {w : World} {g : Nat} {t : TypeId} {cs : List Value} (h : Bk w g t cs) (i : Nat) : w.frozen? ⟨g, i, none⟩ = false := by
  unfold Bk at h
  simp [World.frozen?, h]

theorem Bk.set {w : World} {g : Nat} {t : TypeId} {cs : List Value} (h : Bk w g t cs) (i : Nat) (u : Value) : Bk (w.setCell ⟨g, i, none⟩ u) g t (cs.set i u) := by
  unfold Bk at h ⊢
  simp [World.setCell, Array.getElem?_modify, h]

theorem Bk.far {w : World} {g : Nat} {t : TypeId} {cs : List Value} (h : Bk w g t cs) {p : Addr} (hp : p.block ≠ g) (u : Value) : Bk (w.setCell p u) g t cs :=
  (Below.heap_setCell w p u g (fun e => hp e.symm)).trans h

theorem Bk.below {w w' : World} {g B : Nat} {t : TypeId} {cs : List Value} (h : Bk w g t cs) (hb : Below B w w') (hg : g < B) : Bk w' g t cs :=
  (hb.block g hg).trans h

theorem Bk.rb {w : World} {g : Nat} {t : TypeId} {l : List UInt8} (h : Bk w g t (l.map bc)) (lo hi : Nat) (h1 : lo ≤ g) (h2 : g < hi) : RB w (some ⟨g, 0, none⟩) lo hi l := by
  intro _
  refine ⟨_, rfl, h1, h2, fun j hj => ?_⟩
  rw [addr_add, h.cell]
  simp [hj]

theorem RB.bytes {w : World} {ad : Addr} {lo hi : Nat} {l : List UInt8} (h : RB w (some ad) lo hi l) : ∀ j (hj : j < l.length), w.cell? (ad.add j) = some (.int .u8 (l[j].toNat : Int)) := by
  intro j hj
  obtain ⟨ad', e, _, _, hc⟩ := h (by omega)
  cases e
  exact hc j hj

/-- A reader at block 'h': its bytes left, and whether it came to the end too soon; all its memory lies from 'lo' on and below 'hi'. -/
def RD (T : TypeId) (w : World) (lo hi h : Nat) (A : Option Addr) (l : List UInt8) (s : Bool) : Prop :=
  lo ≤ h ∧ h < hi ∧ Bk w h T [.slice A l.length l.length, .bool s] ∧ RB w A lo h l

theorem RD.keep {T : TypeId} {w w' : World} {lo hi h : Nat} {A : Option Addr} {l : List UInt8} {s : Bool} (r : RD T w lo hi h A l s) (k : ∀ b, lo ≤ b → b < hi → w'.heap[b]? = w.heap[b]?) : RD T w' lo hi h A l s := by
  obtain ⟨h1, h2, h3, h4⟩ := r
  exact ⟨h1, h2, (k h h1 h2).trans h3, h4.keep fun p g1 g2 => World.cell?_of_block (k _ g1 (by omega))⟩

theorem RD.below {T : TypeId} {w w' : World} {lo hi h B : Nat} {A : Option Addr} {l : List UInt8} {s : Bool} (r : RD T w lo hi h A l s) (hb : Below B w w') (hB : hi ≤ B) : RD T w' lo hi h A l s :=
  r.keep fun b _ g => hb.block b (by omega)

theorem RD.set {T : TypeId} {w : World} {lo hi h : Nat} {A : Option Addr} {l : List UInt8} {s : Bool} (r : RD T w lo hi h A l s) {p : Addr} (hp : p.block < lo ∨ hi ≤ p.block) (u : Value) : RD T (w.setCell p u) lo hi h A l s :=
  r.keep fun b g1 g2 => Below.heap_setCell w p u b (fun e => by subst e; omega)

theorem RD.wide {T : TypeId} {w : World} {lo hi lo' hi' h : Nat} {A : Option Addr} {l : List UInt8} {s : Bool} (r : RD T w lo hi h A l s) (g1 : lo' ≤ lo) (g2 : hi ≤ hi') : RD T w lo' hi' h A l s := by
  obtain ⟨h1, h2, h3, h4⟩ := r
  exact ⟨by omega, by omega, h3, h4.wide g1 (Nat.le_refl _)⟩

theorem made_bytes (n : Nat) : madeCells (Value.int .u8 0).cells (n * 1) = ((List.replicate n (Value.int .u8 0)).toArray) := by
  unfold madeCells
  apply Array.ext
  · simp
  · intro i h1 h2
    simp [Value.cells, Nat.mod_one]

theorem splice_all {α : Type} (L cs : List α) (h : cs.length = L.length) : splice L 0 cs = cs := by
  simp [splice, h]

theorem one_bcs (l : List UInt8) : ∀ v ∈ l.map bc, v.oneCell' = true := by
  intro v hv
  simp at hv
  obtain ⟨_, _, rfl⟩ := hv
  rfl

theorem below_two {B : Nat} {w w1 w2 : World} (h : Below B w w1) (g : Below w1.heap.size w1 w2) (hB : B ≤ w1.heap.size) : Below B w w2 := h.trans (g.mono hB)

end Go.Proofs.YtbjcjeadnfckgaaDoor
