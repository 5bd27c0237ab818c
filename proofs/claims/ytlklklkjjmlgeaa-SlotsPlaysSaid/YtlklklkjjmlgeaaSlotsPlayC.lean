/- What lies there while acts befall a table, and the document's pairs beside it. -/
import Derived.Test.YtlklklkjjmlgeaaSlotsRef
import Derived.Test.YtlklklkjjmlgeaaActsIn
import Derived.Test.YtlklklkjjmlgeaaSlotsAllI
import Derived.Test.YtlklklkjjmlgeaaSlotsAgainWalk
namespace Go.Proofs.Ytlklklkjjmlgeaa
open Go.ChangeShapes Go.WideShapes Go.ChangeAt Go.RowKit
set_option linter.unusedVariables false

theorem RowAt.mono {α : Type} {enc : α → List Value} {s : Nat} {w : World} {B B' : Nat} {A : Option Addr} {D : List α} (h : RowAt enc s w B A D) (hB : B' ≤ B) : RowAt enc s w B' A D := fun i p hp => by
  obtain ⟨g, h1, h2, h3⟩ := h i p hp
  exact ⟨g, h1, by omega, h3⟩

/-- The table at blocks G and G + 1 holds c; the variable at block X has the pairs L; nothing older has turned. -/
structure PlayC (w : World) (G X n : Nat) (c L : List (Int × Int)) (A : Option Addr) (cap : Nat) (W : World) : Prop where
  tab : HTI W (G + 1) G n c
  box : Bk W X 27 [.slice A L.length cap]
  row : RowAt encP 2 W (X + 1) A L
  old : Below w.heap.size w W
  low : w.heap.size ≤ G ∧ G + 1 < X

section
variable {w W W' : World} {G X n cap : Nat} {c c' L : List (Int × Int)} {A : Option Addr}

theorem PlayC.below (h : PlayC w G X n c L A cap W) (hb : Below W.heap.size W W') : PlayC w G X n c L A cap W' :=
  ⟨h.tab.below hb, h.box.below hb h.box.lt, h.row.below hb, h.old.trans (hb.mono h.old.size), h.low⟩

theorem PlayC.drew (h : PlayC w G X n c L A cap W) : PlayC w G X n c L A cap W.drew := ⟨h.tab.drew, h.box, h.row, h.old.drew, h.low⟩

/-- The table was written. -/
theorem PlayC.but (h : PlayC w G X n c L A cap W) (hb : But G W W') (t : HTI W' (G + 1) G n c') : PlayC w G X n c' L A cap W' := by
  obtain ⟨l1, l2⟩ := h.low
  exact ⟨t, (hb.block h.box.lt (by omega)).trans h.box, h.row.keep hb.size fun b hb1 hb2 => hb.block hb2 (by omega), But.below h.old hb h.old.size l1, l1, l2⟩

theorem PlayC.cell (h : PlayC w G X n c L A cap W) : W.cell? ⟨X, 0, none⟩ = some (.slice A L.length cap) := h.box.cell 0
theorem PlayC.thaw (h : PlayC w G X n c L A cap W) : W.frozen? ⟨X, 0, none⟩ = false := h.box.thaw 0

/-- The variable is written: a row that was made since. -/
theorem PlayC.store (h : PlayC w G X n c L A cap W) (hb : Below W.heap.size W W') {M : List (Int × Int)} {A' : Option Addr} {cap' : Nat} (r : OwnL encP 2 41 W' W.heap.size (.slice A' M.length cap') M) :
    PlayC w G X n c M A' cap' (W'.setCell ⟨X, 0, none⟩ (.slice A' M.length cap')) := by
  have h' := h.below hb
  have hlt := h.box.lt
  obtain ⟨l1, l2⟩ := h.low
  refine ⟨h'.tab.keep fun b hbb => Below.heap_setCell W' _ _ b (by show b ≠ X; rcases hbb with rfl | rfl <;> omega), h'.box.set 0 _, ?_, h'.old.setCell (p := ⟨X, 0, none⟩) (by show _ ≤ X; omega) _, h.low⟩
  exact ((own_row r).mono (by omega)).keep (by simp [World.setCell]) fun b hb1 _ => Below.heap_setCell W' _ _ b (by show b ≠ X; omega)

/-- The variable is written with what it had. -/
theorem PlayC.again (h : PlayC w G X n c L A cap W) : PlayC w G X n c L A cap (W.setCell ⟨X, 0, none⟩ (.slice A L.length cap)) := by
  obtain ⟨l1, l2⟩ := h.low
  refine ⟨h.tab.keep fun b hbb => Below.heap_setCell W _ _ b (by show b ≠ X; rcases hbb with rfl | rfl <;> omega), h.box.set 0 _, ?_, h.old.setCell (p := ⟨X, 0, none⟩) (by show _ ≤ X; omega) _, h.low⟩
  exact h.row.keep (by simp [World.setCell]) fun b hb1 _ => Below.heap_setCell W _ _ b (by show b ≠ X; omega)

/-- The variable is written: a row that lies behind it. -/
theorem PlayC.put (h : PlayC w G X n c L A cap W) {B : Nat} {M : List (Int × Int)} {A' : Option Addr} {cap' : Nat} (r : OwnL encP 2 41 W B (.slice A' M.length cap') M) (hB : X < B) (p : c.Perm M) :
    PlayC w G X n M M A' cap' (W.setCell ⟨X, 0, none⟩ (.slice A' M.length cap')) := by
  obtain ⟨l1, l2⟩ := h.low
  refine ⟨(h.tab.perm p).keep fun b hbb => Below.heap_setCell W _ _ b (by show b ≠ X; rcases hbb with rfl | rfl <;> omega), h.box.set 0 _, ?_, h.old.setCell (p := ⟨X, 0, none⟩) (by show _ ≤ X; omega) _, h.low⟩
  exact ((own_row r).mono (by omega)).keep (by simp [World.setCell]) fun b hb1 _ => Below.heap_setCell W _ _ b (by show b ≠ X; omega)

/-- How it begins: no pairs. -/
theorem PlayC.start {w W : World} {G n : Nat} (t : HTI W (G + 1) G n []) (hb : Below w.heap.size w W) (hG : w.heap.size ≤ G) :
    PlayC w G W.heap.size n [] [] none 0 (W.alloc (.cells #[.slice none 0 0] 27)) := by
  have ht := t.lt
  have nb := new_below W (.cells #[.slice none 0 0] 27)
  exact ⟨t.below nb, heap_alloc_new W _, RowAt.nil _ _ _, hb.trans (nb.mono hb.size), hG, by omega⟩
end

/-- An act's cells, as the walk spells them. -/
theorem act_cells {w : World} {a : Option Addr} {B : Nat} {L : List ActV} (h : ActsIn w a B L) {k : Nat} {x : ActV} (hx : L[k]? = some x) :
    ∃ ad, a = some ad ∧ ad.block < B ∧ (w.cell? (ad.add (k * 3)) = some (.bool x.out) ∧ w.cell? ⟨(ad.add (k * 3)).block, (ad.add (k * 3)).off + 1, none⟩ = some (.int .u64 x.addr) ∧ w.cell? ⟨(ad.add (k * 3)).block, (ad.add (k * 3)).off + 2, none⟩ = some (.int .i64 x.num)) ∧
      (0 ≤ x.addr ∧ x.addr ≤ 18446744073709551615) ∧ -9223372036854775808 ≤ x.num ∧ x.num ≤ 9223372036854775807 := by
  obtain ⟨ad, h1, h2, h3, h4, h5, h6⟩ := h k x hx
  refine ⟨ad, h1, h2, ⟨h3, ?_, ?_⟩, h6⟩
  · have e := Go.Proofs.Ytlklklkjjmlgeaa.add_add ad (k * 3) 1
    rw [← e] at h4
    exact h4
  · have e := Go.Proofs.Ytlklklkjjmlgeaa.add_add ad (k * 3) 2
    rw [← e] at h5
    exact h5

end Go.Proofs.Ytlklklkjjmlgeaa
