/- A table of places in memory: words of this work's own, over any program. -/
import Derived.Test.YtokepfgknffdfaaSlotsList
import Derived.Test.YtokepfgknffdfaaWireMem
namespace Go.Proofs.Ytokepfgknffdfaa
open Go Go.RowKit

/-- A place's cells, by what it holds: a number; a string; two numbers. -/
def encI (p : Pl Int) : List Value := [.bool p.full, .int .u64 p.addr, .int .i64 p.val]
def encS (p : Pl ByteArray) : List Value := [.bool p.full, .int .u64 p.addr, .string p.val]
def encE (p : Pl (Int × Int)) : List Value := [.bool p.full, .int .u64 p.addr, .int .i64 p.val.1, .int .i64 p.val.2]

/-- All places' cells, one behind the other. -/
def flat {V : Type} (enc : Pl V → List Value) : List (Pl V) → List Value
  | [] => []
  | p :: r => enc p ++ flat enc r

section
variable {V : Type} {enc : Pl V → List Value} {s : Nat}

theorem flat_len (he : ∀ p, (enc p).length = s) : ∀ l : List (Pl V), (flat enc l).length = l.length * s
  | [] => by simp [flat]
  | p :: r => by simp [flat, he, flat_len he r, Nat.add_mul]; omega

theorem flat_get (he : ∀ p, (enc p).length = s) : ∀ (l : List (Pl V)) (i : Nat) (p : Pl V) (c : Nat), l[i]? = some p → c < s → (flat enc l)[i * s + c]? = (enc p)[c]?
  | [], i, p, c, h, _ => by simp at h
  | q :: r, 0, p, c, h, hc => by
    simp at h; subst h
    simp only [flat, Nat.zero_mul, Nat.zero_add]
    rw [List.getElem?_append_left (by rw [he]; exact hc)]
  | q :: r, i + 1, p, c, h, hc => by
    simp only [flat]
    have e : (i + 1) * s = i * s + s := Nat.succ_mul i s
    rw [List.getElem?_append_right (by rw [he]; omega), he, ← flat_get he r i p c (by simpa using h) hc]
    congr 1
    omega

theorem flat_append : ∀ (a b : List (Pl V)), flat enc (a ++ b) = flat enc a ++ flat enc b
  | [], _ => rfl
  | p :: r, b => by simp only [List.cons_append, flat, flat_append r b, List.append_assoc]

theorem flat_set (he : ∀ p, (enc p).length = 3) : ∀ (l : List (Pl V)) (i : Nat) (p : Pl V) (u v x : Value), i < l.length → enc p = [u, v, x] →
    (((flat enc l).set (i * 3) u).set (i * 3 + 1) v).set (i * 3 + 2) x = flat enc (l.set i p)
  | [], i, p, u, v, x, h, _ => by simp at h
  | q :: r, 0, p, u, v, x, _, hp => by
    have h3 := he q
    obtain ⟨a, b, c, hq⟩ : ∃ a b c, enc q = [a, b, c] := by
      match enc q, h3 with
      | [a, b, c], _ => exact ⟨a, b, c, rfl⟩
    simp [flat, hp, hq]
  | q :: r, i + 1, p, u, v, x, h, hp => by
    have h3 := he q
    have ih := flat_set he r i p u v x (by simpa using h) hp
    simp only [flat, List.set_cons_succ]
    rw [List.set_append_right _ _ (by omega), List.set_append_right _ _ (by omega), List.set_append_right _ _ (by omega), h3, ← ih]
    congr 4 <;> omega
theorem flat_set4 (he : ∀ p, (enc p).length = 4) : ∀ (l : List (Pl V)) (i : Nat) (p : Pl V) (u v x y : Value), i < l.length → enc p = [u, v, x, y] →
    ((((flat enc l).set (i * 4) u).set (i * 4 + 1) v).set (i * 4 + 2) x).set (i * 4 + 3) y = flat enc (l.set i p)
  | [], i, p, u, v, x, y, h, _ => by simp at h
  | q :: r, 0, p, u, v, x, y, _, hp => by
    have h3 := he q
    obtain ⟨a, b, c, d, hq⟩ : ∃ a b c d, enc q = [a, b, c, d] := by
      match enc q, h3 with
      | [a, b, c, d], _ => exact ⟨a, b, c, d, rfl⟩
    simp [flat, hp, hq]
  | q :: r, i + 1, p, u, v, x, y, h, hp => by
    have h3 := he q
    have ih := flat_set4 he r i p u v x y (by simpa using h) hp
    simp only [flat, List.set_cons_succ]
    rw [List.set_append_right _ _ (by omega), List.set_append_right _ _ (by omega), List.set_append_right _ _ (by omega), List.set_append_right _ _ (by omega), h3, ← ih]
    congr 5 <;> omega
end

/-- A table at block h, its places at block g. -/
def TB {V : Type} (enc : Pl V → List Value) (T E : TypeId) (w : World) (h g : Nat) (l : List (Pl V)) : Prop :=
  Bk w h T [.slice (some ⟨g, 0, none⟩) l.length l.length] ∧ Bk w g E (flat enc l) ∧ h ≠ g ∧ l.length ≤ 64

section
variable {V : Type} {enc : Pl V → List Value} {s : Nat} {T E : TypeId} {w w' : World} {h g : Nat} {l : List (Pl V)}

theorem TB.keep (t : TB enc T E w h g l) (k : ∀ b, b = h ∨ b = g → w'.heap[b]? = w.heap[b]?) : TB enc T E w' h g l :=
  ⟨(k h (.inl rfl)).trans t.1, (k g (.inr rfl)).trans t.2.1, t.2.2⟩

theorem TB.lt (t : TB enc T E w h g l) : h < w.heap.size ∧ g < w.heap.size := ⟨t.1.lt, t.2.1.lt⟩

theorem TB.below {B : Nat} (t : TB enc T E w h g l) (hb : Below B w w') (hB : w.heap.size ≤ B) : TB enc T E w' h g l :=
  t.keep fun b hbb => hb.block b (by have := t.lt; rcases hbb with rfl | rfl <;> omega)

theorem TB.under {B : Nat} (t : TB enc T E w h g l) (hb : Below B w w') (h1 : h < B) (h2 : g < B) : TB enc T E w' h g l :=
  t.keep fun b hbb => hb.block b (by rcases hbb with rfl | rfl <;> omega)

theorem TB.drew (t : TB enc T E w h g l) : TB enc T E w.drew h g l := t

theorem TB.cell0 (t : TB enc T E w h g l) : w.cell? ⟨h, 0, none⟩ = some (.slice (some ⟨g, 0, none⟩) l.length l.length) := by
  rw [t.1.cell]; rfl

theorem TB.cell (he : ∀ p, (enc p).length = s) (t : TB enc T E w h g l) {i : Nat} {p : Pl V} (hp : l[i]? = some p) {c : Nat} (hc : c < s) : w.cell? ⟨g, i * s + c, none⟩ = (enc p)[c]? := by
  rw [t.2.1.cell, flat_get he l i p c hp hc]

theorem TB.thaw (t : TB enc T E w h g l) (i : Nat) : w.frozen? ⟨g, i, none⟩ = false := t.2.1.thaw i

/-- One place written. -/
theorem TB.set (he : ∀ p, (enc p).length = 3) (t : TB enc T E w h g l) {i : Nat} (hi : i < l.length) {p : Pl V} {u v x : Value} (hp : enc p = [u, v, x]) :
    TB enc T E (((w.setCell ⟨g, i * 3, none⟩ u).setCell ⟨g, i * 3 + 1, none⟩ v).setCell ⟨g, i * 3 + 2, none⟩ x) h g (l.set i p) := by
  obtain ⟨t1, t2, t3, t4⟩ := t
  have n : (⟨g, i * 3, none⟩ : Addr).block ≠ h := fun e => t3 e.symm
  refine ⟨?_, ?_, t3, by simpa using t4⟩
  · rw [List.length_set]
    exact ((t1.far (p := ⟨g, i * 3, none⟩) n u).far (p := ⟨g, i * 3 + 1, none⟩) n v).far (p := ⟨g, i * 3 + 2, none⟩) n x
  · rw [← flat_set he l i p u v x hi hp]
    exact ((t2.set _ u).set _ v).set _ x

/-- One place of four cells written. -/
theorem TB.set4 (he : ∀ p, (enc p).length = 4) (t : TB enc T E w h g l) {i : Nat} (hi : i < l.length) {p : Pl V} {u v x y : Value} (hp : enc p = [u, v, x, y]) :
    TB enc T E ((((w.setCell ⟨g, i * 4, none⟩ u).setCell ⟨g, i * 4 + 1, none⟩ v).setCell ⟨g, i * 4 + 2, none⟩ x).setCell ⟨g, i * 4 + 3, none⟩ y) h g (l.set i p) := by
  obtain ⟨t1, t2, t3, t4⟩ := t
  have n : (⟨g, i * 4, none⟩ : Addr).block ≠ h := fun e => t3 e.symm
  refine ⟨?_, ?_, t3, by simpa using t4⟩
  · rw [List.length_set]
    exact (((t1.far (p := ⟨g, i * 4, none⟩) n u).far (p := ⟨g, i * 4 + 1, none⟩) n v).far (p := ⟨g, i * 4 + 2, none⟩) n x).far (p := ⟨g, i * 4 + 3, none⟩) n y
  · rw [← flat_set4 he l i p u v x y hi hp]
    exact (((t2.set _ u).set _ v).set _ x).set _ y
end

/-- All that was there is as it was, but for one block. -/
def But (g : Nat) (w w' : World) : Prop := w.grownBy w' (some g)

theorem But.refl (g : Nat) (w : World) : But g w w := ⟨rfl, rfl, rfl, Nat.le_refl _, fun _ _ _ => rfl⟩
theorem But.trans {g : Nat} {a b c : World} (h : But g a b) (k : But g b c) : But g a c :=
  ⟨k.os.trans h.os, k.tape.trans h.tape, k.output.trans h.output, Nat.le_trans h.size k.size, fun i hi hn => (k.block i (Nat.lt_of_lt_of_le hi h.size) hn).trans (h.block i hi hn)⟩
theorem But.of_below {g : Nat} {w w' : World} (h : Below w.heap.size w w') : But g w w' := ⟨h.os, h.tape, h.output, h.size, fun i hi _ => h.block i hi⟩
theorem But.set {g : Nat} {a w : World} (h : But g a w) (o : Nat) (u : Value) : But g a (w.setCell ⟨g, o, none⟩ u) :=
  h.trans ⟨rfl, rfl, rfl, by simp [World.setCell], fun k _ hn => Below.heap_setCell w ⟨g, o, none⟩ u k (fun e => hn (by rw [e]))⟩
theorem But.drew {g : Nat} {a w : World} (h : But g a w) : But g a w.drew := ⟨h.os, h.tape, h.output, h.size, h.block⟩
theorem But.below {B g : Nat} {a w w' : World} (h : Below B a w) (k : But g w w') (hB : B ≤ w.heap.size) (hg : B ≤ g) : Below B a w' :=
  h.grown k hB (fun j e => by cases e; exact hg)
theorem But.block {g : Nat} {w w' : World} (k : But g w w') {b : Nat} (hb : b < w.heap.size) (hn : b ≠ g) : w'.heap[b]? = w.heap[b]? := World.grownBy.block k b hb (fun e => hn (Option.some.inj e))

end Go.Proofs.Ytokepfgknffdfaa
