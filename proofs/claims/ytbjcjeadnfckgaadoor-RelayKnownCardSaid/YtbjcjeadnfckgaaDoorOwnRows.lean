/- Rows of elements of so many cells each that a call itself made: words of this work's own, over any program. -/
import Derived.Test.YtbjcjeadnfckgaaDoorWireMem
namespace Go.Proofs.YtbjcjeadnfckgaaDoor
set_option maxRecDepth 100000
open Go Go.RowKit

theorem new_below (w : World) (o : Obj) : Below w.heap.size w (w.alloc o) := (Below.refl _ _).alloc (Nat.le_refl _) _
theorem ret_sl {A : Option Addr} {n m cap : Nat} (h : n = m) : Ending.returned (.slice A n cap) = .returned (.slice A m cap) := by rw [h]

section
variable {α : Type} {enc : α → List Value} {s : Nat}

/-- All elements' cells, one behind the other. -/
def cellsOf (enc : α → List Value) : List α → List Value
  | [] => []
  | p :: r => enc p ++ cellsOf enc r

theorem cellsOf_len (he : ∀ p, (enc p).length = s) : ∀ l : List α, (cellsOf enc l).length = l.length * s
  | [] => by simp [cellsOf]
  | p :: r => by simp [cellsOf, he, cellsOf_len he r, Nat.add_mul]; omega

theorem cellsOf_get (he : ∀ p, (enc p).length = s) : ∀ (l : List α) (i : Nat) (p : α) (c : Nat), l[i]? = some p → c < s → (cellsOf enc l)[i * s + c]? = (enc p)[c]?
  | [], i, p, c, h, _ => by simp at h
  | q :: r, 0, p, c, h, hc => by
    simp at h; subst h
    simp only [cellsOf, Nat.zero_mul, Nat.zero_add]
    rw [List.getElem?_append_left (by rw [he]; exact hc)]
  | q :: r, i + 1, p, c, h, hc => by
    simp only [cellsOf]
    have e : (i + 1) * s = i * s + s := Nat.succ_mul i s
    rw [List.getElem?_append_right (by rw [he]; omega), he, ← cellsOf_get he r i p c (by simpa using h) hc]
    congr 1
    omega

theorem cellsOf_append : ∀ (a b : List α), cellsOf enc (a ++ b) = cellsOf enc a ++ cellsOf enc b
  | [], _ => rfl
  | p :: r, b => by simp only [List.cons_append, cellsOf, cellsOf_append r b, List.append_assoc]

theorem cellsOf_snoc (a : List α) (p : α) : cellsOf enc (a ++ [p]) = cellsOf enc a ++ enc p := by
  rw [cellsOf_append]; simp [cellsOf]

/-- The slice v, of l's elements, is a row of the call's own. -/
def OwnL (enc : α → List Value) (s : Nat) (e : TypeId) (w : World) (base : Nat) (v : Value) (l : List α) : Prop := w.ownsRow base e s v l.length (cellsOf enc l)

theorem OwnL.nil (e : TypeId) (w : World) (base : Nat) : OwnL enc s e w base (.slice none 0 0) [] := World.ownsRow_nil w base e s

theorem OwnL.mono {e : TypeId} {w : World} {base base' : Nat} {v : Value} {l : List α} (h : OwnL enc s e w base v l) (hb : base' ≤ base) : OwnL enc s e w base' v l := by
  refine ⟨h.1, ?_⟩
  rcases h.2 with h2 | ⟨g, cap, cur, hv, hg, r⟩
  · exact .inl h2
  · exact .inr ⟨g, cap, cur, hv, by omega, r⟩

theorem OwnL.drew {e : TypeId} {w : World} {base : Nat} {v : Value} {l : List α} (h : OwnL enc s e w base v l) : OwnL enc s e w.drew base v l := h

theorem OwnL.below {e : TypeId} {w w' : World} {base : Nat} {v : Value} {l : List α} (h : OwnL enc s e w base v l) (hb : Below w.heap.size w w') : OwnL enc s e w' base v l :=
  World.ownsRow.kept (row := none) h ⟨hb.os, hb.tape, hb.output, hb.size, fun k hk _ => hb.block k hk⟩ (by cases v.ownBlock <;> simp)

theorem OwnL.but {e : TypeId} {w w' : World} {base g : Nat} {v : Value} {l : List α} (h : OwnL enc s e w base v l) (hb : w.grownBy w' (some g)) (hg : g < base) : OwnL enc s e w' base v l :=
  World.ownsRow.kept h hb (.inr fun e => by have := World.ownsRow.lt h g e; omega)

theorem OwnL.shape {e : TypeId} {w : World} {base : Nat} {v : Value} {l : List α} (h : OwnL enc s e w base v l) : ∃ A cap, v = .slice A l.length cap := by
  rcases h.2 with ⟨hv, hn⟩ | ⟨g, cap, _, hv, _⟩
  · exact ⟨none, 0, by rw [hv, hn]⟩
  · exact ⟨_, cap, hv⟩

theorem OwnL.at {e : TypeId} {w : World} {base cap n : Nat} {A : Option Addr} {l : List α} (h : OwnL enc s e w base (.slice A n cap) l) (he : ∀ p, (enc p).length = s) {k : Nat} {p : α} (hk : l[k]? = some p) :
    ∃ g, A = some ⟨g, 0, none⟩ ∧ base ≤ g ∧ g < w.heap.size ∧ ∀ c, c < s → w.cell? ⟨g, k * s + c, none⟩ = (enc p)[c]? := by
  have hkl : k < l.length := by
    rcases Nat.lt_or_ge k l.length with q | q
    · exact q
    · rw [List.getElem?_eq_none q] at hk; cases hk
  have hlt := World.ownsRow.lt h
  rcases h.2 with ⟨_, hn⟩ | ⟨g, cap', cur, hv, hb, hr⟩
  · omega
  · cases hv
    have h' : w.ownsRow base e s (.slice (some ⟨g, 0, none⟩) l.length cap) l.length (cellsOf enc l) := h
    refine ⟨g, rfl, hb, (hlt g rfl).2, fun c hc => ?_⟩
    have hb2 : k * s + c < l.length * s := by
      have := Nat.mul_le_mul_right s (show k + 1 ≤ l.length from hkl)
      rw [Nat.add_mul, Nat.one_mul] at this
      omega
    rw [h'.cellAt _ hb2, cellsOf_get he l k p c hk hc]

theorem grow_trans {w a b : World} {r : Option Nat} (h : w.grownBy a r) (k : a.grownBy b r) : w.grownBy b r :=
  ⟨k.os.trans h.os, k.tape.trans h.tape, k.output.trans h.output, Nat.le_trans h.size k.size, fun i hi hn => (k.block i (Nat.lt_of_lt_of_le hi h.size) hn).trans (h.block i hi hn)⟩

theorem owns_row_some {w : World} {base e n sz : Nat} {v : Value} {xs : List Value} (h : w.ownsRow base e sz v n xs) (hn : 0 < n) : ∃ g cap, v = .slice (some ⟨g, 0, none⟩) n cap ∧ base ≤ g := by
  rcases h.2 with ⟨_, h0⟩ | ⟨g, cap, cur, hv, hb, _⟩
  · omega
  · exact ⟨g, cap, hv, hb⟩

/-- One element appended to such a row. -/
theorem append_elem {P : Program} (wr : World) {ops : Array Oper} {rest : List Oper} {o : Oper} {a : Act} {Q : Exit → Act → World → Prop}
    (hg : o.guard = none) (sl x : Operand) (t : TypeId) (hop : o.op = Op.call { callee := Callee.builtin Builtin.append, args := #[sl, x], argTypes := #[t, t] })
    (base : Nat) (e : TypeId) (i : TypeInfo) (z : Value) (bytes : Nat) (h1 : P.underlying t = some (.slice e)) (h2 : P.info? e = some i) (hz : i.zero = some z) (hsz : i.size = s) (hby : i.bytes = bytes) (hzs : z.cells.size = s) (hs0 : 0 < s)
    (he : ∀ p, (enc p).length = s) (hone : ∀ p, ∀ u ∈ enc p, u.oneCell' = true)
    (v : Value) (l : List α) (p : α) (hs : a.eval sl = v) (hown : OwnL enc s e wr base v l) (N : Nat) (hx : a.eval x = .slice (some ⟨N, 0, none⟩) 1 1) (hN : N = wr.heap.size)
    (hle : l.length ≤ 100000) (hby2 : bytes ≤ 1000) (B : Nat) (w0 : World) (hnx : Below B w0 wr) (hB : B ≤ base) (hbase : base ≤ wr.heap.size)
    (hK : ∀ g cap w', base ≤ g → OwnL enc s e w' base (.slice (some ⟨g, 0, none⟩) (l.length + 1) cap) (l ++ [p]) → Below B w0 w' → wr.grownBy w' v.ownBlock → wpList P ops Q rest (a.put o.dst (.slice (some ⟨g, 0, none⟩) (l.length + 1) cap)) w') :
    wpList P ops Q (o :: rest) a (wr.alloc (.cells (enc p).toArray e)) := by
  subst hN
  refine wpList_append_own _ hg sl x t hop base e i z s bytes h1 h2 hz hsz hby hzs hs0 v l.length (cellsOf enc l) hs (World.ownsRow.alloc hown _) ⟨wr.heap.size, 0, none⟩ 1 1 (enc p) hx (by rw [he, Nat.one_mul]) ?_ (hone p) ?_ ?_ (by simp; omega) ?_
  · intro j u hj
    rw [addr_add, Nat.zero_add, World.cell?_alloc_at _ _ _ _ rfl]
    simpa using hj
  · unfold maxLen; omega
  · have : (l.length + 1) * bytes ≤ 100001 * 1000 := Nat.mul_le_mul (by omega) hby2
    omega
  · intro v' w' ho hgr _
    obtain ⟨g, cap, rfl, hgb⟩ := owns_row_some ho (by omega)
    refine hK g cap w' hgb ?_ ?_ ?_
    · unfold OwnL
      rw [List.length_append, cellsOf_snoc]
      exact ho
    · exact (hnx.alloc (by omega) _).grown hgr (by simp; omega) (fun k hk => by have := World.ownsRow.lt hown k hk; omega)
    · exact grow_trans (World.grownBy_alloc wr _ _) hgr

end

end Go.Proofs.YtbjcjeadnfckgaaDoor
