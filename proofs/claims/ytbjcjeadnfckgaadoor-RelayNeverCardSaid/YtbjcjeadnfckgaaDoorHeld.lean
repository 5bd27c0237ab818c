/- A list of blocks of the call's own, each known whole: what a walk holds of the world where structs of many cells lie in boxes. Over any program. -/
import Derived.Test.YtbjcjeadnfckgaaDoorWireMem
import Derived.Lib.Hide
import Derived.Laws.Rows
import Derived.Laws.Tables
namespace Go.Proofs.YtbjcjeadnfckgaaDoor
set_option maxRecDepth 100000
open Go.ChangeShapes Go.WideShapes Go.ChangeAt Go.RowKit
set_option linter.unusedVariables false

/-- The blocks of the list lie as it says, each made since w; all that w had lies as it lay. -/
def Hs (w : World) (l : List (Nat × TypeId × List Value)) (wx : World) : Prop :=
  (∀ (k g : Nat) T cs, l[k]? = some (g, T, cs) → Bk wx g T cs ∧ w.heap.size ≤ g) ∧
  (∀ (j k : Nat) a b, j ≠ k → l[j]? = some a → l[k]? = some b → a.1 ≠ b.1) ∧ Below w.heap.size w wx

theorem Hs.nil (w : World) : Hs w [] w := ⟨fun k g T cs h => by simp at h, fun j k a b _ h => by simp at h, Below.refl _ _⟩
theorem Hs.old {w wx : World} {l : List (Nat × TypeId × List Value)} (h : Hs w l wx) : Below w.heap.size w wx := h.2.2
theorem Hs.bk {w wx : World} {l : List (Nat × TypeId × List Value)} (h : Hs w l wx) (k : Nat) {g : Nat} {T : TypeId} {cs : List Value} (hk : l[k]? = some (g, T, cs)) : wx.heap[g]? = some (.cells cs.toArray T (0, 0)) := (h.1 k g T cs hk).1
theorem Hs.lt {w wx : World} {l : List (Nat × TypeId × List Value)} (h : Hs w l wx) (k : Nat) {g : Nat} {T : TypeId} {cs : List Value} (hk : l[k]? = some (g, T, cs)) : g < wx.heap.size := Bk.lt (h.1 k g T cs hk).1
theorem Hs.cell {w wx : World} {l : List (Nat × TypeId × List Value)} (h : Hs w l wx) (k : Nat) {g : Nat} {T : TypeId} {cs : List Value} (i : Nat) {v : Value} (hk : l[k]? = some (g, T, cs)) (hv : cs[i]? = some v) : wx.cell? ⟨g, i, none⟩ = some v := by
  rw [Bk.cell (h.1 k g T cs hk).1 i, hv]
theorem Hs.thaw {w wx : World} {l : List (Nat × TypeId × List Value)} (h : Hs w l wx) (k : Nat) {g : Nat} {T : TypeId} {cs : List Value} (i : Nat) (hk : l[k]? = some (g, T, cs)) : wx.frozen? ⟨g, i, none⟩ = false := Bk.thaw (h.1 k g T cs hk).1 i

theorem Hs.below {w wx wy : World} {l : List (Nat × TypeId × List Value)} (h : Hs w l wx) (b : Below wx.heap.size wx wy) : Hs w l wy :=
  ⟨fun k g T cs hk => ⟨(h.1 k g T cs hk).1.below b (h.lt k hk), (h.1 k g T cs hk).2⟩, h.2.1, h.2.2.trans (b.mono h.2.2.size)⟩
theorem Hs.drew {w wx : World} {l : List (Nat × TypeId × List Value)} (h : Hs w l wx) : Hs w l wx.drew :=
  ⟨fun k g T cs hk => ⟨(h.1 k g T cs hk).1, (h.1 k g T cs hk).2⟩, h.2.1, h.2.2.drew⟩

theorem Hs.tail {w wx : World} {e : Nat × TypeId × List Value} {l : List (Nat × TypeId × List Value)} (h : Hs w (e :: l) wx) : Hs w l wx :=
  ⟨fun k g T cs hk => h.1 (k + 1) g T cs hk, fun j k a b hn hj hk => h.2.1 (j + 1) (k + 1) a b (by omega) hj hk, h.2.2⟩

/-- A new block. -/
theorem Hs.al {w wx : World} {l : List (Nat × TypeId × List Value)} (h : Hs w l wx) {g : Nat} (hg : wx.heap.size = g) (T : TypeId) (cs : List Value) : Hs w ((g, T, cs) :: l) (wx.alloc (.cells cs.toArray T)) := by
  subst hg
  have b : Below wx.heap.size wx (wx.alloc (.cells cs.toArray T)) := (Below.refl _ _).alloc (Nat.le_refl _) _
  have h' := h.below b
  refine ⟨fun k g T' cs' hk => ?_, fun j k a c hn hj hk => ?_, h'.2.2⟩
  · cases k with
    | zero => cases hk; exact ⟨heap_alloc_new wx _, h.2.2.size⟩
    | succ k => exact h'.1 k g T' cs' hk
  · cases j with
    | zero =>
      cases k with
      | zero => exact absurd rfl hn
      | succ k =>
        cases hj
        have := h.lt (g := c.1) (T := c.2.1) (cs := c.2.2) k hk
        show wx.heap.size ≠ c.1
        omega
    | succ j =>
      cases k with
      | zero =>
        cases hk
        have := h.lt (g := a.1) (T := a.2.1) (cs := a.2.2) j hj
        show a.1 ≠ wx.heap.size
        omega
      | succ k => exact h.2.1 j k a c (fun e => hn (by rw [e])) hj hk

/-- One block's cells changed. -/
theorem Hs.put {w wx wy : World} {l : List (Nat × TypeId × List Value)} (h : Hs w l wx) (i : Nat) {g : Nat} {T : TypeId} {cs : List Value} (hi : l[i]? = some (g, T, cs)) (cs' : List Value)
    (h1 : Bk wy g T cs') (h2 : ∀ k, k ≠ g → wy.heap[k]? = wx.heap[k]?) (h3 : Below w.heap.size w wy) : Hs w (l.set i (g, T, cs')) wy := by
  have hlen : i < l.length := (List.getElem?_eq_some_iff.1 hi).1
  have hat : ∀ k x, (l.set i (g, T, cs'))[k]? = some x → (k = i ∧ x = (g, T, cs')) ∨ (k ≠ i ∧ l[k]? = some x) := by
    intro k x hx
    by_cases e : k = i
    · subst e
      rw [List.getElem?_set_self hlen] at hx
      exact .inl ⟨rfl, (Option.some.inj hx).symm⟩
    · rw [List.getElem?_set_ne (fun q => e q.symm)] at hx
      exact .inr ⟨e, hx⟩
  refine ⟨fun k g' T' cs'' hk => ?_, fun j k a b hn hj hk => ?_, h3⟩
  · rcases hat k _ hk with ⟨rfl, e⟩ | ⟨hn, hx⟩
    · cases e
      exact ⟨h1, (h.1 _ _ _ _ hi).2⟩
    · have hne := h.2.1 k i _ _ hn hx hi
      exact ⟨(h2 g' hne).trans (h.1 _ _ _ _ hx).1, (h.1 _ _ _ _ hx).2⟩
  · rcases hat j _ hj with ⟨rfl, rfl⟩ | ⟨hnj, hxj⟩
    · rcases hat k _ hk with ⟨rfl, rfl⟩ | ⟨hnk, hxk⟩
      · exact absurd rfl hn
      · exact h.2.1 j k (g, T, cs) _ hn hi hxk
    · rcases hat k _ hk with ⟨rfl, rfl⟩ | ⟨hnk, hxk⟩
      · exact h.2.1 j k _ (g, T, cs) hn hxj hi
      · exact h.2.1 j k _ _ hn hxj hxk

theorem Hs.set {w wx : World} {l : List (Nat × TypeId × List Value)} (h : Hs w l wx) (i : Nat) {g : Nat} {T : TypeId} {cs : List Value} (hi : l[i]? = some (g, T, cs)) (j : Nat) (u : Value) :
    Hs w (l.set i (g, T, cs.set j u)) (wx.setCell ⟨g, j, none⟩ u) :=
  h.put i hi _ ((h.1 _ _ _ _ hi).1.set j u) (fun k hk => Below.heap_setCell wx ⟨g, j, none⟩ u k hk) (h.2.2.setCell (p := ⟨g, j, none⟩) (h.1 _ _ _ _ hi).2 u)

theorem Hs.row {w wx : World} {l : List (Nat × TypeId × List Value)} (h : Hs w l wx) (i : Nat) {g : Nat} {T : TypeId} {cs : List Value} (hi : l[i]? = some (g, T, cs)) (cs' : List Value) :
    Hs w (l.set i (g, T, cs')) (wx.setRow g cs'.toArray) :=
  h.put i hi _ (setRow_heap wx g _ cs'.toArray T (0, 0) (h.bk i hi)) (fun k hk => setRow_other wx g k _ hk) (below_setRow h.2.2 (h.1 _ _ _ _ hi).2 _)

/-- A new block, and then its row. -/
theorem alloc_row (w : World) (old cs : Array Value) (T : TypeId) : (w.alloc (.cells old T)).setRow w.heap.size cs = w.alloc (.cells cs T) := by
  unfold World.setRow World.alloc
  congr 1
  apply Array.ext
  · simp
  · intro i h1 h2
    simp only [Array.getElem_modify, Array.getElem_push]
    simp at h1 h2
    by_cases e : i < w.heap.size
    · simp [e, show w.heap.size ≠ i by omega]
    · have : i = w.heap.size := by omega
      subst this
      simp

/-- Boxes made at a call's start. -/
theorem hs_one (w : World) (T : TypeId) (cs : List Value) : ∃ wb, w.alloc (.cells cs.toArray T) = wb ∧ Hs w [(w.heap.size, T, cs)] wb := ⟨_, rfl, (Hs.nil w).al rfl T cs⟩
theorem hs_two (w : World) (T U : TypeId) (cs ds : List Value) : ∃ wb, (w.alloc (.cells cs.toArray T)).alloc (.cells ds.toArray U) = wb ∧ Hs w [(w.heap.size + 1, U, ds), (w.heap.size, T, cs)] wb :=
  ⟨_, rfl, ((Hs.nil w).al rfl T cs).al (by simp) U ds⟩
theorem hs_three (w : World) (T U V : TypeId) (cs ds es : List Value) : ∃ wb, ((w.alloc (.cells cs.toArray T)).alloc (.cells ds.toArray U)).alloc (.cells es.toArray V) = wb ∧ Hs w [(w.heap.size + 1 + 1, V, es), (w.heap.size + 1, U, ds), (w.heap.size, T, cs)] wb :=
  ⟨_, rfl, (((Hs.nil w).al rfl T cs).al (by simp) U ds).al (by simp) V es⟩

/-- A whole load that stands under a guard. -/
theorem wpList_load_rowG {P : Program} {ops : Array Oper} {rest : List Oper} {o : Oper} {a : Act} {w : World} {Q : Exit → Act → World → Prop} (hw : Region.wanted o (yielded ops a.tmps) = true) (ty : TypeId) (x : Operand) (ho : o.op = .load ty x)
    (g : Nat) (hx : a.eval x = .pointer (some ⟨g, 0, none⟩)) (t : TypeId) (cs : Array Value) (fr : Nat × Nat) (d : TypeDesc) (hg : w.heap[g]? = some (.cells cs t fr))
    (hu : P.underlying ty = some d) (hd : (match d with | .struct _ | .array _ _ => true | _ => false) = true) (hi : (P.info? ty).map (·.size) = some cs.size)
    (h : wpList P ops Q rest (a.put o.dst (.agg cs)) w) : wpList P ops Q (o :: rest) a w :=
  wpList_step fun _ hK => by rw [if_pos hw]; exact wp_load_row ty x ho g hx t cs fr d hg hu hd hi (hK _ _ h)

/-- A result of many cells in its box, beside one in a slot. -/
theorem results_two {P : Program} {fn : Func} {p r : Tmp} {ty : TypeId} (h : fn.results = #[.cell p ty, .tmp r]) (tmps : Array Value) (w : World) (g : Nat) (t : TypeId) (cs : Array Value) (fr : Nat × Nat) (d : TypeDesc)
    (hp : tmps.getD p undef = .pointer (some ⟨g, 0, none⟩)) (v : Value) (hv : tmps.getD r undef = v) (hg : w.heap[g]? = some (.cells cs t fr))
    (hu : P.underlying ty = some d) (hd : (match d with | .struct _ | .array _ _ => true | _ => false) = true) (hi : (P.info? ty).map (·.size) = some cs.size) :
    (results fn tmps).run P w = .ok (.tuple #[.agg cs, v]) w := by
  have hp' : tmps[p]?.getD undef = .pointer (some ⟨g, 0, none⟩) := by simpa using hp
  have hv' : tmps[r]?.getD undef = v := by simpa using hv
  simp [results, h, hp', hv', asAddr, run_loadVar_row w g t ty cs fr d hg hu hd hi]

end Go.Proofs.YtbjcjeadnfckgaaDoor
