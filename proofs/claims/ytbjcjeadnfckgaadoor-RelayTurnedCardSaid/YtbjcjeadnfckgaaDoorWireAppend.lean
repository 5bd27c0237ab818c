/- Bytes appended to a row of the call's own: the source nil, empty or not. -/
import Derived.Test.YtbjcjeadnfckgaaDoorWireArg
import Derived.Laws.AppendOwnNone
namespace Go.Proofs.YtbjcjeadnfckgaaDoor
set_option maxRecDepth 100000
open Go.ChangeShapes Go.WideShapes Go.ChangeAt Go.RowKit
set_option linter.unusedVariables false

/-- A row of the call's own, in block 'g': the bytes 'l', and what is spare. -/
def Row (w : World) (g cap : Nat) (l : List UInt8) : Prop := ∃ sp : List Value, sp.length = cap - l.length ∧ l.length ≤ cap ∧ Bk w g 5 (l.map bc ++ sp)

theorem Row.of_own {w : World} {base g n cap : Nat} {l : List UInt8} (h : w.ownsRow base 5 1 (.slice (some ⟨g, 0, none⟩) n cap) n (l.map bc)) : Row w g cap l ∧ base ≤ g ∧ l.length = n := by
  obtain ⟨h1, ⟨h2, _⟩ | ⟨g', cap', cur, hv, hb, hh, hn, _, hs, ht⟩⟩ := h
  · cases h2
  · injection hv with e1 _ e3
    injection e1 with e1
    injection e1 with e1
    subst e1; subst e3
    simp only [Nat.mul_one] at ht hs
    have hl : l.length = n := by simpa using h1
    refine ⟨⟨cur.toList.drop n, by simp; omega, by omega, ?_⟩, hb, hl⟩
    rw [← ht, List.take_append_drop]
    exact hh

theorem Row.rb {w : World} {g cap : Nat} {l : List UInt8} (h : Row w g cap l) (lo hi : Nat) (h1 : lo ≤ g) (h2 : g < hi) : RB w (some ⟨g, 0, none⟩) lo hi l := by
  obtain ⟨sp, _, _, hb⟩ := h
  intro _
  refine ⟨_, rfl, h1, h2, fun j hj => ?_⟩
  rw [addr_add, hb.cell]
  simp [hj, List.getElem?_append_left]

theorem Row.lt {w : World} {g cap : Nat} {l : List UInt8} (h : Row w g cap l) : g < w.heap.size := by
  obtain ⟨sp, _, _, hb⟩ := h
  exact hb.lt

theorem src_cells {w : World} {ad : Addr} {lo hi : Nat} {l : List UInt8} (h : RB w (some ad) lo hi l) : ∀ (j : Nat) u, (l.map bc)[j]? = some u → w.cell? (ad.add j) = some u := by
  intro j u hu
  have hj : j < l.length := by
    rcases Nat.lt_or_ge j l.length with k | k
    · exact k
    · rw [List.getElem?_eq_none (by simpa using k)] at hu; cases hu
  have := h.bytes j hj
  rw [this, ← hu]
  simp [hj, bc]

theorem append_bytes (w : World) {ops : Array Oper} {rest : List Oper} {o : Oper} {a : Act} {Q : Exit → Act → World → Prop} (hgd : o.guard = none) (s x : Operand)
    (ho : o.op = .call { callee := .builtin .append, args := #[s, x], argTypes := #[25, 25] })
    (base g n cap : Nat) (l : List UInt8) (hs : a.eval s = .slice (some ⟨g, 0, none⟩) n cap) (hown : w.ownsRow base 5 1 (.slice (some ⟨g, 0, none⟩) n cap) n (l.map bc))
    (A : Option Addr) (m c lo hi : Nat) (l2 : List UInt8) (hx : a.eval x = .slice A m c) (hr : RB w A lo hi l2) (hl : Hid (l2.length = m)) (hc : A = none → c = 0)
    (hn : n + m ≤ 1000000) (hbase : base ≤ w.heap.size) (B : Nat) (w0 : World) (hb : Below B w0 w) (hB : B ≤ base)
    (h : ∀ g' cap' w', w'.ownsRow base 5 1 (.slice (some ⟨g', 0, none⟩) (n + m) cap') (n + m) ((l ++ l2).map bc) → Below B w0 w' → base ≤ w'.heap.size → wpList Tryd.prog ops Q rest (a.put o.dst (.slice (some ⟨g', 0, none⟩) (n + m) cap')) w') :
    wpList Tryd.prog ops Q (o :: rest) a w := by
  obtain ⟨i0, hi0, hz0, hz1, hz2⟩ := info_parts Tryd.infoByte
  have hg : base ≤ g := (Row.of_own hown).2.1
  cases A with
  | none =>
    have h0 : l2 = [] := by
      rcases Nat.eq_zero_or_pos l2.length with e | e
      · exact List.eq_nil_of_length_eq_zero e
      · obtain ⟨_, e, _⟩ := hr e; cases e
    subst h0
    have hm := hl.out
    subst hm
    have hc0 := hc rfl
    subst hc0
    refine wpList_append_own_none hgd s x 25 ho base 5 i0 1 Tryd.underlying25 hi0 _ n (l.map bc) hs hown hx ?_
    have := h g cap w (by simpa using hown) hb hbase
    simpa using this
  | some ad =>
    refine wpList_append_own w hgd s x 25 ho base 5 i0 (.int .u8 0) 1 1 Tryd.underlying25 hi0 hz0 hz1 hz2 rfl (by decide) _ n (l.map bc) hs hown ad m c (l2.map bc) hx (by rw [List.length_map, hl.out, Nat.mul_one]) (src_cells hr) (one_bcs l2) (by unfold maxLen; omega) (by omega) hbase ?_
    intro v' w' hown' hgrow hnil
    have hbw : Below B w0 w' := hb.grown hgrow (Nat.le_trans hB hbase) (fun k hk => by simp [Value.ownBlock] at hk; omega)
    have hsz : base ≤ w'.heap.size := Nat.le_trans hbase hgrow.size
    rcases hown'.2 with ⟨hv, hn0⟩ | ⟨g', cap', cur, hv, _⟩
    · have := (hnil.1 hv).1
      cases this
    · subst hv
      rw [← List.map_append] at hown'
      exact h g' cap' w' hown' hbw hsz

/-- Bytes appended to nil: in new memory, or nil still, if there are none. -/
theorem append_nil (w : World) {ops : Array Oper} {rest : List Oper} {o : Oper} {a : Act} {Q : Exit → Act → World → Prop} (hgd : o.guard = none) (s x : Operand)
    (ho : o.op = .call { callee := .builtin .append, args := #[s, x], argTypes := #[25, 25] })
    (hs : a.eval s = .slice none 0 0) (A : Option Addr) (m c lo hi : Nat) (l2 : List UInt8) (hx : a.eval x = .slice A m c) (hr : RB w A lo hi l2) (hl : Hid (l2.length = m)) (hc : A = none → c = 0)
    (hn : m ≤ 1000000)
    (h : ∀ D cap w', RB w' D w.heap.size w'.heap.size l2 → Below w.heap.size w w' → m ≤ cap → wpList Tryd.prog ops Q rest (a.put o.dst (.slice D m cap)) w') :
    wpList Tryd.prog ops Q (o :: rest) a w := by
  obtain ⟨i0, hi0, hz0, hz1, hz2⟩ := info_parts Tryd.infoByte
  cases A with
  | none =>
    have h0 : l2 = [] := by
      rcases Nat.eq_zero_or_pos l2.length with e | e
      · exact List.eq_nil_of_length_eq_zero e
      · obtain ⟨_, e, _⟩ := hr e; cases e
    subst h0
    have hm := hl.out
    subst hm
    have hc0 := hc rfl
    subst hc0
    refine wpList_append_own_none hgd s x 25 ho w.heap.size 5 i0 1 Tryd.underlying25 hi0 _ 0 [] hs (World.ownsRow_nil w _ _ _) hx ?_
    exact h none 0 w (RB.nil _ _ _ _) (Below.refl _ _) (Nat.le_refl _)
  | some ad =>
    refine wpList_append_own w hgd s x 25 ho w.heap.size 5 i0 (.int .u8 0) 1 1 Tryd.underlying25 hi0 hz0 hz1 hz2 rfl (by decide) _ 0 [] hs (World.ownsRow_nil w _ _ _) ad m c (l2.map bc) hx (by rw [List.length_map, hl.out, Nat.mul_one]) (src_cells hr) (one_bcs l2) (by unfold maxLen; omega) (by omega) (Nat.le_refl _) ?_
    intro v' w' hown' hgrow hnil
    have hbw : Below w.heap.size w w' := (Below.refl _ _).grown hgrow (Nat.le_refl _) (fun k hk => by simp [Value.ownBlock] at hk)
    rw [Nat.zero_add, List.nil_append] at hown'
    rcases hown'.2 with ⟨hv, hn0⟩ | ⟨g', cap', cur, hv, _, _, hcl, _⟩
    · subst hv
      subst hn0
      have e : l2 = [] := List.eq_nil_of_length_eq_zero hl.out
      subst e
      exact h none 0 w' (RB.nil _ _ _ _) hbw (Nat.le_refl _)
    · subst hv
      obtain ⟨hrow, hg, _⟩ := Row.of_own hown'
      exact h _ cap' w' (hrow.rb _ _ hg hrow.lt) hbw hcl

end Go.Proofs.YtbjcjeadnfckgaaDoor
