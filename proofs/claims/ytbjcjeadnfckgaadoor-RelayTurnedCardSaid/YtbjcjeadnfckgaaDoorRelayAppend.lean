/- Whole numbers appended to a row of the call's own: steps of a region that draws its order. -/
import Derived.Test.YtbjcjeadnfckgaaDoorRelayPick
import Derived.Test.YtbjcjeadnfckgaaDoorRelayAwake
import Derived.Laws.OwnMore
namespace Go.Proofs.YtbjcjeadnfckgaaDoor
set_option maxRecDepth 100000
open Go.ChangeShapes Go.WideShapes Go.ChangeAt Go.RowKit
set_option linter.unusedVariables false
set_option linter.unusedSimpArgs false

def encIi (u : Int) : List Value := [.int .i64 u]
theorem encIi_len (u : Int) : (encIi u).length = 1 := rfl
theorem encIi_one (u : Int) : ∀ v ∈ encIi u, v.oneCell' = true := fun v hv => by obtain rfl := List.mem_singleton.1 hv; rfl
def IntsO (w : World) (base : Nat) (v : Value) (I : List Int) : Prop := OwnL encIi 1 3 w base v I

theorem IntsO.into {w : World} {base n cap : Nat} {A : Option Addr} {I : List Int} (h : IntsO w base (.slice A n cap) I) (hb : ∀ u ∈ I, -9223372036854775808 ≤ u ∧ u ≤ 9223372036854775807) : IntsIn w A w.heap.size I := fun k u e => by
  obtain ⟨g, h1, h2, h4, h3⟩ := OwnL.at h encIi_len e
  have := h3 0 (by decide)
  simp at this
  exact ⟨_, h1, h4, by rw [addr_add, Nat.zero_add]; exact this, hb u (List.mem_of_getElem? e)⟩

theorem intsO_new {W W' : World} {base : Nat} (hb : base ≤ W.heap.size) (hw : W.alloc (.cells #[] 3) = W') : IntsO W' base (.slice (some ⟨W.heap.size, 0, none⟩) 0 0) [] := by
  rw [← hw]
  exact OwnL.mono (owns_empty W 3) hb

theorem cellsOf_ints (U : List Int) : cellsOf encIi U = U.map (Value.int .i64) := by
  induction U with
  | nil => rfl
  | cons u U ih => exact congrArg (Value.int .i64 u :: ·) ih

theorem step_append_all {ops : Array Oper} {o : Oper} {a : Act} {W : World} {K : Act → World → Prop} {Q : Exit → Act → World → Prop} {E : Prop} (hgd : o.guard = none) (s x : Operand)
    (hop : o.op = Op.call { callee := Callee.builtin Builtin.append, args := #[s, x], argTypes := #[28, 28] })
    (base g : Nat) (hs : a.eval s = .slice (some ⟨g, 0, none⟩) 0 0) (hown : IntsO W base (.slice (some ⟨g, 0, none⟩) 0 0) []) (hg : base ≤ g) (A : Option Addr) (m c : Nat) (hx : a.eval x = .slice A m c) (U : List Int) (hU : U.length = m) (hc : A = none → c = 0) (B : Nat) (hI : IntsIn W A B U) (hle : m ≤ 100000) (hbase : base ≤ W.heap.size)
    (hK : ∀ g' cap w', base ≤ g' → IntsO w' base (.slice (some ⟨g', 0, none⟩) m cap) U → W.grownBy w' (some g) → K (a.put o.dst (.slice (some ⟨g', 0, none⟩) m cap)) w') :
    if Region.wanted o (yielded ops a.tmps) = true then Oper.wp Tryd.prog o a W K Q else E := by
  obtain ⟨i0, hi0, hz0, hz1, hz2⟩ := info_parts Tryd.infoIntR
  have hw : Region.wanted o (yielded ops a.tmps) = true := by simp [Region.wanted, hgd]
  rw [if_pos hw]
  cases A with
  | none =>
    have h0 : U = [] := by
      cases U with
      | nil => rfl
      | cons u U => obtain ⟨_, e, _⟩ := hI 0 u rfl; cases e
    subst h0
    have hm : m = 0 := hU.symm
    subst hm
    have hc0 := hc rfl
    subst hc0
    have hrun := run_append_owned_none (P := Tryd.prog) (w := W) base 28 o.type 3 i0 1 Tryd.underlying28 hi0 _ 0 [] hown
    unfold Oper.wp
    simp [execOp, hop, resolve, invoke, builtin, hs, hx, hrun, Result.andThen]
    exact hK g 0 W hg hown (World.grownBy.refl _ _)
  | some ad =>
    obtain ⟨v', w', hrun, r1, r2, r3⟩ := run_append_own (P := Tryd.prog) W base 28 o.type 3 i0 _ 1 8 Tryd.underlying28 hi0 hz0 hz1 hz2 rfl (by decide) _ 0 [] hown ad m c (cellsOf encIi U) (by rw [cellsOf_len encIi_len, hU]) (fun j u hu => by
      rw [cellsOf_ints, List.getElem?_map] at hu
      cases hj : U[j]? with
      | none => rw [hj] at hu; cases hu
      | some y =>
        rw [hj] at hu
        cases hu
        obtain ⟨ad', e, -, h3, -⟩ := hI j y hj
        cases e
        exact h3) (fun u hu => by rw [cellsOf_ints] at hu; obtain ⟨_, _, rfl⟩ := List.mem_map.1 hu; rfl) (by unfold maxLen; omega) (by omega) hbase
    rw [Nat.zero_add, List.nil_append] at r1
    have hsh : ∃ g' cap, v' = .slice (some ⟨g', 0, none⟩) m cap ∧ base ≤ g' := by
      rcases r1.2 with ⟨hv, hn⟩ | ⟨g', cap, cur, hv, hb, _⟩
      · have := (r3.1 hv).1
        cases this
      · exact ⟨g', cap, hv, hb⟩
    obtain ⟨g', cap, rfl, hb'⟩ := hsh
    unfold Oper.wp
    simp [execOp, hop, resolve, invoke, builtin, hs, hx, hrun, Result.andThen]
    refine hK g' cap w' hb' ?_ r2
    unfold IntsO OwnL
    rw [hU]
    exact r1

theorem step_append_int {ops : Array Oper} {o : Oper} {a : Act} {W : World} {K : Act → World → Prop} {Q : Exit → Act → World → Prop} {E : Prop} (hgd : o.guard = none) (s x : Operand)
    (hop : o.op = Op.call { callee := Callee.builtin Builtin.append, args := #[s, x], argTypes := #[28, 28] })
    (base g m cap : Nat) (U : List Int) (hU : U.length = m) (hs : a.eval s = .slice (some ⟨g, 0, none⟩) m cap) (hown : IntsO W base (.slice (some ⟨g, 0, none⟩) m cap) U) (N : Nat) (r : Int) (hx : a.eval x = .slice (some ⟨N, 0, none⟩) 1 1) (hN : Bk W N 3 [.int .i64 r]) (hle : m ≤ 100000) (hbase : base ≤ W.heap.size)
    (hK : ∀ g' cap' w', base ≤ g' → IntsO w' base (.slice (some ⟨g', 0, none⟩) (m + 1) cap') (U ++ [r]) → W.grownBy w' (some g) → K (a.put o.dst (.slice (some ⟨g', 0, none⟩) (m + 1) cap')) w') :
    if Region.wanted o (yielded ops a.tmps) = true then Oper.wp Tryd.prog o a W K Q else E := by
  obtain ⟨i0, hi0, hz0, hz1, hz2⟩ := info_parts Tryd.infoIntR
  have hw : Region.wanted o (yielded ops a.tmps) = true := by simp [Region.wanted, hgd]
  rw [if_pos hw]
  subst hU
  obtain ⟨v', w', hrun, r1, r2, -⟩ := run_append_own (P := Tryd.prog) W base 28 o.type 3 i0 _ 1 8 Tryd.underlying28 hi0 hz0 hz1 hz2 rfl (by decide) _ U.length (cellsOf encIi U) hown ⟨N, 0, none⟩ 1 1 (encIi r) rfl (fun j u hu => by rw [addr_add, Nat.zero_add, hN.cell]; exact hu) (encIi_one r) (by unfold maxLen; omega) (by omega) hbase
  obtain ⟨g', cap', rfl, hgb⟩ := owns_row_some r1 (by omega)
  unfold Oper.wp
  simp [execOp, hop, resolve, invoke, builtin, hs, hx, hrun, Result.andThen]
  refine hK g' cap' w' hgb ?_ r2
  unfold IntsO OwnL
  rw [List.length_append, cellsOf_snoc]
  exact r1

theorem pickN_congr {p q : Nat → Bool} : ∀ {k : Nat}, (∀ i, i < k → p i = q i) → pickN p k = pickN q k
  | 0, _ => rfl
  | k + 1, h => by
    have ih := pickN_congr (p := p) (q := q) (k := k) (fun i hi => h i (by omega))
    cases hk : q k with
    | false => rw [pickN_no hk, pickN_no ((h k (by omega)).trans hk), ih]
    | true => rw [pickN_yes hk, pickN_yes ((h k (by omega)).trans hk), ih]

/-- With one port more, that does not forward, behind all others nothing changes. -/
theorem through_more {cl t inn wh r : Int} {U : List Int} {kn : Bool} {m : Nat} (hU : U.length = m) (hi : inn < m) (hr : r ≠ 4) : pickN (throughB cl t inn (U ++ [r]) wh kn) (m + 1) = pickN (throughB cl t inn U wh kn) m := by
  subst hU
  have hm : throughB cl t inn (U ++ [r]) wh kn U.length = false := by
    unfold throughB goesB
    rw [List.getElem?_append_right (Nat.le_refl _)]
    simp [hr]
  rw [pickN_no hm]
  refine pickN_congr fun i hi' => ?_
  unfold throughB goesB
  rw [List.getElem?_append_left hi']
  by_cases h0 : 0 ≤ inn
  · rw [List.getElem?_append_left (by omega), List.length_append, decide_eq_true hi, decide_eq_true (show inn < ((U.length + [r].length : Nat) : Int) by simp; omega)]
  · rw [decide_eq_false h0]; rfl
end Go.Proofs.YtbjcjeadnfckgaaDoor
