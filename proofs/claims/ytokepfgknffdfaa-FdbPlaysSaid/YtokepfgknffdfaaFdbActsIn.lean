/- Acts on a bridge's table that came in as a slice. -/
import Derived.Test.YtokepfgknffdfaaNumsIn
import Derived.Test.YtokepfgknffdfaaIdsBase
import Derived.Deep.Slices
import Derived.Deep.Fields
import Derived.ChangeSame
import Derived.Lib.SmallJoins
namespace Go.Proofs.Ytokepfgknffdfaa
open Go.Joins Go.ChangeShapes Go.WideShapes Go.ChangeAt Go.RowKit Go.Deep
set_option linter.unusedVariables false

/-- An act: what is done; the address; the port, or the limit. -/
structure ActV where
  act : Int
  addr : Int
  num : Int

/-- The slice at 'a' holds the acts L. -/
def ActsIn (w : World) (a : Option Addr) (B : Nat) (L : List ActV) : Prop :=
  ∀ k x, L[k]? = some x → ∃ ad, a = some ad ∧ ad.block < B ∧ w.cell? (ad.add (k * 3)) = some (.int .u8 x.act) ∧ w.cell? (ad.add (k * 3 + 1)) = some (.int .u64 x.addr) ∧ w.cell? (ad.add (k * 3 + 2)) = some (.int .i64 x.num) ∧
    (0 ≤ x.act ∧ x.act ≤ 255) ∧ (0 ≤ x.addr ∧ x.addr ≤ 18446744073709551615) ∧ -9223372036854775808 ≤ x.num ∧ x.num ≤ 9223372036854775807

theorem ActsIn.below {w w' : World} {a : Option Addr} {B : Nat} {L : List ActV} (h : ActsIn w a B L) (hb : Below B w w') : ActsIn w' a B L := fun k x e => by
  obtain ⟨ad, h1, h2, h3, h4, h5, h6⟩ := h k x e
  have kp : ∀ j, w'.cell? (ad.add j) = w.cell? (ad.add j) := fun j => hb.cell (p := ad.add j) (by rw [Go.Proofs.Ytokepfgknffdfaa.add_block]; exact h2)
  exact ⟨ad, h1, h2, (kp _).trans h3, (kp _).trans h4, (kp _).trans h5, h6⟩

theorem list_of {τ : Type} {P : Nat → τ → Prop} : ∀ n, (∀ i, i < n → ∃ t, P i t) → ∃ L : List τ, L.length = n ∧ ∀ k t, L[k]? = some t → P k t
  | 0, _ => ⟨[], rfl, fun k t e => by simp at e⟩
  | n + 1, h => by
    obtain ⟨L, hl, hL⟩ := list_of n (fun i hi => h i (by omega))
    obtain ⟨t, ht⟩ := h n (by omega)
    refine ⟨L ++ [t], by simp [hl], fun k u e => ?_⟩
    rcases Nat.lt_or_ge k n with q | q
    · rw [List.getElem?_append_left (by omega)] at e
      exact hL k u e
    · rw [List.getElem?_append_right (by omega)] at e
      have : k - L.length = 0 := by
        rcases Nat.eq_zero_or_pos (k - L.length) with z | z
        · exact z
        · rw [List.getElem?_eq_none (by simp; omega)] at e; cases e
      rw [this] at e
      have hk : k = n := by omega
      have := Option.some.inj e
      subst this
      rw [hk]; exact ht

theorem Try.cellsAct : Try.prog.cellsOf 29 = 3 := by kernel_rfl
theorem Try.cellsU8 : Try.prog.cellsOf 5 = 1 := by kernel_rfl
theorem Try.cellsU64 : Try.prog.cellsOf 23 = 1 := by kernel_rfl
theorem Try.cellsInt : Try.prog.cellsOf 3 = 1 := by kernel_rfl

set_option maxRecDepth 100000 in
theorem acts_arg {H : Type} {enc : TypeId × Value → H} {w : World} {r : Reach} {base b0 : Nat} {v : Value} {d : DataW H} {p : List MemPlace}
    (hv : Value.okWide Try.prog w r b0 22 v) (h : DataW.Trod enc Try.prog w base (fun _ => true) true 22 v d p) :
    ∃ a len cap L, v = .slice a len cap ∧ L.length = len ∧ len ≤ maxLen ∧ ActsIn w a w.heap.size L := by
  obtain ⟨a, len, cap, rfl⟩ := okWide_slice Try.underlying22 hv
  obtain ⟨fuel, hf⟩ := h
  rcases open_slice Try.underlying22 hf with ⟨hcs, _⟩ | ⟨x, l, c, m, n, D, Q, hcs, _, hl, hm, hmm, _, hi⟩
  · simp [Value.cells] at hcs
    obtain ⟨rfl, rfl, rfl⟩ := hcs
    exact ⟨_, _, _, [], rfl, rfl, Nat.zero_le _, fun k y e => by simp at e⟩
  · simp [Value.cells] at hcs
    obtain ⟨rfl, rfl, rfl⟩ := hcs
    have hlm : len ≤ m := by rw [hmm]; split <;> omega
    obtain ⟨L, hL, hP⟩ := list_of (P := fun k (y : ActV) => w.cell? (x.add (k * 3)) = some (.int .u8 y.act) ∧ w.cell? (x.add (k * 3 + 1)) = some (.int .u64 y.addr) ∧ w.cell? (x.add (k * 3 + 2)) = some (.int .i64 y.num) ∧
      (0 ≤ y.act ∧ y.act ≤ 255) ∧ (0 ≤ y.addr ∧ y.addr ≤ 18446744073709551615) ∧ -9223372036854775808 ≤ y.num ∧ y.num ≤ 9223372036854775807) len (fun i hin => by
        obtain ⟨cs', hc, ht⟩ := hi i (by omega)
        rw [Try.cellsAct] at hc
        obtain ⟨ys, n', _, _, hlen, hyl, hfl⟩ := DataW.trod_struct Try.underlying29 ht
        rw [Try.cellsAct] at hlen
        obtain ⟨_, hcl, hat⟩ := World.cells?_some hc
        match cs', hlen with
        | [c0, c1, c2], _ =>
          have h0 : DataW.trod enc Try.prog w base (fun _ => true) true n' 5 (([c0, c1, c2].drop 0).take (Try.prog.cellsOf 5)) = ys[0]? := hfl 0 _ rfl
          have h1 : DataW.trod enc Try.prog w base (fun _ => true) true n' 23 (([c0, c1, c2].drop 1).take (Try.prog.cellsOf 23)) = ys[1]? := hfl 1 _ rfl
          have h2 : DataW.trod enc Try.prog w base (fun _ => true) true n' 3 (([c0, c1, c2].drop 2).take (Try.prog.cellsOf 3)) = ys[2]? := hfl 2 _ rfl
          rw [Try.cellsU8] at h0
          rw [Try.cellsU64] at h1
          rw [Try.cellsInt] at h2
          have hy3 : ys.length = 3 := hyl
          have y0 : ys[0]? = some (ys[0]'(by omega)) := List.getElem?_eq_getElem (by omega)
          have y1 : ys[1]? = some (ys[1]'(by omega)) := List.getElem?_eq_getElem (by omega)
          have y2 : ys[2]? = some (ys[2]'(by omega)) := List.getElem?_eq_getElem (by omega)
          rw [y0] at h0
          rw [y1] at h1
          rw [y2] at h2
          obtain ⟨o, e0, _, wo⟩ := DataW.trod_int Try.underlying5 h0
          obtain ⟨u, e1, _, wu⟩ := DataW.trod_int Try.underlying23 h1
          obtain ⟨z, e2, _, wz⟩ := DataW.trod_int Try.underlying3 h2
          have g0 := hat 0 (by omega)
          have g1 := hat 1 (by omega)
          have g2 := hat 2 (by omega)
          rw [Go.Proofs.Ytokepfgknffdfaa.add_add] at g0 g1 g2
          obtain ⟨a0, a1⟩ := bounds_u8 wo
          obtain ⟨b0, b1⟩ := bounds_u64 wu
          obtain ⟨b2, b3⟩ := bounds_i64 wz
          simp at e0 e1 e2
          subst e0 e1 e2
          exact ⟨⟨o, u, z⟩, g0, g1, g2, ⟨a0, by show o ≤ _; omega⟩, ⟨b0, by show u ≤ _; omega⟩, by show _ ≤ z; omega, by show z ≤ _; omega⟩)
    refine ⟨some x, len, cap, L, rfl, hL, Nat.le_trans hl hm, fun k y e => ?_⟩
    obtain ⟨h1, h2, h3, h4⟩ := hP k y e
    have hb := block_lt_of_cell h1
    rw [Go.Proofs.Ytokepfgknffdfaa.add_block] at hb
    exact ⟨x, rfl, hb, h1, h2, h3, h4⟩

end Go.Proofs.Ytokepfgknffdfaa
