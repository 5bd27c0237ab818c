/- Several texts in one, one behind the other: TreeIn, SendLaw. -/
import Derived.Test.YtcamakkicmapcaaDoorPk03
import Derived.Deep.Slices
import Derived.Deep.Fields
import Derived.ChangeSame
import Derived.Lib.SmallJoins
import Derived.Test.YtcamakkicmapcaaDoorPk10

/- A view that came in as an argument. -/
namespace Go.Proofs.YtcamakkicmapcaaDoor
set_option maxRecDepth 100000
open Go.Joins Go.ChangeShapes Go.WideShapes Go.ChangeAt Go.RowKit Go.Deep
set_option linter.unusedVariables false

theorem tr_list_of {τ : Type} {P : Nat → τ → Prop} : ∀ n, (∀ i, i < n → ∃ t, P i t) → ∃ L : List τ, L.length = n ∧ ∀ k t, L[k]? = some t → P k t
  | 0, _ => ⟨[], rfl, fun k t e => by simp at e⟩
  | n + 1, h => by
    obtain ⟨L, hl, hL⟩ := tr_list_of n (fun i hi => h i (by omega))
    obtain ⟨t, ht⟩ := h n (by omega)
    refine ⟨L ++ [t], by simp [hl], fun k u e => ?_⟩
    rcases Nat.lt_or_ge k n with q | q
    · rw [List.getElem?_append_left (by omega)] at e
      exact hL k u e
    · rw [List.getElem?_append_right (by omega)] at e
      have : k - L.length = 0 := by
        rcases Nat.eq_zero_or_pos (k - L.length) with z | z
        · exact z
        · rw [List.getElem?_eq_none (by simp; omega)] at e; cases e
      rw [this] at e
      have hk : k = n := by omega
      have := Option.some.inj e
      subst this
      rw [hk]; exact ht

theorem Tryd.cellsTree : Tryd.prog.cellsOf 31 = 19 := by kernel_rfl
theorem Tryd.cellsTms : Tryd.prog.cellsOf 26 = 3 := by kernel_rfl
theorem Tryd.cellsSlP : Tryd.prog.cellsOf 29 = 1 := by kernel_rfl

section
variable {H : Type} {enc : TypeId × Value → H} {w : World} {base : Nat} {spare : Nat → Bool} {held : Bool}
theorem tms_trod {n : Nat} {c0 c1 c2 : Value} {y : DataW H × List MemPlace} (h : DataW.trod enc Tryd.prog w base spare held n 26 [c0, c1, c2] = some y) :
    ∃ (a b c : Int), c0 = .int .i64 a ∧ c1 = .int .i64 b ∧ c2 = .int .i64 c ∧ (-9223372036854775808 ≤ a ∧ a ≤ 9223372036854775807) ∧ (-9223372036854775808 ≤ b ∧ b ≤ 9223372036854775807) ∧ (-9223372036854775808 ≤ c ∧ c ≤ 9223372036854775807) := by
  obtain ⟨ys, n', _, _, hlen, hyl, hfl⟩ := DataW.trod_struct Tryd.underlying26 h
  have h0 : DataW.trod enc Tryd.prog w base spare held n' 3 (([c0, c1, c2].drop 0).take (Tryd.prog.cellsOf 3)) = ys[0]? := hfl 0 _ rfl
  have h1 : DataW.trod enc Tryd.prog w base spare held n' 3 (([c0, c1, c2].drop 1).take (Tryd.prog.cellsOf 3)) = ys[1]? := hfl 1 _ rfl
  have h2 : DataW.trod enc Tryd.prog w base spare held n' 3 (([c0, c1, c2].drop 2).take (Tryd.prog.cellsOf 3)) = ys[2]? := hfl 2 _ rfl
  rw [Tryd.cells1_64] at h0 h1 h2
  have hy3 : ys.length = 3 := hyl
  have y0 : ys[0]? = some (ys[0]'(by omega)) := List.getElem?_eq_getElem (by omega)
  have y1 : ys[1]? = some (ys[1]'(by omega)) := List.getElem?_eq_getElem (by omega)
  have y2 : ys[2]? = some (ys[2]'(by omega)) := List.getElem?_eq_getElem (by omega)
  rw [y0] at h0
  rw [y1] at h1
  rw [y2] at h2
  obtain ⟨a, e0, _, wa⟩ := DataW.trod_int Tryd.underlying3 h0
  obtain ⟨b, e1, _, wb⟩ := DataW.trod_int Tryd.underlying3 h1
  obtain ⟨c, e2, _, wc⟩ := DataW.trod_int Tryd.underlying3 h2
  simp at e0 e1 e2
  subst e0 e1 e2
  exact ⟨a, b, c, rfl, rfl, rfl, bounds_i64 wa, bounds_i64 wb, bounds_i64 wc⟩
end

/-- The times' bounds. -/
def TmB (t : Th) : Prop := (-9223372036854775808 ≤ t.n1 ∧ t.n1 ≤ 9223372036854775807 ∧ -9223372036854775808 ≤ t.n2 ∧ t.n2 ≤ 9223372036854775807 ∧ -9223372036854775808 ≤ t.n3 ∧ t.n3 ≤ 9223372036854775807)

set_option maxRecDepth 100000 in
theorem tree_in3 {H : Type} {enc : TypeId × Value → H} {w : World} {r : Reach} {base b0 : Nat} {v : Value} {d : DataW H} {p : List MemPlace}
    (hv : Value.okWide Tryd.prog w r b0 31 v) (h : DataW.Trod enc Tryd.prog w base (fun _ => true) true 31 v d p) :
    ∃ (t : Th) (A : Option Addr) (n cap : Nat) (L : List Po), v = .agg (lT t A n cap).toArray ∧ ThB t ∧ TmB t ∧ L.length = n ∧ n ≤ 9223372036854775807 ∧ (A = none → cap = 0) ∧ (∀ x ∈ L, PoB x) ∧ PoAt w A w.heap.size L := by
  obtain ⟨cs, rfl, hsz⟩ := okWide_struct Tryd.underlying31 hv
  obtain ⟨l⟩ := cs
  match l, hsz.trans Tryd.cellsTree with
  | [c0, c1, c2, c3, c4, c5, c6, c7, c8, c9, c10, c11, c12, c13, c14, c15, c16, c17, c18], _ =>
    obtain ⟨fuel, hf⟩ := h
    obtain ⟨ys, n', _, _, hlen, hyl, hfl⟩ := DataW.trod_struct Tryd.underlying31 hf
    have h0 : DataW.trod enc Tryd.prog w base (fun _ => true) true n' 23 (([c0, c1, c2, c3, c4, c5, c6, c7, c8, c9, c10, c11, c12, c13, c14, c15, c16, c17, c18].drop 0).take (Tryd.prog.cellsOf 23)) = ys[0]? := hfl 0 _ rfl
    rw [Tryd.cells1_id] at h0
    have h1 : DataW.trod enc Tryd.prog w base (fun _ => true) true n' 23 (([c0, c1, c2, c3, c4, c5, c6, c7, c8, c9, c10, c11, c12, c13, c14, c15, c16, c17, c18].drop 1).take (Tryd.prog.cellsOf 23)) = ys[1]? := hfl 1 _ rfl
    rw [Tryd.cells1_id] at h1
    have h2 : DataW.trod enc Tryd.prog w base (fun _ => true) true n' 24 (([c0, c1, c2, c3, c4, c5, c6, c7, c8, c9, c10, c11, c12, c13, c14, c15, c16, c17, c18].drop 2).take (Tryd.prog.cellsOf 24)) = ys[2]? := hfl 2 _ rfl
    rw [Tryd.cells1_32] at h2
    have h3 : DataW.trod enc Tryd.prog w base (fun _ => true) true n' 3 (([c0, c1, c2, c3, c4, c5, c6, c7, c8, c9, c10, c11, c12, c13, c14, c15, c16, c17, c18].drop 3).take (Tryd.prog.cellsOf 3)) = ys[3]? := hfl 3 _ rfl
    rw [Tryd.cells1_64] at h3
    have h4 : DataW.trod enc Tryd.prog w base (fun _ => true) true n' 26 (([c0, c1, c2, c3, c4, c5, c6, c7, c8, c9, c10, c11, c12, c13, c14, c15, c16, c17, c18].drop 4).take (Tryd.prog.cellsOf 26)) = ys[4]? := hfl 4 _ rfl
    rw [Tryd.cellsTms] at h4
    have h5 : DataW.trod enc Tryd.prog w base (fun _ => true) true n' 26 (([c0, c1, c2, c3, c4, c5, c6, c7, c8, c9, c10, c11, c12, c13, c14, c15, c16, c17, c18].drop 7).take (Tryd.prog.cellsOf 26)) = ys[5]? := hfl 5 _ rfl
    rw [Tryd.cellsTms] at h5
    have h6 : DataW.trod enc Tryd.prog w base (fun _ => true) true n' 4 (([c0, c1, c2, c3, c4, c5, c6, c7, c8, c9, c10, c11, c12, c13, c14, c15, c16, c17, c18].drop 10).take (Tryd.prog.cellsOf 4)) = ys[6]? := hfl 6 _ rfl
    rw [Tryd.cells1_b] at h6
    have h7 : DataW.trod enc Tryd.prog w base (fun _ => true) true n' 4 (([c0, c1, c2, c3, c4, c5, c6, c7, c8, c9, c10, c11, c12, c13, c14, c15, c16, c17, c18].drop 11).take (Tryd.prog.cellsOf 4)) = ys[7]? := hfl 7 _ rfl
    rw [Tryd.cells1_b] at h7
    have h8 : DataW.trod enc Tryd.prog w base (fun _ => true) true n' 28 (([c0, c1, c2, c3, c4, c5, c6, c7, c8, c9, c10, c11, c12, c13, c14, c15, c16, c17, c18].drop 12).take (Tryd.prog.cellsOf 28)) = ys[8]? := hfl 8 _ rfl
    rw [Tryd.cellsTm] at h8
    have h9 : DataW.trod enc Tryd.prog w base (fun _ => true) true n' 28 (([c0, c1, c2, c3, c4, c5, c6, c7, c8, c9, c10, c11, c12, c13, c14, c15, c16, c17, c18].drop 14).take (Tryd.prog.cellsOf 28)) = ys[9]? := hfl 9 _ rfl
    rw [Tryd.cellsTm] at h9
    have h10 : DataW.trod enc Tryd.prog w base (fun _ => true) true n' 28 (([c0, c1, c2, c3, c4, c5, c6, c7, c8, c9, c10, c11, c12, c13, c14, c15, c16, c17, c18].drop 16).take (Tryd.prog.cellsOf 28)) = ys[10]? := hfl 10 _ rfl
    rw [Tryd.cellsTm] at h10
    have h11 : DataW.trod enc Tryd.prog w base (fun _ => true) true n' 29 (([c0, c1, c2, c3, c4, c5, c6, c7, c8, c9, c10, c11, c12, c13, c14, c15, c16, c17, c18].drop 18).take (Tryd.prog.cellsOf 29)) = ys[11]? := hfl 11 _ rfl
    rw [Tryd.cellsSlP] at h11
    have hy : ys.length = 12 := hyl
    have y0 : ys[0]? = some (ys[0]'(by omega)) := List.getElem?_eq_getElem (by omega)
    rw [y0] at h0
    have y1 : ys[1]? = some (ys[1]'(by omega)) := List.getElem?_eq_getElem (by omega)
    rw [y1] at h1
    have y2 : ys[2]? = some (ys[2]'(by omega)) := List.getElem?_eq_getElem (by omega)
    rw [y2] at h2
    have y3 : ys[3]? = some (ys[3]'(by omega)) := List.getElem?_eq_getElem (by omega)
    rw [y3] at h3
    have y4 : ys[4]? = some (ys[4]'(by omega)) := List.getElem?_eq_getElem (by omega)
    rw [y4] at h4
    have y5 : ys[5]? = some (ys[5]'(by omega)) := List.getElem?_eq_getElem (by omega)
    rw [y5] at h5
    have y6 : ys[6]? = some (ys[6]'(by omega)) := List.getElem?_eq_getElem (by omega)
    rw [y6] at h6
    have y7 : ys[7]? = some (ys[7]'(by omega)) := List.getElem?_eq_getElem (by omega)
    rw [y7] at h7
    have y8 : ys[8]? = some (ys[8]'(by omega)) := List.getElem?_eq_getElem (by omega)
    rw [y8] at h8
    have y9 : ys[9]? = some (ys[9]'(by omega)) := List.getElem?_eq_getElem (by omega)
    rw [y9] at h9
    have y10 : ys[10]? = some (ys[10]'(by omega)) := List.getElem?_eq_getElem (by omega)
    rw [y10] at h10
    have y11 : ys[11]? = some (ys[11]'(by omega)) := List.getElem?_eq_getElem (by omega)
    rw [y11] at h11
    obtain ⟨a0, e0, _, w0⟩ := DataW.trod_int Tryd.underlying23 h0
    obtain ⟨a1, e1, _, w1⟩ := DataW.trod_int Tryd.underlying23 h1
    obtain ⟨a2, e2, _, w2⟩ := DataW.trod_int Tryd.underlying24 h2
    obtain ⟨a3, e3, _, w3⟩ := DataW.trod_int Tryd.underlying3 h3
    obtain ⟨n1, n2, n3, e4, e5, e6, u1, u2, u3⟩ := tms_trod h4
    obtain ⟨m1, m2, m3, e7, e8, e9, -⟩ := tms_trod h5
    obtain ⟨de, e10, _⟩ := DataW.trod_bool Tryd.underlying4 h6
    obtain ⟨ch, e11, _⟩ := DataW.trod_bool Tryd.underlying4 h7
    obtain ⟨ho, hvv, e12, e13, _, _⟩ := tm_trod h8
    obtain ⟨xo, xv, e14, e15, _, _⟩ := tm_trod h9
    obtain ⟨zo, zv, e16, e17, _, _⟩ := tm_trod h10
    simp at e0 e1 e2 e3 e10 e11
    subst e0 e1 e2 e3 e4 e5 e6 e7 e8 e9 e10 e11 e12 e13 e14 e15 e16 e17
    have b0 := bounds_u64 w0
    have b1 := bounds_u64 w1
    have b2 := bounds_u32 w2
    have b3 := bounds_i64 w3
    rcases open_slice Tryd.underlying29 h11 with ⟨hcs, _⟩ | ⟨x, l, c, m, n, D, Q, hcs, _, hl, hm, hmm, _, hi⟩
    · simp at hcs
      subst hcs
      exact ⟨⟨a0, a1, a2, a3, n1, n2, n3, m1, m2, m3, de, ch, ho, hvv, xo, xv, zo, zv⟩, none, 0, 0, [], rfl, by unfold ThB; dsimp only; omega, by unfold TmB; dsimp only; omega, rfl, by omega, fun _ => rfl, fun x hx => by simp at hx, fun k y e => by simp at e⟩
    · simp at hcs
      subst hcs
      have hlm : l ≤ m := by rw [hmm]; split <;> omega
      obtain ⟨L, hL, hP⟩ := tr_list_of (P := fun k (y : Po) => (∀ i v, (lP y)[i]? = some v → w.cell? ((x.add (k * 15)).add i) = some v) ∧ PoB y) l (fun i hin => by
          obtain ⟨cs', hc, ht⟩ := hi i (by omega)
          rw [Tryd.cellsPo] at hc
          obtain ⟨_, hcl, hat⟩ := World.cells?_some hc
          match cs', hcl with
          | [q0, q1, q2, q3, q4, q5, q6, q7, q8, q9, q10, q11, q12, q13, q14], _ =>
            obtain ⟨y, e, hb⟩ := po_trod ht
            have hly : [q0, q1, q2, q3, q4, q5, q6, q7, q8, q9, q10, q11, q12, q13, q14] = lP y := e
            rw [hly] at hat
            refine ⟨y, fun j u hu => ?_, hb⟩
            have hj : j < 15 := by
              rcases Nat.lt_or_ge j 15 with q | q
              · exact q
              · rw [List.getElem?_eq_none (by rw [lP_len]; exact q)] at hu; cases hu
            have := hat j hj
            rw [this, ← hu])
      refine ⟨⟨a0, a1, a2, a3, n1, n2, n3, m1, m2, m3, de, ch, ho, hvv, xo, xv, zo, zv⟩, some x, l, c, L, rfl, by unfold ThB; dsimp only; omega, by unfold TmB; dsimp only; omega, hL, by unfold maxLen at hm; omega, (fun e => by cases e), fun y hy => ?_, fun k y e => ?_⟩
      · obtain ⟨k, hk, e⟩ := List.getElem_of_mem hy
        exact (hP k y (by rw [List.getElem?_eq_getElem hk, e])).2
      · have h1 := (hP k y e).1
        have hb := block_lt_of_cell (h1 0 _ rfl)
        rw [Go.Proofs.YtcamakkicmapcaaDoor.add_block, Go.Proofs.YtcamakkicmapcaaDoor.add_block] at hb
        exact ⟨x, rfl, hb, h1⟩

theorem tree_in {H : Type} {enc : TypeId × Value → H} {w : World} {r : Reach} {base b0 : Nat} {v : Value} {d : DataW H} {p : List MemPlace}
    (hv : Value.okWide Tryd.prog w r b0 31 v) (h : DataW.Trod enc Tryd.prog w base (fun _ => true) true 31 v d p) :
    ∃ (t : Th) (A : Option Addr) (n cap : Nat) (L : List Po), v = .agg (lT t A n cap).toArray ∧ ThB t ∧ L.length = n ∧ n ≤ 9223372036854775807 ∧ (A = none → cap = 0) ∧ (∀ x ∈ L, PoB x) ∧ PoAt w A w.heap.size L := by
  obtain ⟨t, A, n, cap, L, h1, h2, -, h3⟩ := tree_in3 hv h
  exact ⟨t, A, n, cap, L, h1, h2, h3⟩

end Go.Proofs.YtcamakkicmapcaaDoor

/- What the laws keep of an answer: a view in a box, its ports, and what goes out. -/
namespace Go.Proofs.YtcamakkicmapcaaDoor
set_option maxRecDepth 100000
open Go.ChangeShapes Go.WideShapes Go.ChangeAt Go.RowKit
set_option linter.unusedVariables false

def AN (w : World) (G : Nat) (D : Option Addr) (cap : Nat) (v : Value) (t : Th) (n : Nat) (R : List Po × List Ou) : Prop :=
  Bk w G 31 (lT t D n cap) ∧ (D = none → cap = 0) ∧ PoAt w D w.heap.size R.1 ∧ OutsR w 0 v R.2
section
variable {w w' : World} {G n cap : Nat} {D : Option Addr} {v : Value} {t : Th} {R : List Po × List Ou}
theorem AN.below (h : AN w G D cap v t n R) (b : Below w.heap.size w w') : AN w' G D cap v t n R :=
  ⟨h.1.below b h.1.lt, h.2.1, (h.2.2.1.below b (Nat.le_refl _)).wide b.size, h.2.2.2.below b⟩
theorem AN.new {base : Nat} (hz : D = none → cap = 0) (hp : PoAt w D w.heap.size R.1) (ho : OutsR w base v R.2) : AN (w.alloc (.cells (lT t D n cap).toArray 31)) w.heap.size D cap v t n R := by
  have b := new_below w (.cells (lT t D n cap).toArray 31)
  exact ⟨heap_alloc_new _ _, hz, (hp.below b (Nat.le_refl _)).wide b.size, (ho.below b).mono (Nat.zero_le _)⟩
theorem AN.bk (h : AN w G D cap v t n R) : w.heap[G]? = some (.cells (lT t D n cap).toArray 31 (0, 0)) := h.1
theorem AN.ports (h : AN w G D cap v t n R) : PoAt w D w.heap.size R.1 := h.2.2.1
theorem AN.outs (h : AN w G D cap v t n R) : OutsR w 0 v R.2 := h.2.2.2
theorem AN.cell (h : AN w G D cap v t n R) {i : Nat} {u : Value} (hu : (lT t D n cap)[i]? = some u) : w.cell? ⟨G, i, none⟩ = some u := by
  rw [h.1.cell]; exact hu
theorem AN.port {ad : Addr} (h : AN w G (some ad) cap v t n R) {k : Nat} {x : Po} (hx : R.1[k]? = some x) (i : Nat) {u : Value} (hu : (lP x)[i + 1]? = some u) : w.cell? ⟨(ad.add (k * 15)).block, (ad.add (k * 15)).off + (i + 1), none⟩ = some u := by
  obtain ⟨ad', e, _, _, h0⟩ := h.ports.cells hx
  cases e
  exact h0 i u hu
end

end Go.Proofs.YtcamakkicmapcaaDoor
