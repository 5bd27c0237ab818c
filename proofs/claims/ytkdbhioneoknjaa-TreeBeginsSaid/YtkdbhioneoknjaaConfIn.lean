/- A configuration, and a port's, that came in as an argument. -/
import Derived.Test.YtkdbhioneoknjaaConfMem
import Derived.Deep.Slices
import Derived.Deep.Fields
import Derived.ChangeSame
import Derived.Lib.SmallJoins
namespace Go.Proofs.Ytkdbhioneoknjaa
open Go.Joins Go.ChangeShapes Go.WideShapes Go.ChangeAt Go.RowKit Go.Deep
set_option linter.unusedVariables false

theorem cf_list_of {τ : Type} {P : Nat → τ → Prop} : ∀ n, (∀ i, i < n → ∃ t, P i t) → ∃ L : List τ, L.length = n ∧ ∀ k t, L[k]? = some t → P k t
  | 0, _ => ⟨[], rfl, fun k t e => by simp at e⟩
  | n + 1, h => by
    obtain ⟨L, hl, hL⟩ := cf_list_of n (fun i hi => h i (by omega))
    obtain ⟨t, ht⟩ := h n (by omega)
    refine ⟨L ++ [t], by simp [hl], fun k u e => ?_⟩
    rcases Nat.lt_or_ge k n with q | q
    · rw [List.getElem?_append_left (by omega)] at e
      exact hL k u e
    · rw [List.getElem?_append_right (by omega)] at e
      have : k - L.length = 0 := by
        rcases Nat.eq_zero_or_pos (k - L.length) with z | z
        · exact z
        · rw [List.getElem?_eq_none (by simp; omega)] at e; cases e
      rw [this] at e
      have hk : k = n := by omega
      have := Option.some.inj e
      subst this
      rw [hk]; exact ht

theorem Try.cellsConf : Try.prog.cellsOf 44 = 8 := by kernel_rfl
theorem Try.cellsPort : Try.prog.cellsOf 54 = 3 := by kernel_rfl
theorem Try.cells8 : Try.prog.cellsOf 5 = 1 := by kernel_rfl
theorem Try.cells32 : Try.prog.cellsOf 24 = 1 := by kernel_rfl
theorem Try.cellsB : Try.prog.cellsOf 4 = 1 := by kernel_rfl

theorem port_in {H : Type} {enc : TypeId × Value → H} {w : World} {r : Reach} {base b0 : Nat} {v : Value} {d : DataW H} {p : List MemPlace}
    (hv : Value.okWide Try.prog w r b0 54 v) (h : DataW.Trod enc Try.prog w base (fun _ => true) true 54 v d p) :
    ∃ x : PV, v = .agg #[.int .u8 x.pr, .int .u32 x.co, .bool x.on] ∧ PB x := by
  obtain ⟨v0, v1, v2, y0, y1, y2, n, rfl, -, -, g0, g1, g2⟩ := open_agg3 Try.underlying54 (by kernel_rfl) Try.cellsPort hv h
  obtain ⟨pr, e0, -, u0⟩ := DataW.trod_int Try.underlying5 g0
  obtain ⟨co, e1, -, u1⟩ := DataW.trod_int Try.underlying24 g1
  obtain ⟨on, e2, -⟩ := DataW.trod_bool Try.underlying4 g2
  simp at e0 e1 e2
  subst e0 e1 e2
  have b0 := bounds_u8 u0
  have b1 := bounds_u32 u1
  exact ⟨⟨pr, co, on⟩, rfl, by unfold PB; dsimp only; omega⟩

section
variable {H : Type} {enc : TypeId × Value → H} {P : Program} {w : World} {base : Nat} {spare : Nat → Bool} {held : Bool}
theorem open_8 {r : Reach} {b0 : Nat} {t : TypeId} {f0 f1 f2 f3 f4 f5 f6 f7 : Field} {v : Value} {d : DataW H} {p : List MemPlace} (hs : P.underlying t = some (.struct #[f0, f1, f2, f3, f4, f5, f6, f7])) (hone : oneCellFields P #[f0, f1, f2, f3, f4, f5, f6, f7] = true) (hC : P.cellsOf t = 8)
    (hv : Value.okWide P w r b0 t v) (h : DataW.Trod enc P w base spare held t v d p) :
    ∃ (v0 v1 v2 v3 v4 v5 v6 v7 : Value) (y0 y1 y2 y3 y4 y5 y6 y7 : DataW H × List MemPlace) (n : Nat), v = .agg #[v0, v1, v2, v3, v4, v5, v6, v7] ∧
      DataW.trod enc P w base spare held n f0.type [v0] = some y0 ∧ DataW.trod enc P w base spare held n f1.type [v1] = some y1 ∧ DataW.trod enc P w base spare held n f2.type [v2] = some y2 ∧ DataW.trod enc P w base spare held n f3.type [v3] = some y3 ∧ DataW.trod enc P w base spare held n f4.type [v4] = some y4 ∧ DataW.trod enc P w base spare held n f5.type [v5] = some y5 ∧
      DataW.trod enc P w base spare held n f6.type [v6] = some y6 ∧ DataW.trod enc P w base spare held n f7.type [v7] = some y7 := by
  obtain ⟨cs, rfl, hsz⟩ := okWide_struct hs hv
  obtain ⟨l⟩ := cs
  match l, hsz.trans hC with
  | [c0, c1, c2, c3, c4, c5, c6, c7], _ =>
    obtain ⟨fuel, hf⟩ := h
    obtain ⟨xs, n, _, hx, _, hlen, hg⟩ := DataW.trod_struct hs hf
    obtain ⟨o0, k0⟩ := hone_of hone 0 f0 rfl
    obtain ⟨o1, k1⟩ := hone_of hone 1 f1 rfl
    obtain ⟨o2, k2⟩ := hone_of hone 2 f2 rfl
    obtain ⟨o3, k3⟩ := hone_of hone 3 f3 rfl
    obtain ⟨o4, k4⟩ := hone_of hone 4 f4 rfl
    obtain ⟨o5, k5⟩ := hone_of hone 5 f5 rfl
    obtain ⟨o6, k6⟩ := hone_of hone 6 f6 rfl
    obtain ⟨o7, k7⟩ := hone_of hone 7 f7 rfl
    match xs, hlen with
    | [y0, y1, y2, y3, y4, y5, y6, y7], _ =>
      exact ⟨c0, c1, c2, c3, c4, c5, c6, c7, y0, y1, y2, y3, y4, y5, y6, y7, n, rfl, by simpa [Value.cells, o0, k0] using hg 0 f0 rfl, by simpa [Value.cells, o1, k1] using hg 1 f1 rfl, by simpa [Value.cells, o2, k2] using hg 2 f2 rfl, by simpa [Value.cells, o3, k3] using hg 3 f3 rfl, by simpa [Value.cells, o4, k4] using hg 4 f4 rfl, by simpa [Value.cells, o5, k5] using hg 5 f5 rfl,
        by simpa [Value.cells, o6, k6] using hg 6 f6 rfl, by simpa [Value.cells, o7, k7] using hg 7 f7 rfl⟩
end

set_option maxRecDepth 100000 in
theorem conf_in {H : Type} {enc : TypeId × Value → H} {w : World} {r : Reach} {base b0 : Nat} {v : Value} {d : DataW H} {p : List MemPlace}
    (hv : Value.okWide Try.prog w r b0 44 v) (h : DataW.Trod enc Try.prog w base (fun _ => true) true 44 v d p) :
    ∃ (c : Cf) (L : List PV), v = .agg #[.int .u64 c.ad, .int .u16 c.pr, .int .i64 c.ma, .int .i64 c.he, .int .i64 c.de, .int .i64 c.ag, .int .i64 c.tb, .slice c.A c.n c.cap] ∧ CB c ∧ L.length = c.n ∧ (c.A = none → c.cap = 0) ∧ PortsIn w c.A w.heap.size L := by
  obtain ⟨v0, v1, v2, v3, v4, v5, v6, v7, y0, y1, y2, y3, y4, y5, y6, y7, n, rfl, g0, g1, g2, g3, g4, g5, g6, g7⟩ := open_8 Try.underlying44 (by kernel_rfl) Try.cellsConf hv h
  obtain ⟨a0, e0, -, u0⟩ := DataW.trod_int Try.underlying41 g0
  obtain ⟨a1, e1, -, u1⟩ := DataW.trod_int Try.underlying36 g1
  obtain ⟨a2, e2, -, u2⟩ := DataW.trod_int Try.underlying3 g2
  obtain ⟨a3, e3, -, u3⟩ := DataW.trod_int Try.underlying3 g3
  obtain ⟨a4, e4, -, u4⟩ := DataW.trod_int Try.underlying3 g4
  obtain ⟨a5, e5, -, u5⟩ := DataW.trod_int Try.underlying3 g5
  obtain ⟨a6, e6, -, u6⟩ := DataW.trod_int Try.underlying3 g6
  simp at e0 e1 e2 e3 e4 e5 e6
  subst e0 e1 e2 e3 e4 e5 e6
  have b0 := bounds_u64 u0
  have b1 := bounds_u16 u1
  have b2 := bounds_i64 u2
  have b3 := bounds_i64 u3
  have b4 := bounds_i64 u4
  have b5 := bounds_i64 u5
  have b6 := bounds_i64 u6
  rcases open_slice Try.underlying42 g7 with ⟨hcs, _⟩ | ⟨x, l, c, m, n, D, Q, hcs, _, hl, hm, hmm, _, hi⟩
  · simp at hcs
    subst hcs
    exact ⟨⟨a0, a1, a2, a3, a4, a5, a6, none, 0, 0⟩, [], rfl, by unfold CB; dsimp only; omega, rfl, fun _ => rfl, fun k y e => by simp at e⟩
  · simp at hcs
    subst hcs
    have hlm : l ≤ m := by rw [hmm]; split <;> omega
    obtain ⟨L, hL, hP⟩ := cf_list_of (P := fun k (y : PV) => w.cell? (x.add (k * 3)) = some (.int .u8 y.pr) ∧ w.cell? (x.add (k * 3 + 1)) = some (.int .u32 y.co) ∧ w.cell? (x.add (k * 3 + 2)) = some (.bool y.on) ∧ PB y) l (fun i hin => by
        obtain ⟨cs', hc, ht⟩ := hi i (by omega)
        rw [Try.cellsPort] at hc
        obtain ⟨ys, n', _, _, hlen, hyl, hfl⟩ := DataW.trod_struct Try.underlying54 ht
        rw [Try.cellsPort] at hlen
        obtain ⟨_, hcl, hat⟩ := World.cells?_some hc
        match cs', hlen with
        | [c0, c1, c2], _ =>
          have h0 : DataW.trod enc Try.prog w base (fun _ => true) true n' 5 (([c0, c1, c2].drop 0).take (Try.prog.cellsOf 5)) = ys[0]? := hfl 0 _ rfl
          have h1 : DataW.trod enc Try.prog w base (fun _ => true) true n' 24 (([c0, c1, c2].drop 1).take (Try.prog.cellsOf 24)) = ys[1]? := hfl 1 _ rfl
          have h2 : DataW.trod enc Try.prog w base (fun _ => true) true n' 4 (([c0, c1, c2].drop 2).take (Try.prog.cellsOf 4)) = ys[2]? := hfl 2 _ rfl
          rw [Try.cells8] at h0
          rw [Try.cells32] at h1
          rw [Try.cellsB] at h2
          have hy3 : ys.length = 3 := hyl
          have y0 : ys[0]? = some (ys[0]'(by omega)) := List.getElem?_eq_getElem (by omega)
          have y1 : ys[1]? = some (ys[1]'(by omega)) := List.getElem?_eq_getElem (by omega)
          have y2 : ys[2]? = some (ys[2]'(by omega)) := List.getElem?_eq_getElem (by omega)
          rw [y0] at h0
          rw [y1] at h1
          rw [y2] at h2
          obtain ⟨o, e0, _, wo⟩ := DataW.trod_int Try.underlying5 h0
          obtain ⟨u, e1, _, wu⟩ := DataW.trod_int Try.underlying24 h1
          obtain ⟨z, e2, _⟩ := DataW.trod_bool Try.underlying4 h2
          have g0 := hat 0 (by omega)
          have g1 := hat 1 (by omega)
          have g2 := hat 2 (by omega)
          rw [Go.Proofs.Ytkdbhioneoknjaa.add_add] at g0 g1 g2
          have w0 := bounds_u8 wo
          have w1 := bounds_u32 wu
          simp at e0 e1 e2
          subst e0 e1 e2
          exact ⟨⟨o, u, z⟩, g0, g1, g2, by unfold PB; dsimp only; omega⟩)
    refine ⟨⟨a0, a1, a2, a3, a4, a5, a6, some x, l, c⟩, L, rfl, by unfold CB; dsimp only; unfold maxLen at hm; omega, hL, (fun e => by cases e), (fun k y e => ?_)⟩
    obtain ⟨h1, h2, h3, h4⟩ := hP k y e
    have hb := block_lt_of_cell h1
    rw [Go.Proofs.Ytkdbhioneoknjaa.add_block] at hb
    exact ⟨x, rfl, hb, h1, h2, h3, h4⟩

end Go.Proofs.Ytkdbhioneoknjaa
