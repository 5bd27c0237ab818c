/- A telling, and a Bpdu, that came in as an argument; '==' of tellings. -/
import Derived.Test.YtimldigjjbiemaaRankApi
import Derived.Lib.SmallJoins
import Derived.Laws.StructEq
namespace Go.Proofs.Ytimldigjjbiemaa
open Go.Joins Go.ChangeShapes Go.WideShapes Go.ChangeAt Go.RowKit Go.Deep
set_option linter.unusedVariables false

theorem Try.cellsVector : Try.prog.cellsOf 28 = 4 := by kernel_rfl
theorem Try.cellsBpdu : Try.prog.cellsOf 44 = 11 := by kernel_rfl

/-- '==' of tellings. -/
theorem vec_eq (r c b p r' c' b' p' : Int) (q : Bool) (hq : (((decide (r = r') && decide (c = c')) && decide (b = b')) && decide (p = p')) = q) (w : World) :
    (Op.equalIn 10000 28 (.agg #[.int .u64 r, .int .u32 c, .int .u64 b, .int .u16 p]) (.agg #[.int .u64 r', .int .u32 c', .int .u64 b', .int .u16 p'])).run Try.prog w = .ok q w := by
  rw [show (10000 : Nat) = 9999 + 1 from rfl, run_equalIn_struct w 9999 28 _ _ (by kernel_rfl) (by kernel_rfl)]
  simp only [Program.fieldsOf, Try.underlying28]
  subst hq
  go_simp
  by_cases h1 : r = r' <;> by_cases h2 : c = c' <;> by_cases h3 : b = b' <;> by_cases h4 : p = p' <;> simp [h1, h2, h3, h4]

theorem vec_in {H : Type} {enc : TypeId × Value → H} {w : World} {r : Reach} {base b0 : Nat} {v : Value} {d : DataW H} {p : List MemPlace}
    (hv : Value.okWide Try.prog w r b0 28 v) (h : DataW.Trod enc Try.prog w base (fun _ => true) true 28 v d p) :
    ∃ x : Vec, v = .agg #[.int .u64 x.r, .int .u32 x.c, .int .u64 x.b, .int .u16 x.p] ∧ VB x := by
  obtain ⟨v0, v1, v2, v3, y0, y1, y2, y3, n, rfl, -, -, g0, g1, g2, g3⟩ := open_agg4 Try.underlying28 (by kernel_rfl) Try.cellsVector hv h
  obtain ⟨ro, e0, -, u0⟩ := DataW.trod_int Try.underlying23 g0
  obtain ⟨co, e1, -, u1⟩ := DataW.trod_int Try.underlying24 g1
  obtain ⟨br, e2, -, u2⟩ := DataW.trod_int Try.underlying23 g2
  obtain ⟨po, e3, -, u3⟩ := DataW.trod_int Try.underlying26 g3
  simp at e0 e1 e2 e3
  subst e0 e1 e2 e3
  have b0 := bounds_u64 u0
  have b1 := bounds_u32 u1
  have b2 := bounds_u64 u2
  have b3 := bounds_u16 u3
  exact ⟨⟨ro, co, br, po⟩, rfl, by unfold VB; dsimp only; omega⟩

section
variable {H : Type} {enc : TypeId × Value → H} {P : Program} {w : World} {base : Nat} {spare : Nat → Bool} {held : Bool}
theorem open_11 {r : Reach} {b0 : Nat} {t : TypeId} {f0 f1 f2 f3 f4 f5 f6 f7 f8 f9 f10 : Field} {v : Value} {d : DataW H} {p : List MemPlace} (hs : P.underlying t = some (.struct #[f0, f1, f2, f3, f4, f5, f6, f7, f8, f9, f10])) (hone : oneCellFields P #[f0, f1, f2, f3, f4, f5, f6, f7, f8, f9, f10] = true) (hC : P.cellsOf t = 11)
    (hv : Value.okWide P w r b0 t v) (h : DataW.Trod enc P w base spare held t v d p) :
    ∃ (v0 v1 v2 v3 v4 v5 v6 v7 v8 v9 v10 : Value) (y0 y1 y2 y3 y4 y5 y6 y7 y8 y9 y10 : DataW H × List MemPlace) (n : Nat), v = .agg #[v0, v1, v2, v3, v4, v5, v6, v7, v8, v9, v10] ∧
      DataW.trod enc P w base spare held n f0.type [v0] = some y0 ∧ DataW.trod enc P w base spare held n f1.type [v1] = some y1 ∧ DataW.trod enc P w base spare held n f2.type [v2] = some y2 ∧ DataW.trod enc P w base spare held n f3.type [v3] = some y3 ∧ DataW.trod enc P w base spare held n f4.type [v4] = some y4 ∧ DataW.trod enc P w base spare held n f5.type [v5] = some y5 ∧
      DataW.trod enc P w base spare held n f6.type [v6] = some y6 ∧ DataW.trod enc P w base spare held n f7.type [v7] = some y7 ∧ DataW.trod enc P w base spare held n f8.type [v8] = some y8 ∧ DataW.trod enc P w base spare held n f9.type [v9] = some y9 ∧ DataW.trod enc P w base spare held n f10.type [v10] = some y10 := by
  obtain ⟨cs, rfl, hsz⟩ := okWide_struct hs hv
  obtain ⟨l⟩ := cs
  match l, hsz.trans hC with
  | [c0, c1, c2, c3, c4, c5, c6, c7, c8, c9, c10], _ =>
    obtain ⟨fuel, hf⟩ := h
    obtain ⟨xs, n, _, hx, _, hlen, hg⟩ := DataW.trod_struct hs hf
    obtain ⟨o0, k0⟩ := hone_of hone 0 f0 rfl
    obtain ⟨o1, k1⟩ := hone_of hone 1 f1 rfl
    obtain ⟨o2, k2⟩ := hone_of hone 2 f2 rfl
    obtain ⟨o3, k3⟩ := hone_of hone 3 f3 rfl
    obtain ⟨o4, k4⟩ := hone_of hone 4 f4 rfl
    obtain ⟨o5, k5⟩ := hone_of hone 5 f5 rfl
    obtain ⟨o6, k6⟩ := hone_of hone 6 f6 rfl
    obtain ⟨o7, k7⟩ := hone_of hone 7 f7 rfl
    obtain ⟨o8, k8⟩ := hone_of hone 8 f8 rfl
    obtain ⟨o9, k9⟩ := hone_of hone 9 f9 rfl
    obtain ⟨o10, k10⟩ := hone_of hone 10 f10 rfl
    match xs, hlen with
    | [y0, y1, y2, y3, y4, y5, y6, y7, y8, y9, y10], _ =>
      exact ⟨c0, c1, c2, c3, c4, c5, c6, c7, c8, c9, c10, y0, y1, y2, y3, y4, y5, y6, y7, y8, y9, y10, n, rfl, by simpa [Value.cells, o0, k0] using hg 0 f0 rfl, by simpa [Value.cells, o1, k1] using hg 1 f1 rfl, by simpa [Value.cells, o2, k2] using hg 2 f2 rfl, by simpa [Value.cells, o3, k3] using hg 3 f3 rfl, by simpa [Value.cells, o4, k4] using hg 4 f4 rfl, by simpa [Value.cells, o5, k5] using hg 5 f5 rfl,
        by simpa [Value.cells, o6, k6] using hg 6 f6 rfl, by simpa [Value.cells, o7, k7] using hg 7 f7 rfl, by simpa [Value.cells, o8, k8] using hg 8 f8 rfl, by simpa [Value.cells, o9, k9] using hg 9 f9 rfl, by simpa [Value.cells, o10, k10] using hg 10 f10 rfl⟩
end

theorem bpdu_any {H : Type} {enc : TypeId × Value → H} {w : World} {r : Reach} {base b0 : Nat} {v : Value} {d : DataW H} {p : List MemPlace}
    (hv : Value.okWide Try.prog w r b0 44 v) (h : DataW.Trod enc Try.prog w base (fun _ => true) true 44 v d p) :
    ∃ tc ch ak ro co br po ag ma he de, v = .agg #[.bool tc, .bool ch, .bool ak, .int .u64 ro, .int .u32 co, .int .u64 br, .int .u16 po, .int .u16 ag, .int .u16 ma, .int .u16 he, .int .u16 de] := by
  obtain ⟨v0, v1, v2, v3, v4, v5, v6, v7, v8, v9, v10, y0, y1, y2, y3, y4, y5, y6, y7, y8, y9, y10, n, rfl, g0, g1, g2, g3, g4, g5, g6, g7, g8, g9, g10⟩ := open_11 Try.underlying44 (by kernel_rfl) Try.cellsBpdu hv h
  obtain ⟨tc, e0, -⟩ := DataW.trod_bool Try.underlying4 g0
  obtain ⟨ch, e1, -⟩ := DataW.trod_bool Try.underlying4 g1
  obtain ⟨ak, e2, -⟩ := DataW.trod_bool Try.underlying4 g2
  obtain ⟨ro, e3, -, -⟩ := DataW.trod_int Try.underlying23 g3
  obtain ⟨co, e4, -, -⟩ := DataW.trod_int Try.underlying24 g4
  obtain ⟨br, e5, -, -⟩ := DataW.trod_int Try.underlying23 g5
  obtain ⟨po, e6, -, -⟩ := DataW.trod_int Try.underlying26 g6
  obtain ⟨ag, e7, -, -⟩ := DataW.trod_int Try.underlying25 g7
  obtain ⟨ma, e8, -, -⟩ := DataW.trod_int Try.underlying25 g8
  obtain ⟨he, e9, -, -⟩ := DataW.trod_int Try.underlying25 g9
  obtain ⟨de, e10, -, -⟩ := DataW.trod_int Try.underlying25 g10
  simp at e0 e1 e2 e3 e4 e5 e6 e7 e8 e9 e10
  subst e0 e1 e2 e3 e4 e5 e6 e7 e8 e9 e10
  exact ⟨tc, ch, ak, ro, co, br, po, ag, ma, he, de, rfl⟩

end Go.Proofs.Ytimldigjjbiemaa
