/- A telling that came in as an argument; '==' of tellings. -/
import Derived.Test.YtkdbhioneoknjaaRankMath
import Derived.Test.YtkdbhioneoknjaaKit
import Derived.Deep.Slices
import Derived.Deep.Fields
import Derived.ChangeSame
import Derived.Lib.SmallJoins
import Derived.Laws.StructEq
namespace Go.Proofs.Ytkdbhioneoknjaa
open Go.Joins Go.ChangeShapes Go.WideShapes Go.ChangeAt Go.RowKit Go.Deep
set_option linter.unusedVariables false

theorem Try.cellsVector : Try.prog.cellsOf 39 = 4 := by kernel_rfl

/-- '==' of tellings. -/
theorem vec_eq (r c b p r' c' b' p' : Int) (q : Bool) (hq : (((decide (r = r') && decide (c = c')) && decide (b = b')) && decide (p = p')) = q) (w : World) :
    (Op.equalIn 10000 39 (.agg #[.int .u64 r, .int .u32 c, .int .u64 b, .int .u16 p]) (.agg #[.int .u64 r', .int .u32 c', .int .u64 b', .int .u16 p'])).run Try.prog w = .ok q w := by
  rw [show (10000 : Nat) = 9999 + 1 from rfl, run_equalIn_struct w 9999 39 _ _ (by kernel_rfl) (by kernel_rfl)]
  simp only [Program.fieldsOf, Try.underlying39]
  subst hq
  go_simp
  by_cases h1 : r = r' <;> by_cases h2 : c = c' <;> by_cases h3 : b = b' <;> by_cases h4 : p = p' <;> simp [h1, h2, h3, h4]

theorem vec_in {H : Type} {enc : TypeId × Value → H} {w : World} {r : Reach} {base b0 : Nat} {v : Value} {d : DataW H} {p : List MemPlace}
    (hv : Value.okWide Try.prog w r b0 39 v) (h : DataW.Trod enc Try.prog w base (fun _ => true) true 39 v d p) :
    ∃ x : Vec, v = .agg #[.int .u64 x.r, .int .u32 x.c, .int .u64 x.b, .int .u16 x.p] ∧ VB x := by
  obtain ⟨v0, v1, v2, v3, y0, y1, y2, y3, n, rfl, -, -, g0, g1, g2, g3⟩ := open_agg4 Try.underlying39 (by kernel_rfl) Try.cellsVector hv h
  obtain ⟨ro, e0, -, u0⟩ := DataW.trod_int Try.underlying23 g0
  obtain ⟨co, e1, -, u1⟩ := DataW.trod_int Try.underlying24 g1
  obtain ⟨br, e2, -, u2⟩ := DataW.trod_int Try.underlying23 g2
  obtain ⟨po, e3, -, u3⟩ := DataW.trod_int Try.underlying37 g3
  simp at e0 e1 e2 e3
  subst e0 e1 e2 e3
  have b0 := bounds_u64 u0
  have b1 := bounds_u32 u1
  have b2 := bounds_u64 u2
  have b3 := bounds_u16 u3
  exact ⟨⟨ro, co, br, po⟩, rfl, by unfold VB; dsimp only; omega⟩

end Go.Proofs.Ytkdbhioneoknjaa
