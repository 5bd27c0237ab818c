/- A port that came in as an argument. -/
import Derived.Test.YtkdbhioneoknjaaPortMem
import Derived.Test.YtkdbhioneoknjaaVecIn
namespace Go.Proofs.Ytkdbhioneoknjaa
open Go.Joins Go.ChangeShapes Go.WideShapes Go.ChangeAt Go.RowKit Go.Deep
set_option linter.unusedVariables false

/-- The numbers' bounds. -/
def PoB (p : Po) : Prop := (0 ≤ p.id ∧ p.id ≤ 65535) ∧ (-9223372036854775808 ≤ p.st ∧ p.st ≤ 9223372036854775807) ∧ (0 ≤ p.co ∧ p.co ≤ 4294967295) ∧
  ((0 ≤ p.hr ∧ p.hr ≤ 18446744073709551615) ∧ (0 ≤ p.hc ∧ p.hc ≤ 4294967295) ∧ (0 ≤ p.hb ∧ p.hb ≤ 18446744073709551615) ∧ (0 ≤ p.hp ∧ p.hp ≤ 65535)) ∧
  (-9223372036854775808 ≤ p.av ∧ p.av ≤ 9223372036854775807) ∧ (-9223372036854775808 ≤ p.yv ∧ p.yv ≤ 9223372036854775807) ∧ (-9223372036854775808 ≤ p.hv ∧ p.hv ≤ 9223372036854775807)

theorem Try.cellsPo : Try.prog.cellsOf 49 = 15 := by kernel_rfl
theorem Try.cellsTm : Try.prog.cellsOf 28 = 2 := by kernel_rfl
theorem Try.cells1_16 : Try.prog.cellsOf 37 = 1 := by kernel_rfl
theorem Try.cells1_64 : Try.prog.cellsOf 3 = 1 := by kernel_rfl
theorem Try.cells1_32 : Try.prog.cellsOf 24 = 1 := by kernel_rfl
theorem Try.cells1_b : Try.prog.cellsOf 4 = 1 := by kernel_rfl
theorem Try.cells1_id : Try.prog.cellsOf 23 = 1 := by kernel_rfl

section
variable {H : Type} {enc : TypeId × Value → H} {w : World} {base : Nat} {spare : Nat → Bool} {held : Bool}

theorem tm_trod {n : Nat} {c0 c1 : Value} {y : DataW H × List MemPlace} (h : DataW.trod enc Try.prog w base spare held n 28 [c0, c1] = some y) :
    ∃ (o : Bool) (v : Int), c0 = .bool o ∧ c1 = .int .i64 v ∧ -9223372036854775808 ≤ v ∧ v ≤ 9223372036854775807 := by
  obtain ⟨ys, n', _, _, hlen, hyl, hfl⟩ := DataW.trod_struct Try.underlying28 h
  have h0 : DataW.trod enc Try.prog w base spare held n' 4 (([c0, c1].drop 0).take (Try.prog.cellsOf 4)) = ys[0]? := hfl 0 _ rfl
  have h1 : DataW.trod enc Try.prog w base spare held n' 3 (([c0, c1].drop 1).take (Try.prog.cellsOf 3)) = ys[1]? := hfl 1 _ rfl
  rw [Try.cells1_b] at h0
  rw [Try.cells1_64] at h1
  have hy2 : ys.length = 2 := hyl
  have y0 : ys[0]? = some (ys[0]'(by omega)) := List.getElem?_eq_getElem (by omega)
  have y1 : ys[1]? = some (ys[1]'(by omega)) := List.getElem?_eq_getElem (by omega)
  rw [y0] at h0
  rw [y1] at h1
  obtain ⟨o, e0, _⟩ := DataW.trod_bool Try.underlying4 h0
  obtain ⟨v, e1, _, w1⟩ := DataW.trod_int Try.underlying3 h1
  simp at e0 e1
  subst e0 e1
  have := bounds_i64 w1
  exact ⟨o, v, rfl, rfl, by omega, by omega⟩

theorem vec_trod {n : Nat} {c0 c1 c2 c3 : Value} {y : DataW H × List MemPlace} (h : DataW.trod enc Try.prog w base spare held n 39 [c0, c1, c2, c3] = some y) :
    ∃ (r c b p : Int), c0 = .int .u64 r ∧ c1 = .int .u32 c ∧ c2 = .int .u64 b ∧ c3 = .int .u16 p ∧ (0 ≤ r ∧ r ≤ 18446744073709551615) ∧ (0 ≤ c ∧ c ≤ 4294967295) ∧ (0 ≤ b ∧ b ≤ 18446744073709551615) ∧ (0 ≤ p ∧ p ≤ 65535) := by
  obtain ⟨ys, n', _, _, hlen, hyl, hfl⟩ := DataW.trod_struct Try.underlying39 h
  have h0 : DataW.trod enc Try.prog w base spare held n' 23 (([c0, c1, c2, c3].drop 0).take (Try.prog.cellsOf 23)) = ys[0]? := hfl 0 _ rfl
  have h1 : DataW.trod enc Try.prog w base spare held n' 24 (([c0, c1, c2, c3].drop 1).take (Try.prog.cellsOf 24)) = ys[1]? := hfl 1 _ rfl
  have h2 : DataW.trod enc Try.prog w base spare held n' 23 (([c0, c1, c2, c3].drop 2).take (Try.prog.cellsOf 23)) = ys[2]? := hfl 2 _ rfl
  have h3 : DataW.trod enc Try.prog w base spare held n' 37 (([c0, c1, c2, c3].drop 3).take (Try.prog.cellsOf 37)) = ys[3]? := hfl 3 _ rfl
  rw [Try.cells1_id] at h0 h2
  rw [Try.cells1_32] at h1
  rw [Try.cells1_16] at h3
  have hy4 : ys.length = 4 := hyl
  have y0 : ys[0]? = some (ys[0]'(by omega)) := List.getElem?_eq_getElem (by omega)
  have y1 : ys[1]? = some (ys[1]'(by omega)) := List.getElem?_eq_getElem (by omega)
  have y2 : ys[2]? = some (ys[2]'(by omega)) := List.getElem?_eq_getElem (by omega)
  have y3 : ys[3]? = some (ys[3]'(by omega)) := List.getElem?_eq_getElem (by omega)
  rw [y0] at h0
  rw [y1] at h1
  rw [y2] at h2
  rw [y3] at h3
  obtain ⟨r, e0, _, w0⟩ := DataW.trod_int Try.underlying23 h0
  obtain ⟨c, e1, _, w1⟩ := DataW.trod_int Try.underlying24 h1
  obtain ⟨b, e2, _, w2⟩ := DataW.trod_int Try.underlying23 h2
  obtain ⟨p, e3, _, w3⟩ := DataW.trod_int Try.underlying37 h3
  simp at e0 e1 e2 e3
  subst e0 e1 e2 e3
  have := bounds_u64 w0
  have := bounds_u32 w1
  have := bounds_u64 w2
  have := bounds_u16 w3
  exact ⟨r, c, b, p, rfl, rfl, rfl, rfl, by omega, by omega, by omega, by omega⟩

/-- The cells of a port, read. -/
theorem po_trod {n : Nat} {c0 c1 c2 c3 c4 c5 c6 c7 c8 c9 c10 c11 c12 c13 c14 : Value} {y : DataW H × List MemPlace} (h : DataW.trod enc Try.prog w base spare held n 49 [c0, c1, c2, c3, c4, c5, c6, c7, c8, c9, c10, c11, c12, c13, c14] = some y) :
    ∃ x : Po, [c0, c1, c2, c3, c4, c5, c6, c7, c8, c9, c10, c11, c12, c13, c14] = [.int .u16 x.id, .int .i64 x.st, .int .u32 x.co, .int .u64 x.hr, .int .u32 x.hc, .int .u64 x.hb, .int .u16 x.hp, .bool x.ak, .bool x.pe, .bool x.ao, .int .i64 x.av, .bool x.yo, .int .i64 x.yv, .bool x.ho, .int .i64 x.hv] ∧ PoB x := by
  obtain ⟨ys, n', _, _, hlen, hyl, hfl⟩ := DataW.trod_struct Try.underlying49 h
  have h0 : DataW.trod enc Try.prog w base spare held n' 37 (([c0, c1, c2, c3, c4, c5, c6, c7, c8, c9, c10, c11, c12, c13, c14].drop 0).take (Try.prog.cellsOf 37)) = ys[0]? := hfl 0 _ rfl
  have h1 : DataW.trod enc Try.prog w base spare held n' 3 (([c0, c1, c2, c3, c4, c5, c6, c7, c8, c9, c10, c11, c12, c13, c14].drop 1).take (Try.prog.cellsOf 3)) = ys[1]? := hfl 1 _ rfl
  have h2 : DataW.trod enc Try.prog w base spare held n' 24 (([c0, c1, c2, c3, c4, c5, c6, c7, c8, c9, c10, c11, c12, c13, c14].drop 2).take (Try.prog.cellsOf 24)) = ys[2]? := hfl 2 _ rfl
  have h3 : DataW.trod enc Try.prog w base spare held n' 39 (([c0, c1, c2, c3, c4, c5, c6, c7, c8, c9, c10, c11, c12, c13, c14].drop 3).take (Try.prog.cellsOf 39)) = ys[3]? := hfl 3 _ rfl
  have h4 : DataW.trod enc Try.prog w base spare held n' 4 (([c0, c1, c2, c3, c4, c5, c6, c7, c8, c9, c10, c11, c12, c13, c14].drop 7).take (Try.prog.cellsOf 4)) = ys[4]? := hfl 4 _ rfl
  have h5 : DataW.trod enc Try.prog w base spare held n' 4 (([c0, c1, c2, c3, c4, c5, c6, c7, c8, c9, c10, c11, c12, c13, c14].drop 8).take (Try.prog.cellsOf 4)) = ys[5]? := hfl 5 _ rfl
  have h6 : DataW.trod enc Try.prog w base spare held n' 28 (([c0, c1, c2, c3, c4, c5, c6, c7, c8, c9, c10, c11, c12, c13, c14].drop 9).take (Try.prog.cellsOf 28)) = ys[6]? := hfl 6 _ rfl
  have h7 : DataW.trod enc Try.prog w base spare held n' 28 (([c0, c1, c2, c3, c4, c5, c6, c7, c8, c9, c10, c11, c12, c13, c14].drop 11).take (Try.prog.cellsOf 28)) = ys[7]? := hfl 7 _ rfl
  have h8 : DataW.trod enc Try.prog w base spare held n' 28 (([c0, c1, c2, c3, c4, c5, c6, c7, c8, c9, c10, c11, c12, c13, c14].drop 13).take (Try.prog.cellsOf 28)) = ys[8]? := hfl 8 _ rfl
  rw [Try.cells1_16] at h0
  rw [Try.cells1_64] at h1
  rw [Try.cells1_32] at h2
  rw [Try.cellsVector] at h3
  rw [Try.cells1_b] at h4 h5
  rw [Try.cellsTm] at h6 h7 h8
  have hy : ys.length = 9 := hyl
  have y0 : ys[0]? = some (ys[0]'(by omega)) := List.getElem?_eq_getElem (by omega)
  have y1 : ys[1]? = some (ys[1]'(by omega)) := List.getElem?_eq_getElem (by omega)
  have y2 : ys[2]? = some (ys[2]'(by omega)) := List.getElem?_eq_getElem (by omega)
  have y3 : ys[3]? = some (ys[3]'(by omega)) := List.getElem?_eq_getElem (by omega)
  have y4 : ys[4]? = some (ys[4]'(by omega)) := List.getElem?_eq_getElem (by omega)
  have y5 : ys[5]? = some (ys[5]'(by omega)) := List.getElem?_eq_getElem (by omega)
  have y6 : ys[6]? = some (ys[6]'(by omega)) := List.getElem?_eq_getElem (by omega)
  have y7 : ys[7]? = some (ys[7]'(by omega)) := List.getElem?_eq_getElem (by omega)
  have y8 : ys[8]? = some (ys[8]'(by omega)) := List.getElem?_eq_getElem (by omega)
  rw [y0] at h0
  rw [y1] at h1
  rw [y2] at h2
  rw [y3] at h3
  rw [y4] at h4
  rw [y5] at h5
  rw [y6] at h6
  rw [y7] at h7
  rw [y8] at h8
  obtain ⟨id, e0, _, w0⟩ := DataW.trod_int Try.underlying37 h0
  obtain ⟨st, e1, _, w1⟩ := DataW.trod_int Try.underlying3 h1
  obtain ⟨co, e2, _, w2⟩ := DataW.trod_int Try.underlying24 h2
  obtain ⟨hr, hc, hb, hp, e3, e3b, e3c, e3d, q0, q1, q2, q3⟩ := vec_trod h3
  obtain ⟨ak, e4, _⟩ := DataW.trod_bool Try.underlying4 h4
  obtain ⟨pe, e5, _⟩ := DataW.trod_bool Try.underlying4 h5
  obtain ⟨ao, av, e6, e6b, u0, u1⟩ := tm_trod h6
  obtain ⟨yo, yv, e7, e7b, u2, u3⟩ := tm_trod h7
  obtain ⟨ho, hv, e8, e8b, u4, u5⟩ := tm_trod h8
  simp at e0 e1 e2 e4 e5
  subst e0 e1 e2 e3 e3b e3c e3d e4 e5 e6 e6b e7 e7b e8 e8b
  have := bounds_u16 w0
  have := bounds_i64 w1
  have := bounds_u32 w2
  exact ⟨⟨id, st, co, hr, hc, hb, hp, ak, pe, ao, av, yo, yv, ho, hv⟩, rfl, by unfold PoB; dsimp only; omega⟩
end

theorem po_in {H : Type} {enc : TypeId × Value → H} {w : World} {r : Reach} {base b0 : Nat} {v : Value} {d : DataW H} {p : List MemPlace}
    (hv : Value.okWide Try.prog w r b0 49 v) (h : DataW.Trod enc Try.prog w base (fun _ => true) true 49 v d p) :
    ∃ x : Po, v = .agg #[.int .u16 x.id, .int .i64 x.st, .int .u32 x.co, .int .u64 x.hr, .int .u32 x.hc, .int .u64 x.hb, .int .u16 x.hp, .bool x.ak, .bool x.pe, .bool x.ao, .int .i64 x.av, .bool x.yo, .int .i64 x.yv, .bool x.ho, .int .i64 x.hv] ∧ PoB x := by
  obtain ⟨cs, rfl, hsz⟩ := okWide_struct Try.underlying49 hv
  obtain ⟨l⟩ := cs
  match l, hsz.trans Try.cellsPo with
  | [c0, c1, c2, c3, c4, c5, c6, c7, c8, c9, c10, c11, c12, c13, c14], _ =>
    obtain ⟨fuel, hf⟩ := h
    obtain ⟨x, e, hb⟩ := po_trod hf
    exact ⟨x, by rw [e], hb⟩

end Go.Proofs.Ytkdbhioneoknjaa
