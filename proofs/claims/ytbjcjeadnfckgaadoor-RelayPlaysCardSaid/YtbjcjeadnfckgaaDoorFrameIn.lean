/- A frame that came in as an argument: its four fields. -/
import Derived.Test.YtbjcjeadnfckgaaDoorFrameBase
import Derived.Test.YtbjcjeadnfckgaaDoorBytesArg
import Derived.Lib.SmallJoins
namespace Go.Proofs.YtbjcjeadnfckgaaDoor
set_option maxRecDepth 100000
open Go.Joins Go.ChangeShapes Go.WideShapes Go.ChangeAt Go.RowKit Go.Deep
set_option linter.unusedVariables false

theorem Tryd.cellsFrame : Tryd.prog.cellsOf 27 = 4 := by kernel_rfl

theorem frame_in {H : Type} {enc : TypeId × Value → H} {w : World} {r : Reach} {base b0 : Nat} {v : Value} {d : DataW H} {p : List MemPlace}
    (hv : Value.okWide Tryd.prog w r b0 27 v) (h : DataW.Trod enc Tryd.prog w base (fun _ => true) true 27 v d p) :
    ∃ t f k a len cap z, v = .agg #[.int .u64 t, .int .u64 f, .int .u16 k, .slice a len cap] ∧ FrIn w t f k a len cap z := by
  obtain ⟨v0, v1, v2, v3, y0, y1, y2, y3, n, rfl, rfl, rfl, g0, g1, g2, g3⟩ := open_agg4 Tryd.underlying27 (by kernel_rfl) Tryd.cellsFrame hv h
  obtain ⟨t, e0, -, u0⟩ := DataW.trod_int Tryd.underlying23 g0
  obtain ⟨f, e1, -, u1⟩ := DataW.trod_int Tryd.underlying23 g1
  obtain ⟨k, e2, -, u2⟩ := DataW.trod_int Tryd.underlying24 g2
  simp at e0 e1 e2
  subst e0 e1 e2
  obtain ⟨b00, b01⟩ := bounds_u64 u0
  obtain ⟨b10, b11⟩ := bounds_u64 u1
  obtain ⟨b20, b21⟩ := bounds_u16 u2
  rcases open_ints Tryd.underlying25 Tryd.underlying5 (by kernel_rfl) g3 with ⟨hcs, _⟩ | ⟨x, l, c, zs, hcs, _, hl, hm, hz, _, hcell, hwz⟩
  · simp at hcs
    subst hcs
    exact ⟨t, f, k, none, 0, 0, [], rfl, b00, by omega, b10, by omega, b20, by omega, .inl ⟨rfl, rfl, rfl, rfl⟩⟩
  · simp at hcs
    subst hcs
    exact ⟨t, f, k, some x, l, c, zs, rfl, b00, by omega, b10, by omega, b20, by omega, .inr ⟨_, rfl, hl, hm, by simpa using hz, hcell, hwz⟩⟩

end Go.Proofs.YtbjcjeadnfckgaaDoor
