/- What is wrong with a configuration first: no program. -/
import Derived.Test.YtkdbhioneoknjaaConfFew
import Derived.Test.YtkdbhioneoknjaaIdsRefRight
namespace Go.Proofs.Ytkdbhioneoknjaa
open Go.ChangeShapes Go.WideShapes Go.ChangeAt Go.RowKit
set_option linter.unusedVariables false

/-- A port that may not be. -/
def badB (p : PV) : Bool := !inI p.co 1 65535
def checkI (c : Cf) (L : List PV) : Int :=
  if rightB c.ad = false then 1 else if timesB c = false then 3 else if inI c.ag 10 1000000 = false then 3 else if inI c.tb 0 64 = false then 3 else if c.n = 0 then 8 else if 4 < c.n then 4 else if L.any badB = true then 3 else 0

theorem port_cells {w : World} {a : Option Addr} {B : Nat} {L : List PV} (h : PortsIn w a B L) {k : Nat} {x : PV} (hx : L[k]? = some x) :
    ∃ ad, a = some ad ∧ ad.block < B ∧ (w.cell? (ad.add (k * 3)) = some (.int .u8 x.pr) ∧ w.cell? ⟨(ad.add (k * 3)).block, (ad.add (k * 3)).off + 1, none⟩ = some (.int .u32 x.co) ∧ w.cell? ⟨(ad.add (k * 3)).block, (ad.add (k * 3)).off + 2, none⟩ = some (.bool x.on)) ∧ PB x := by
  obtain ⟨ad, h1, h2, h3, h4, h5, h6⟩ := h k x hx
  refine ⟨ad, h1, h2, ⟨h3, ?_, ?_⟩, h6⟩
  · have e := Go.Proofs.Ytkdbhioneoknjaa.add_add ad (k * 3) 1
    rw [← e] at h4
    exact h4
  · have e := Go.Proofs.Ytkdbhioneoknjaa.add_add ad (k * 3) 2
    rw [← e] at h5
    exact h5

theorem pv_at {L : List PV} {k n : Nat} (hL : L.length = n) (h : k < n) : ∃ x, L[k]? = some x := ⟨L[k]'(by omega), List.getElem?_eq_getElem _⟩

theorem any_step {L : List PV} {k : Nat} {x : PV} (hx : L[k]? = some x) (h : (L.take k).any badB = false) (hb : badB x = false) : (L.take (k + 1)).any badB = false := by
  obtain ⟨hk, e⟩ := List.getElem?_eq_some_iff.mp hx
  rw [List.take_succ_eq_append_getElem hk, List.any_append, h, e]
  simp [hb]
theorem any_hit {L : List PV} {k : Nat} {x : PV} (hx : L[k]? = some x) (hb : badB x = true) : L.any badB = true :=
  List.any_eq_true.mpr ⟨x, List.mem_of_getElem? hx, hb⟩

end Go.Proofs.Ytkdbhioneoknjaa
