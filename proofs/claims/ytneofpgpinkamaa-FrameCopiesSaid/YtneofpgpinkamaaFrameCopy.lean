/- Copy: a frame like it, its data in memory of the call's own. -/
import Derived.Test.YtneofpgpinkamaaFrameClone
import Derived.Test.YtneofpgpinkamaaFrameSame
namespace Go.Proofs.Ytneofpgpinkamaa
open Go.ChangeShapes Go.WideShapes Go.ChangeAt Go.RowKit
set_option linter.unusedVariables false

def CopyEnd (t f k : Int) (l : List UInt8) (n : Nat) (w : World) (e : Ending) (w' : World) : Prop :=
  ∃ D cap, e = .returned (.agg #[.int .u64 t, .int .u64 f, .int .u16 k, .slice D n cap]) ∧ OwnD w' w.heap.size D cap l ∧ n ≤ cap ∧ cap ≤ 9223372036854775807 ∧ Below w.heap.size w w'

theorem OwnD.set {w : World} {base : Nat} {D : Option Addr} {cap : Nat} {l : List UInt8} (h : OwnD w base D cap l) {p : Addr} (hp : p.block < base) (u : Value) : OwnD (w.setCell p u) base D cap l := by
  intro hl
  obtain ⟨g, rfl, hg, sp, h1, h2, h3⟩ := h hl
  exact ⟨g, rfl, hg, sp, h1, h2, h3.far (by omega) u⟩

theorem OwnD.lower {w : World} {base base' : Nat} {D : Option Addr} {cap : Nat} {l : List UInt8} (h : OwnD w base D cap l) (hb : base' ≤ base) : OwnD w base' D cap l := by
  intro hl
  obtain ⟨g, rfl, hg, hrow⟩ := h hl
  exact ⟨g, rfl, by omega, hrow⟩

theorem copy_any (t f k : Int) (A : Option Addr) (n c : Nat) (l : List UInt8) (hl : Hid (l.length = n)) (hnc : Hid (A = none → c = 0)) (hn : n ≤ 10000) (w : World) (hr : RB w A 0 w.heap.size l) :
    Calls Try.prog 17 #[.agg #[.int .u64 t, .int .u64 f, .int .u16 k, .slice A n c]] w (CopyEnd t f k l n w) := by
  go_enter Try.func17, Try.ntmps17
  go_wp2_with fail
  obtain ⟨w0, hB0, hb0, hs0, hw0⟩ := boxed w t f k A n c
  rw [← hw0]
  have hsz0 : w0.heap.size = w.heap.size + 1 := by rw [hw0]; simp
  obtain ⟨w1, hC1, hb1, hs1, hw1⟩ := boxed w0 0 0 0 none 0 0
  rw [← hw1]
  have hsz1 : w1.heap.size = w0.heap.size + 1 := by rw [hw1]; simp
  clear hw0 hw1
  have hB1 := hB0.below hb1 hs0
  have hbw1 := below_two hb0 hb1 hb0.size
  have hr1 := (hr.below hbw1 (Nat.le_refl _)).wide (Nat.le_refl 0) hbw1.size
  have hs1' : w.heap.size < w1.heap.size := by omega
  rw [hsz0] at hC1 hs1 hsz1
  have HS1 := Lib.hid hsz1
  clear hsz0 hsz1
  (with_reducible refine (clone_any A n c l hl hnc hn _ hr1).mono ?_); rintro e w2 ⟨D, cap, rfl, hD, hc1, hc2, hb2⟩
  have hB2 := hB1.below hb2 hs1'
  have hC2 := hC1.below hb2 hs1
  have hbw2 := below_two hbw1 hb2 hbw1.size
  obtain ⟨c0, c1, c2, c3⟩ := hB2.cells
  obtain ⟨f0, f1, f2, f3⟩ := hB2.thaws
  obtain ⟨e0, e1, e2, e3⟩ := hC2.cells
  obtain ⟨z0, z1, z2, z3⟩ := hC2.thaws
  clear hB0 hb0 hB1 hbw1 hC1 hb1 hr1
  go_wp2
  refine bodyPost_ret (v := .agg #[.int .u64 t, .int .u64 f, .int .u16 k, .slice D n cap]) (by simp [results, Try.results17, go_sem, e0, e1, e2, e3]) rfl ⟨D, cap, rfl, ?_, hc1, hc2, ?_⟩
  · have q : w.heap.size + 1 < w1.heap.size := hs1
    exact ((((((hD.set (p := ⟨w.heap.size, 3, none⟩) (by show w.heap.size < _; omega) _).set (p := ⟨w.heap.size + 1, 0, none⟩) q _).set (p := ⟨w.heap.size + 1, 1, none⟩) q _).set (p := ⟨w.heap.size + 1, 2, none⟩) q _).set (p := ⟨w.heap.size + 1, 3, none⟩) q _).lower (by omega))
  · exact ((((hbw2.setCell (Nat.le_refl _) _).setCell (Nat.le_succ _) _).setCell (Nat.le_succ _) _).setCell (Nat.le_succ _) _).setCell (Nat.le_succ _) _

end Go.Proofs.Ytneofpgpinkamaa
