/- Clone: the same bytes, in memory of the call's own, or nil. -/
import Derived.Test.YtbjcjeadnfckgaaDoorFrameBase
namespace Go.Proofs.YtbjcjeadnfckgaaDoor
set_option maxRecDepth 100000
open Go.ChangeShapes Go.WideShapes Go.ChangeAt Go.RowKit
set_option linter.unusedVariables false

/-- A slice of the call's own that holds the bytes 'l': where there are any, they lie in a block from 'base' on. -/
def OwnD (w : World) (base : Nat) (D : Option Addr) (cap : Nat) (l : List UInt8) : Prop := 0 < l.length → ∃ g, D = some ⟨g, 0, none⟩ ∧ base ≤ g ∧ Row w g cap l

theorem OwnD.rb {w : World} {base : Nat} {D : Option Addr} {cap : Nat} {l : List UInt8} (h : OwnD w base D cap l) : RB w D base w.heap.size l := by
  intro hl
  obtain ⟨g, rfl, hg, hrow⟩ := h hl
  exact hrow.rb base w.heap.size hg hrow.lt hl

theorem Row.below {w w' : World} {g cap B : Nat} {l : List UInt8} (h : Row w g cap l) (hb : Below B w w') (hg : g < B) : Row w' g cap l := by
  obtain ⟨sp, h1, h2, h3⟩ := h
  exact ⟨sp, h1, h2, h3.below hb hg⟩

theorem OwnD.below {w w' : World} {base B : Nat} {D : Option Addr} {cap : Nat} {l : List UInt8} (h : OwnD w base D cap l) (hb : Below B w w') (hB : w.heap.size ≤ B) : OwnD w' base D cap l := by
  intro hl
  obtain ⟨g, rfl, hg, hrow⟩ := h hl
  exact ⟨g, rfl, hg, hrow.below hb (Nat.lt_of_lt_of_le hrow.lt hB)⟩

def CloneEnd (l : List UInt8) (n : Nat) (w : World) (e : Ending) (w' : World) : Prop :=
  ∃ D cap, e = .returned (.slice D n cap) ∧ OwnD w' w.heap.size D cap l ∧ n ≤ cap ∧ cap ≤ 9223372036854775807 ∧ Below w.heap.size w w'

theorem own_cap {w : World} {base e n g cap : Nat} {xs : List Value} (h : w.ownsRow base e 1 (.slice (some ⟨g, 0, none⟩) n cap) n xs) : n ≤ cap ∧ cap ≤ maxLen := by
  rcases h.2 with ⟨h2, _⟩ | ⟨g', cap', cur, hv, hb, hh, hn, hm, _⟩
  · cases h2
  · injection hv with e1 _ e3
    subst e3
    exact ⟨hn, hm⟩

theorem clone_any (A : Option Addr) (n c : Nat) (l : List UInt8) (hl : Hid (l.length = n)) (hnc : Hid (A = none → c = 0)) (hn : n ≤ 10000) (w : World) (hr : RB w A 0 w.heap.size l) :
    Calls Tryd.prog 26 #[.slice A n c] w (CloneEnd l n w) := by
  cases A with
  | none =>
    have h0 : l = [] := by
      rcases Nat.eq_zero_or_pos l.length with e | e
      · exact List.eq_nil_of_length_eq_zero e
      · obtain ⟨_, e, _⟩ := hr e; cases e
    subst h0
    have hn0 := hl.out
    subst hn0
    have hc0 := hnc.out rfl
    subst hc0
    have he : ∀ w : World, (binOp .eql 25 (.slice none 0 0) (.slice none 0 0)).run Tryd.prog w = .ok (.bool true) w := fun _ => rfl
    go_enter Tryd.func26, Tryd.ntmps26
    go_wp2
    go_ret
    exact ⟨none, 0, rfl, fun h => absurd h (by simp), Nat.le_refl _, by omega, Below.refl _ _⟩
  | some ad =>
    have he : ∀ w : World, (binOp .eql 25 (.slice (some ad) n c) (.slice none 0 0)).run Tryd.prog w = .ok (.bool false) w := fun _ => rfl
    go_enter Tryd.func26, Tryd.ntmps26
    go_wp2_with (at_builtin; refine append_bytes _ rfl (.tmp 5) (.tmp 6) rfl w.heap.size w.heap.size 0 0 [] rfl (owns_empty w 5) (some ad) n c 0 w.heap.size l rfl (hr.below (below_new (Nat.le_refl _)) (Nat.le_refl _)) hl (fun e => by cases e) (by omega) (by simp) w.heap.size w (below_new (Nat.le_refl _)) (Nat.le_refl _) ?_; intro g1 cap1 w1 hown1 hb1 hsz1; simp only [Nat.zero_add, List.nil_append] at hown1)
    obtain ⟨hrow, hg, _⟩ := Row.of_own hown1
    obtain ⟨q1, q2⟩ := own_cap hown1
    unfold maxLen at q2
    go_ret
    exact ⟨_, cap1, rfl, fun _ => ⟨g1, rfl, hg, hrow⟩, q1, by omega, hb1⟩

end Go.Proofs.YtbjcjeadnfckgaaDoor
