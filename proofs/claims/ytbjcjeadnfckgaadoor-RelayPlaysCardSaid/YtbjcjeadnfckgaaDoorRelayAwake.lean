/- awake of stage 18: the document's example. -/
import Derived.Test.YtbjcjeadnfckgaaDoorRelayPorts
namespace Go.Proofs.YtbjcjeadnfckgaaDoor
set_option maxRecDepth 100000
open Go.ChangeShapes Go.WideShapes Go.ChangeAt Go.RowKit
set_option linter.unusedVariables false
set_option linter.unusedSimpArgs false

theorem IntsR.cell {w : World} {base n cap : Nat} {A : Option Addr} {I : List Nat} (h : IntsR w base (.slice A n cap) I) {k x : Nat} (hk : I[k]? = some x) : ∃ g, A = some ⟨g, 0, none⟩ ∧ base ≤ g ∧ w.cell? ⟨g, k, none⟩ = some (.int .i64 x) := by
  obtain ⟨g, h1, h2, -, h3⟩ := OwnL.at h encNi_len hk
  have := h3 0 (by decide)
  simp at this
  exact ⟨g, h1, h2, this⟩

theorem IntsIn.wideI {w W : World} {A : Option Addr} {U : List Int} (h : IntsIn w A w.heap.size U) (b : Below w.heap.size w W) : IntsIn W A W.heap.size U := fun k u e => by
  obtain ⟨ad, h1, h2, h3, h4⟩ := h.below b k u e
  exact ⟨ad, h1, Nat.lt_of_lt_of_le h2 b.size, h3, h4⟩

theorem awake18_is (w : World) (hd : Hd w) : Calls Tryd.prog 7 #[] w fun e w' => e = .returned (.bool true) ∧ Below w.heap.size w w' := by
  obtain ⟨w1, hw1⟩ : ∃ w1, w.alloc (.cells #[.int .i64 4, .int .i64 4, .int .i64 4] 3) = w1 := ⟨_, rfl⟩
  have B1 : Below w.heap.size w w1 := by rw [← hw1]; exact new_below _ _
  have k1 : Bk w1 w.heap.size 3 [.int .i64 4, .int .i64 4, .int .i64 4] := by rw [← hw1]; exact heap_alloc_new w _
  have hI : IntsIn w1 (some ⟨w.heap.size, 0, none⟩) w1.heap.size [4, 4, 4] := by
    intro k u e
    match k, e with
    | 0, e => cases e; exact ⟨_, rfl, k1.lt, k1.cell 0, by omega, by omega⟩
    | 1, e => cases e; exact ⟨_, rfl, k1.lt, k1.cell 1, by omega, by omega⟩
    | 2, e => cases e; exact ⟨_, rfl, k1.lt, k1.cell 2, by omega, by omega⟩
  have hP : pickN (throughB (classR 281474976710655 0 []) 281474976710655 0 [4, 4, 4] 0 false) 3 = [1, 2] := by decide
  have HP := pports_is 281474976710655 0 0 0 0 false none 0 0 [] (some ⟨w.heap.size, 0, none⟩) 3 3 [4, 4, 4] (Lib.hid rfl) (by omega) (Lib.hid rfl) (Nat.le_refl _) (Lib.hid (fun _ => rfl)) (by omega) (by omega) (by omega) (by omega) (by omega) (by omega) w1 (hd.below B1 (Nat.le_refl _)) (Lib.hid (RB.nil _ _ _ _)) (Lib.hid hI)
  rw [hP] at HP
  have HPP := Lib.hid HP
  have HW := Lib.hid hw1
  clear hw1 hP HP
  go_enter Tryd.func7, Tryd.ntmps7
  go_wp2_with fail
  rw [HW.out]
  (with_reducible refine HPP.out.mono ?_); rintro e w2 ⟨v, rfl, hR, b2⟩
  obtain ⟨A, cap, rfl⟩ := OwnL.shape hR
  obtain ⟨g, rfl, -, c0⟩ := hR.cell (k := 0) rfl
  obtain ⟨g', e', -, c1⟩ := hR.cell (k := 1) rfl
  cases e'
  have BB := B1.trans (b2.mono B1.size)
  clear hR k1 hI
  go_wp2
  go_ret
  exact ⟨rfl, BB⟩
end Go.Proofs.YtbjcjeadnfckgaaDoor
