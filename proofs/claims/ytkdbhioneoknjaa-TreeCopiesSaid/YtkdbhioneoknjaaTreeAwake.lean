/- awake: the document's example. -/
import Derived.Test.YtkdbhioneoknjaaTreeNew
namespace Go.Proofs.Ytkdbhioneoknjaa
open Go.ChangeShapes Go.WideShapes Go.ChangeAt Go.RowKit
set_option linter.unusedVariables false
set_option linter.unusedSimpArgs false

/-- The example's configuration. -/
def aC (N : Nat) : Cf := ⟨7, 0, 20, 2, 15, 300, 0, some ⟨N, 0, none⟩, 1, 1⟩
def aL : List PV := [⟨0, 19, true⟩]
theorem aT (N : Nat) : newT (aC N) = ⟨7, 7, 0, -1, 5120, 512, 3840, 5120, 512, 3840, false, false, false, 0, false, 0, false, 0⟩ := rfl
theorem aP (N : Nat) : newL (aC N) aL = [⟨1, 1, 19, 7, 0, 7, 1, false, false, false, 0, false, 0, false, 0⟩] := rfl
theorem aB (N : Nat) : CB (aC N) := by
  unfold CB aC
  dsimp only
  decide
theorem a_in (w : World) : PortsIn (w.alloc (.cells #[.int .u8 0, .int .u32 19, .bool true] 54)) (some ⟨w.heap.size, 0, none⟩) (w.alloc (.cells #[.int .u8 0, .int .u32 19, .bool true] 54)).heap.size aL := by
  have h := heap_alloc_new w (.cells #[.int .u8 0, .int .u32 19, .bool true] 54)
  have hb : Bk (w.alloc (.cells #[.int .u8 0, .int .u32 19, .bool true] 54)) w.heap.size 54 [.int .u8 0, .int .u32 19, .bool true] := h
  intro k x hx
  match k, hx with
  | 0, hx =>
    cases hx
    refine ⟨_, rfl, by simp, ?_, ?_, ?_, by unfold PB; decide⟩
    · exact hb.cell 0
    · exact hb.cell 1
    · exact hb.cell 2

set_option maxRecDepth 100000 in
set_option maxHeartbeats 1000000 in
theorem awake_is (w : World) : Calls Try.prog 8 #[] w fun e w' => e = .returned (.bool true) ∧ Below w.heap.size w w' := by
  obtain ⟨w1, hw1⟩ : ∃ w1, w.alloc (.cells #[.int .u8 0, .int .u32 19, .bool true] 54) = w1 := ⟨_, rfl⟩
  have HP : Hid (PortsIn w1 (aC w.heap.size).A w1.heap.size aL) := by rw [← hw1]; exact Lib.hid (a_in w)
  have B1 : Below w.heap.size w w1 := by rw [← hw1]; exact new_below _ _
  obtain ⟨N, hN⟩ : ∃ N, w.heap.size = N := ⟨_, rfl⟩
  rw [hN] at HP B1
  have HB1 := Lib.hid B1
  clear B1
  have HN : Hid (Calls Try.prog 20 #[.agg #[.int .u64 7, .int .u16 0, .int .i64 20, .int .i64 2, .int .i64 15, .int .i64 300, .int .i64 0, .slice (some ⟨N, 0, none⟩) 1 1]] w1 (TOut w1 ⟨7, 7, 0, -1, 5120, 512, 3840, 5120, 512, 3840, false, false, false, 0, false, 0, false, 0⟩ 1 [⟨1, 1, 19, 7, 0, 7, 1, false, false, false, 0, false, 0, false, 0⟩])) :=
    Lib.hid (tnew_is (aC N) aL (Lib.hid rfl) (Lib.hid (show 1 ≤ 4 by decide)) (Lib.hid (aB N)) w1 HP)
  clear HP
  go_enter Try.func8, Try.ntmps8
  rw [hN]
  go_wp2_with fail
  (with_reducible refine HN.out.mono ?_); rintro e w2 ⟨D, cap, rfl, hz, T⟩
  clear HN hz
  obtain ⟨g, rfl, -⟩ := T.at (k := 0) (x := (⟨1, 1, 19, 7, 0, 7, 1, false, false, false, 0, false, 0, false, 0⟩ : Po)) rfl
  go_upto_region 2 with (refine wpList_store_row rfl 31 _ _ rfl _ _ rfl rfl _ _ (heap_alloc_new _ _) (by kernel_rfl) (by kernel_rfl) (by kernel_rfl) ?_)
  rw [alloc_row]
  have T1 := T.al rfl 31 (lT (⟨7, 7, 0, -1, 5120, 512, 3840, 5120, 512, 3840, false, false, false, 0, false, 0, false, 0⟩ : Th) (some ⟨g, 0, none⟩) 1 cap)
  obtain ⟨G, hG⟩ : ∃ G, w2.heap.size = G := ⟨_, rfl⟩
  rw [hG] at T1 ⊢
  obtain ⟨w3, hw3⟩ : ∃ w3, w2.alloc (.cells (lT (⟨7, 7, 0, -1, 5120, 512, 3840, 5120, 512, 3840, false, false, false, 0, false, 0, false, 0⟩ : Th) (some ⟨g, 0, none⟩) 1 cap).toArray 31) = w3 := ⟨_, rfl⟩
  rw [hw3] at T1 ⊢
  clear hw3 T hG
  have hx := T1.hs.bk 0 rfl
  have HI := fun W => Lib.hid (isroot_is (⟨7, 7, 0, -1, 5120, 512, 3840, 5120, 512, 3840, false, false, false, 0, false, 0, false, 0⟩ : Th) (some ⟨g, 0, none⟩) 1 cap true (Lib.hid rfl) W)
  go_wp2_with (first | (with_reducible refine wpList_load_row rfl 31 (.tmp 1) rfl G (by kernel_rfl) _ _ (0, 0) _ hx Try.underlying31 rfl (by kernel_rfl) ?_))
  (with_reducible refine (HI _).out.mono ?_); rintro e w4 ⟨rfl, b4⟩
  have T2 := T1.below b4
  clear T1 hx HI b4
  have c18 := T2.hs.cell 0 18 rfl rfl
  have c4 := T2.hs.cell 0 4 rfl rfl
  have p1 : w4.cell? ⟨g, 1, none⟩ = some (.int .i64 1) := T2.port_cell (k := 0) (x := (⟨1, 1, 19, 7, 0, 7, 1, false, false, false, 0, false, 0, false, 0⟩ : Po)) rfl 1 rfl
  have p5 : w4.cell? ⟨g, 3 + 2, none⟩ = some (.int .u64 7) := T2.port_cell (k := 0) (x := (⟨1, 1, 19, 7, 0, 7, 1, false, false, false, 0, false, 0, false, 0⟩ : Po)) rfl 5 rfl
  have BO := Lib.hid (HB1.out.trans (T2.old.mono (by have := HB1.out.size; omega)))
  clear T2
  go_wp2
  go_ret
  exact ⟨rfl, BO.out⟩

end Go.Proofs.Ytkdbhioneoknjaa
