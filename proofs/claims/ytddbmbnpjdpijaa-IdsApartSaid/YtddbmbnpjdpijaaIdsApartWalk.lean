/- The law IdsApart, walked: it answers true, whatever the two numbers. -/
import Derived.Test.YtddbmbnpjdpijaaIdsAwake
import Derived.Test.YtddbmbnpjdpijaaIdsApartMath
import Derived.RegionTactic
import Derived.Deep.RegionWith
import Derived.Deep.DrawnRows
import Derived.Deep.RegionHeld3
namespace Go.Proofs.Ytddbmbnpjdpijaa
open Go.ChangeShapes Go.WideShapes Go.ChangeAt Go.RowKit
set_option linter.unusedVariables false

theorem below_then {w w1 w2 : World} (h : Below w.heap.size w w1) (g : Below w1.heap.size w1 w2) : Below w.heap.size w w2 := h.trans (g.mono h.size)
theorem below_alloc {w w1 : World} (h : Below w.heap.size w w1) (o : Obj) : Below w.heap.size w (w1.alloc o) := h.alloc h.size o

theorem six_pb (z : Int) : six z = ((pb z).map bc).toArray := by
  simp [six, pb, bc, by6_nat]

theorem conv_six (W : World) (z : Int) : (convert 43 9 (.slice (some ⟨W.heap.size, 0, none⟩) 6 6)).run Try.prog (W.alloc (.cells (six z) 5)) = .ok (.string ⟨(pb z).toArray⟩) (W.alloc (.cells (six z) 5)) := by
  have h := run_convert_bytes_back (P := Try.prog) (W.alloc (.cells (six z) 5)) 43 9 5 ⟨W.heap.size, 0, none⟩ 6 (pb z) Try.underlying43 Try.underlying5 Try.underlying9 (by
    intro j hj
    rw [addr_add]
    match j, hj with
    | 0, _ => simp [six, pb, by6_nat]
    | 1, _ => simp [six, pb, by6_nat]
    | 2, _ => simp [six, pb, by6_nat]
    | 3, _ => simp [six, pb, by6_nat]
    | 4, _ => simp [six, pb, by6_nat]
    | 5, _ => simp [six, pb, by6_nat])
  exact h

theorem conv_six_past (W : World) (z : Int) (o : Obj) : (convert 43 9 (.slice (some ⟨W.heap.size, 0, none⟩) 6 6)).run Try.prog ((W.alloc (.cells (six z) 5)).alloc o) = .ok (.string ⟨(pb z).toArray⟩) ((W.alloc (.cells (six z) 5)).alloc o) := by
  have h := run_convert_bytes_back (P := Try.prog) ((W.alloc (.cells (six z) 5)).alloc o) 43 9 5 ⟨W.heap.size, 0, none⟩ 6 (pb z) Try.underlying43 Try.underlying5 Try.underlying9 (by
    intro j hj
    rw [addr_add]
    match j, hj with
    | 0, _ => simp [six, pb, by6_nat]
    | 1, _ => simp [six, pb, by6_nat]
    | 2, _ => simp [six, pb, by6_nat]
    | 3, _ => simp [six, pb, by6_nat]
    | 4, _ => simp [six, pb, by6_nat]
    | 5, _ => simp [six, pb, by6_nat])
  exact h

theorem conv_six_2 (W : World) (z : Int) (o : Obj) : (convert 43 9 (.slice (some ⟨W.heap.size + 1, 0, none⟩) 6 6)).run Try.prog ((W.alloc o).alloc (.cells (six z) 5)) = .ok (.string ⟨(pb z).toArray⟩) ((W.alloc o).alloc (.cells (six z) 5)) := by
  have h := conv_six (W.alloc o) z
  rw [World.size_alloc] at h
  exact h

attribute [local go_sem ↓] Go.wp_at_zero Go.wp_at_succ

set_option maxRecDepth 100000 in
set_option maxHeartbeats 8000000 in
theorem apart_any (x y : Int) (x0 : 0 ≤ x) (x1 : x ≤ 18446744073709551615) (y0 : 0 ≤ y) (y1 : y ≤ 18446744073709551615) (E L : Bool) (a b : Int) (q0 : 0 ≤ a) (q1 : a ≤ 18446744073709551615) (r0 : 0 ≤ b) (r1 : b ≤ 18446744073709551615)
    (HX : Hid (x = a % 281474976710656)) (HY : Hid (y = b % 281474976710656)) (hE : (txt x == txt y) = E) (hP : (pb x == pb y) = E) (hxy : (x == y) = E) (hL : Op.bytesLess (txt x) (txt y) = L) (hlt : decide (x < y) = L) (w : World) :
    Calls Try.prog 7 #[.int .u64 a, .int .u64 b] w fun e w' => e = .returned (.bool true) ∧ Below w.heap.size w w' := by
  have hcv := conv_six
  have hcv2 := conv_six_past
  have hcv3 := conv_six_2
  go_enter Try.func7, Try.ntmps7
  go_wp2_with fail
  (with_reducible refine (awake_any _).mono ?_); rintro e wa ⟨rfl, hba⟩
  go_wp2
  rw [← HX.out, ← HY.out]
  refine wp_region_noPanic ?_
  go_region_held (fun w' => Below w.heap.size w w') (first | exact hba.drew | exact below_then (by assumption) hbt | exact below_alloc (by assumption) _ | assumption) (first
    | (go_at_call 22; (with_reducible refine (text_any _ (by omega) (by omega) _).mono ?_); rintro e wt ⟨rfl, hbt⟩)
    | (go_at_call 20; (with_reducible refine (put_any _ (by omega) (by omega) _).mono ?_); rintro e wt ⟨rfl, rfl⟩))
  all_goals refine NoPanic.normal ?_
  all_goals go_wp2
  all_goals go_ret
  all_goals exact ⟨rfl, by assumption⟩

theorem IdsApart_walk (a0 : Int) (a1 : Int) (w0 : (Lit.int .u64 a0).wf = true) (w1 : (Lit.int .u64 a1).wf = true) (w : World) :
    Calls Try.prog 7 #[.int .u64 a0, .int .u64 a1] w fun e w' => e = .returned (.bool true) ∧ Below w.heap.size w w' := by
  obtain ⟨q0, q1⟩ := bounds_u64 w0
  obtain ⟨r0, r1⟩ := bounds_u64 w1
  obtain ⟨x, hx⟩ : ∃ x, x = a0 % 281474976710656 := ⟨_, rfl⟩
  obtain ⟨y, hy⟩ : ∃ y, y = a1 % 281474976710656 := ⟨_, rfl⟩
  have hL := txt_less x y (by omega) (by omega) (by omega) (by omega)
  by_cases h : x = y
  · exact apart_any x y (by omega) (by omega) (by omega) (by omega) true (decide (x < y)) a0 a1 q0 q1 r0 r1 hx hy (by rw [h]; simp) (by rw [h]; simp) (by simpa using h) hL rfl w
  · exact apart_any x y (by omega) (by omega) (by omega) (by omega) false (decide (x < y)) a0 a1 q0 q1 r0 r1 hx hy (by simpa using txt_ne x y (by omega) (by omega) (by omega) (by omega) h) (by simpa using pb_ne x y (by omega) (by omega) (by omega) (by omega) h) (by simpa using h) hL rfl w

end Go.Proofs.Ytddbmbnpjdpijaa
