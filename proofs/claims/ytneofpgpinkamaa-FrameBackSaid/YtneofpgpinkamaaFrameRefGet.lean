/- The document's Get: the same frame. -/
import Derived.Test.YtneofpgpinkamaaFrameGet
import Derived.Test.YtneofpgpinkamaaWireCut
import Derived.RegionTactic
import Derived.Deep.RegionWith
import Derived.Deep.RegionHeld3
import Derived.BigRegion
import Derived.StillTailTactics
import Derived.Deep.DeepCutAuto
import Derived.IntWalk
namespace Go.Proofs.Ytneofpgpinkamaa
open Go.ChangeShapes Go.WideShapes Go.ChangeAt Go.RowKit
set_option linter.unusedVariables false

/-- What the document's 'Get' leaves where it answers a frame: its data may be nil. -/
def RefGetOk (l x : List UInt8) (m : Nat) (w : World) (e : Ending) (w' : World) : Prop :=
  ∃ D c, e = .returned (.tuple #[.agg #[.int .u64 (toOf l), .int .u64 (fromOf l), .int .u16 (kindOf l), .slice D m c], .int .i64 0]) ∧ RB w' D 0 w'.heap.size x ∧ Below w.heap.size w w'

/-- What the document's 'Get' leaves. -/
def RefGetEnd (l : List UInt8) (w : World) (e : Ending) (w' : World) : Prop :=
  (getE l = 0 ∧ RefGetOk l (getL l) (getL l).length w e w') ∨ (getE l ≠ 0 ∧ GetBad (getE l) w e w')

/-- What the first part leaves: the frame without data, and the answer's place. -/
def RG (w : World) (t f k : Int) (p : Value) (wx : World) : Prop :=
  p = .pointer (some ⟨w.heap.size + 1, 0, none⟩) ∧ FB wx (w.heap.size + 1) t f k none 0 0 ∧ FB wx w.heap.size 0 0 0 none 0 0 ∧ Below w.heap.size w wx ∧ w.heap.size + 2 ≤ wx.heap.size

theorem rg_end {w w0 : World} (hsz : w0.heap.size = w.heap.size + 1) (hB : FB w0 w.heap.size 0 0 0 none 0 0) (hb : Below w.heap.size w w0) (t f k : Int) :
    RG w t f k (.pointer (some ⟨w0.heap.size, 0, none⟩)) (w0.alloc (.cells #[.int .u64 t, .int .u64 f, .int .u16 k, .slice none 0 0] 27)).drew := by
  refine ⟨by rw [hsz], ?_, ?_, (hb.alloc hb.size _).drew, ?_⟩
  · have := FB.new w0 t f k none 0 0
    rw [hsz] at this
    exact this
  · exact hB.below (B := w0.heap.size) (below_new (Nat.le_refl _)).drew (by omega)
  · simp [hsz]

theorem rb_sub {w : World} {A : Option Addr} {lo hi c : Nat} {b : List UInt8} (h : RB w A lo hi b) (hc : b.length ≤ c) (p k : Nat) : RB w (cutA A p c) lo hi ((b.drop p).take k) := (h.drop p c hc).take k

set_option maxHeartbeats 4000000 in
theorem refget_long (A : Option Addr) (n c : Nat) (l : List UInt8) (hl : Hid (l.length = n)) (hn : n ≤ 10000) (hc : n ≤ c) (hnc : Hid (A = none → c = 0)) (h14 : 14 ≤ n) (w : World) (hr : RB w A 0 w.heap.size l) :
    Calls Try.prog 14 #[.slice A n c] w (RefGetEnd l w) := by
  obtain ⟨k0, k1⟩ := kindOf_lt l
  have hl0 := hl.out
  obtain ⟨x1, hx1⟩ : ∃ x1, x1 = l.take 6 := ⟨_, rfl⟩
  obtain ⟨x2, hx2⟩ : ∃ x2, x2 = (l.drop 6).take 6 := ⟨_, rfl⟩
  obtain ⟨x3, hx3⟩ : ∃ x3, x3 = (l.drop 12).take 2 := ⟨_, rfl⟩
  have r1 : RB w A 0 w.heap.size x1 := by rw [hx1]; exact hr.take 6
  have r2 : RB w (cutA A 6 c) 0 w.heap.size x2 := by rw [hx2]; exact rb_sub hr (by omega) 6 6
  have r3 : RB w (cutA A 12 c) 0 w.heap.size x3 := by rw [hx3]; exact rb_sub hr (by omega) 12 2
  have l1 : Hid (x1.length = 6) := by show _ = _; rw [hx1]; simp; omega
  have l2 : Hid (x2.length = 6) := by show _ = _; rw [hx2]; simp; omega
  have l3 : Hid (x3.length = 2) := by show _ = _; rw [hx3]; simp; omega
  have n1 : Hid (numU x1 = toOf l) := by show _ = _; rw [hx1]; rfl
  have n2 : Hid (numU x2 = fromOf l) := by show _ = _; rw [hx2]; rfl
  have n3 : Hid (numU x3 = kindOf l) := by show _ = _; rw [hx3]; rfl
  obtain ⟨t, hT⟩ : ∃ t, t = toOf l := ⟨_, rfl⟩
  obtain ⟨f, hF⟩ : ∃ f, f = fromOf l := ⟨_, rfl⟩
  obtain ⟨k, hK⟩ : ∃ k, k = kindOf l := ⟨_, rfl⟩
  rw [← hT] at n1
  rw [← hF] at n2
  rw [← hK] at n3 k0 k1
  obtain ⟨r, hr14⟩ : ∃ r, r = n - 14 := ⟨_, rfl⟩
  have hdl : (l.drop 14).length = r := by simp; omega
  have hr4 : RB w (cutA A 14 c) 0 w.heap.size (l.drop 14) := hr.drop 14 c (by omega)
  have hc14 : Hid (cutA A 14 c = none → c - 14 = 0) := by
    intro e
    unfold cutA at e
    split at e
    · omega
    · cases A with
      | none => have := hnc.out rfl; omega
      | some ad => cases e
  have hgE : Hid (getE l = gdE k r) := by show _ = _; unfold getE; rw [if_neg (by omega), ← hK, hdl]
  have hgL : Hid (getL l = gdL k (l.drop 14)) := by show _ = _; unfold getL; rw [← hK]
  obtain ⟨y, hy⟩ : ∃ y, y = l.drop 14 := ⟨_, rfl⟩
  rw [← hy] at hdl hr4 hgL
  have HDL := Lib.hid hdl
  have HK := Lib.hid hK
  have HT := Lib.hid hT
  have HF := Lib.hid hF
  have hrn : r ≤ 10000 := by omega
  have hrc : r ≤ c - 14 := by omega
  have HR := Lib.hid hr14
  clear hT hF hx1 hx2 hx3 hl0 hK hdl hy
  have d14 : decide ((n : Int) < 14) = false := by simp; omega
  have hwk : IntKind.u16.wrap k = k := by rw [show IntKind.u16.wrap k = k % 65536 by simp [IntKind.wrap, IntKind.bits, IntKind.signed]]; omega
  have s2 : ∀ w : World, (Instr.sliceAt 25 (.slice A n c) (some (.int .i64 6)) (some (.int .i64 12)) none).run Try.prog w = .ok (.slice (cutA A 6 c) 6 (c - 6)) w := cut2_any A n c 6 12 6 rfl (by omega)
  have s3 : ∀ w : World, (Instr.sliceAt 25 (.slice A n c) (some (.int .i64 12)) (some (.int .i64 14)) none).run Try.prog w = .ok (.slice (cutA A 12 c) 2 (c - 12)) w := cut2_any A n c 12 14 2 rfl (by omega)
  have s4 : ∀ w : World, (Instr.sliceAt 25 (.slice A n c) (some (.int .i64 14)) none none).run Try.prog w = .ok (.slice (cutA A 14 c) r (c - 14)) w := by rw [hr14]; exact cut_any A n c 14 h14
  clear hr14
  go_enter Try.func14, Try.ntmps14
  go_upto_region 3 with fail
  obtain ⟨w0, hB0, hbb0, hs0, hw0⟩ := boxed w 0 0 0 none 0 0
  rw [← hw0]
  have hsz : w0.heap.size = w.heap.size + 1 := by rw [hw0]; simp
  have HS := Lib.hid hsz
  clear hw0 hsz
  go_cut [4] (fun p wx => RG w t f k p wx)
  case first =>
    have hd0 : Below w.heap.size w w0.drew := hbb0.drew
    have hd1 : Below w.heap.size w (w0.alloc (.cells #[.int .u64 0, .int .u64 0, .int .u16 0, .slice none 0 0] 27)).drew := (hbb0.alloc hbb0.size _).drew
    go_region_with (first
      | (go_at_call 28; (with_reducible refine (refnum_any A _ x1 6 0 w.heap.size l1 (by omega) _ (r1.below (by first | exact hd0 | exact hd1) (Nat.le_refl _))).mono ?_); rintro e w' ⟨rfl, rfl⟩; rw [n1.out])
      | (go_at_call 28; (with_reducible refine (refnum_any (cutA A 6 c) _ x2 6 0 w.heap.size l2 (by omega) _ (r2.below (by first | exact hd0 | exact hd1) (Nat.le_refl _))).mono ?_); rintro e w' ⟨rfl, rfl⟩; rw [n2.out])
      | (go_at_call 28; (with_reducible refine (refnum_any (cutA A 12 c) _ x3 2 0 w.heap.size l3 (by omega) _ (r3.below (by first | exact hd0 | exact hd1) (Nat.le_refl _))).mono ?_); rintro e w' ⟨rfl, rfl⟩; rw [n3.out]))
    all_goals go_wp2_with fail
    all_goals go_meet
    all_goals exact rg_end HS.out hB0 hbb0 t f k
  case rest =>
    obtain ⟨rfl, hB1, hB2, hbw, hsx⟩ := hcut
    obtain ⟨c0, c1, c2, c3⟩ := hB1.cells
    obtain ⟨e0, e1, e2, e3⟩ := hB2.cells
    obtain ⟨z0, z1, z2, z3⟩ := hB2.thaws
    by_cases g1 : k ≤ 1500
    · by_cases g2 : (r : Int) < k
      · have hE : Hid (gdE k r = 2) := by show _ = _; unfold gdE; rw [if_pos g1, if_pos g2]
        go_wp2
        refine bodyPost_ret (v := .tuple #[.agg #[.int .u64 0, .int .u64 0, .int .u16 0, .slice none 0 0], .int .i64 2]) (by simp [results, Try.results14, go_sem, e0, e1, e2, e3]) rfl (.inr ⟨by rw [hgE.out, hE.out]; decide, by rw [hgE.out, hE.out], ?_⟩)
        exact (((hbw.setCell (Nat.le_refl _) _).setCell (Nat.le_refl _) _).setCell (Nat.le_refl _) _).setCell (Nat.le_refl _) _
      · have d2 : decide ((r : Int) < k) = false := by simpa using g2
        have hE : Hid (gdE k r = 0) := by show _ = _; unfold gdE; rw [if_pos g1, if_neg g2]
        obtain ⟨j, rfl⟩ : ∃ j : Nat, k = j := ⟨k.toNat, by omega⟩
        have hL : Hid (getL l = y.take j) := by show _ = _; rw [hgL.out]; unfold gdL; rw [if_pos g1]; simp
        have hjr : j ≤ r := by omega
        have hwj : IntKind.i64.wrap (j : Int) = (j : Int) := IntWalk.i64_in _ (by omega)
        have s5 := cut3_any (cutA A 14 c) r (c - 14) j (by omega)
        have htl : Hid ((y.take j).length = j) := by show _ = _; simp; have := HDL.out; omega
        go_wp2_with fail
        go_still_tail 7, (by kernel_rfl)
        change wpList _ _ _ _ _ wc.drew
        obtain ⟨wd, hwd⟩ : ∃ wd, wd = wc.drew := ⟨_, rfl⟩
        have hB1d : FB wd (w.heap.size + 1) t f (j : Int) none 0 0 := by rw [hwd]; exact hB1
        have hB2d : FB wd w.heap.size 0 0 0 none 0 0 := by rw [hwd]; exact hB2
        have hbwd : Below w.heap.size w wd := by rw [hwd]; exact hbw.drew
        have hsd : w.heap.size + 2 ≤ wd.heap.size := by rw [hwd]; exact hsx
        rw [← hwd]
        have hry : RB wd (cutA A 14 c) 0 w.heap.size (y.take j) := (hr4.below hbwd (Nat.le_refl _)).take j
        clear hwd hB1 hB2 hsx hwj s5
        clear c0 c1 c2 c3 e0 e1 e2 e3 z0 z1 z2 z3
        go_wp2_with (at_builtin; refine append_nil _ rfl (.tmp 34) (.tmp 39) rfl rfl (cutA A 14 c) j (c - 14) 0 w.heap.size (y.take j) rfl hry htl hc14.out (by omega) ?_; intro D cap w5 hD hb5; have hB15 := hB1d.below hb5 (by omega); have hB25 := hB2d.below hb5 (by omega); have hbw5 := below_two hbwd hb5 hbwd.size; obtain ⟨c0, c1, c2, c3⟩ := hB15.cells; obtain ⟨f0, f1, f2, f3⟩ := hB15.thaws; obtain ⟨e0, e1, e2, e3⟩ := hB25.cells; obtain ⟨z0, z1, z2, z3⟩ := hB25.thaws)
        refine bodyPost_ret (v := .tuple #[.agg #[.int .u64 t, .int .u64 f, .int .u16 (j : Int), .slice D j cap], .int .i64 0]) (by simp [results, Try.results14, go_sem, e0, e1, e2, e3]) rfl (.inl ⟨by rw [hgE.out, hE.out], D, cap, ?_, ?_, ?_⟩)
        · rw [← HT.out, ← HF.out, ← HK.out, hL.out, htl.out]
        · rw [hL.out]
          refine ((((((hD.wide (by omega) (Nat.le_refl _) : RB w5 D (w.heap.size + 2) w5.heap.size (y.take j))).set (.inl (by show w.heap.size + 1 < w.heap.size + 2; omega)) _).set (.inl (by show w.heap.size < w.heap.size + 2; omega)) _).set (.inl (by show w.heap.size < w.heap.size + 2; omega)) _).set (.inl (by show w.heap.size < w.heap.size + 2; omega)) _).set (.inl (by show w.heap.size < w.heap.size + 2; omega)) _ |>.wide (Nat.zero_le _) (by simp [World.setCell])
        · exact ((((hbw5.setCell (Nat.le_succ _) _).setCell (Nat.le_refl _) _).setCell (Nat.le_refl _) _).setCell (Nat.le_refl _) _).setCell (Nat.le_refl _) _
    · have d1 : decide (k ≤ 1500) = false := by simpa using g1
      by_cases g2 : k < 1536
      · have hE : Hid (gdE k r = 3) := by show _ = _; unfold gdE; rw [if_neg g1, if_pos g2]
        go_wp2
        refine bodyPost_ret (v := .tuple #[.agg #[.int .u64 0, .int .u64 0, .int .u16 0, .slice none 0 0], .int .i64 3]) (by simp [results, Try.results14, go_sem, e0, e1, e2, e3]) rfl (.inr ⟨by rw [hgE.out, hE.out]; decide, by rw [hgE.out, hE.out], ?_⟩)
        exact (((hbw.setCell (Nat.le_refl _) _).setCell (Nat.le_refl _) _).setCell (Nat.le_refl _) _).setCell (Nat.le_refl _) _
      · have d2 : decide (k < 1536) = false := by simpa using g2
        by_cases g3 : 1500 < r
        · have hE : Hid (gdE k r = 4) := by show _ = _; unfold gdE; rw [if_neg g1, if_neg g2, if_pos g3]
          have d3 : decide (1500 < (r : Int)) = true := by simp; omega
          go_wp2
          refine bodyPost_ret (v := .tuple #[.agg #[.int .u64 0, .int .u64 0, .int .u16 0, .slice none 0 0], .int .i64 4]) (by simp [results, Try.results14, go_sem, e0, e1, e2, e3]) rfl (.inr ⟨by rw [hgE.out, hE.out]; decide, by rw [hgE.out, hE.out], ?_⟩)
          exact (((hbw.setCell (Nat.le_refl _) _).setCell (Nat.le_refl _) _).setCell (Nat.le_refl _) _).setCell (Nat.le_refl _) _
        · have hE : Hid (gdE k r = 0) := by show _ = _; unfold gdE; rw [if_neg g1, if_neg g2, if_neg g3]
          have hL : Hid (getL l = y) := by show _ = _; rw [hgL.out]; unfold gdL; rw [if_neg g1]
          have d3 : decide (1500 < (r : Int)) = false := by simp; omega
          have hry := hr4.below hbw (Nat.le_refl _)
          go_wp2_with (at_builtin; refine append_nil _ rfl (.tmp 52) (.tmp 53) rfl rfl (cutA A 14 c) r (c - 14) 0 w.heap.size y rfl hry HDL hc14.out (by omega) ?_; intro D cap w5 hD hb5; have hB15 := hB1.below hb5 (by omega); have hB25 := hB2.below hb5 (by omega); have hbw5 := below_two hbw hb5 hbw.size; clear c0 c1 c2 c3 e0 e1 e2 e3 z0 z1 z2 z3 hB1 hB2; obtain ⟨c0, c1, c2, c3⟩ := hB15.cells; obtain ⟨f0, f1, f2, f3⟩ := hB15.thaws; obtain ⟨e0, e1, e2, e3⟩ := hB25.cells; obtain ⟨z0, z1, z2, z3⟩ := hB25.thaws)
          refine bodyPost_ret (v := .tuple #[.agg #[.int .u64 t, .int .u64 f, .int .u16 k, .slice D r cap], .int .i64 0]) (by simp [results, Try.results14, go_sem, e0, e1, e2, e3]) rfl (.inl ⟨by rw [hgE.out, hE.out], D, cap, ?_, ?_, ?_⟩)
          · rw [← HT.out, ← HF.out, ← HK.out, hL.out, HDL.out]
          · rw [hL.out]
            refine ((((((hD.wide (by omega) (Nat.le_refl _) : RB w5 D (w.heap.size + 2) w5.heap.size y)).set (.inl (by show w.heap.size + 1 < w.heap.size + 2; omega)) _).set (.inl (by show w.heap.size < w.heap.size + 2; omega)) _).set (.inl (by show w.heap.size < w.heap.size + 2; omega)) _).set (.inl (by show w.heap.size < w.heap.size + 2; omega)) _).set (.inl (by show w.heap.size < w.heap.size + 2; omega)) _ |>.wide (Nat.zero_le _) (by simp [World.setCell])
          · exact ((((hbw5.setCell (Nat.le_succ _) _).setCell (Nat.le_refl _) _).setCell (Nat.le_refl _) _).setCell (Nat.le_refl _) _).setCell (Nat.le_refl _) _

theorem refget_short (A : Option Addr) (n c : Nat) (l : List UInt8) (hl : Hid (l.length = n)) (h14 : n < 14) (w : World) :
    Calls Try.prog 14 #[.slice A n c] w (RefGetEnd l w) := by
  have hE : Hid (getE l = 2) := by show _ = _; unfold getE; rw [if_pos (by rw [hl.out]; exact h14)]
  have d14 : decide ((n : Int) < 14) = true := by simp; omega
  go_enter Try.func14, Try.ntmps14
  go_wp2
  refine bodyPost_ret (v := .tuple #[.agg #[.int .u64 0, .int .u64 0, .int .u16 0, .slice none 0 0], .int .i64 2]) (by simp [results, Try.results14, go_sem]) rfl (.inr ⟨by rw [hE.out]; decide, by rw [hE.out], ?_⟩)
  exact below_new (Nat.le_refl _)

theorem refget_any (A : Option Addr) (n c : Nat) (l : List UInt8) (hl : Hid (l.length = n)) (hn : n ≤ 10000) (hc : n ≤ c) (hnc : Hid (A = none → c = 0)) (w : World) (hr : RB w A 0 w.heap.size l) :
    Calls Try.prog 14 #[.slice A n c] w (RefGetEnd l w) := by
  by_cases h : n < 14
  · exact refget_short A n c l hl h w
  · exact refget_long A n c l hl hn hc hnc (by omega) w hr

end Go.Proofs.Ytneofpgpinkamaa
