/- The law FrameCopies, walked: it answers true, whatever the two frames. -/
import Derived.Test.YtneofpgpinkamaaFrameCopy
import Derived.RegionTactic
import Derived.Deep.RegionWith
import Derived.Deep.DrawnRows
import Derived.Deep.RegionHeld3
import Derived.Deep.DeepCutAuto
import Derived.StillTailTactics
import Derived.IntWalk
namespace Go.Proofs.Ytneofpgpinkamaa
open Go.ChangeShapes Go.WideShapes Go.ChangeAt Go.RowKit
set_option linter.unusedVariables false

/-- The bytes behind 'j' rounds: one more each. -/
def inc (l : List UInt8) (j : Nat) : List UInt8 := (l.take j).map (· + 1) ++ l.drop j

theorem inc_zero (l : List UInt8) : inc l 0 = l := by simp [inc]

theorem inc_len (l : List UInt8) (j : Nat) : (inc l j).length = l.length := by simp [inc]; omega

theorem inc_at (l : List UInt8) (j : Nat) (h : j < l.length) : (inc l j)[j]? = some l[j] := by
  unfold inc
  rw [List.getElem?_append_right (by simp; omega)]
  simp [Nat.min_eq_left (Nat.le_of_lt h), h]

theorem inc_succ (l : List UInt8) (j : Nat) (h : j < l.length) : (inc l j).set j (l[j] + 1) = inc l (j + 1) := by
  unfold inc
  have hl : ((l.take j).map (· + 1)).length = j := by simp; omega
  rw [List.set_append_right _ _ (by omega), hl, Nat.sub_self, List.take_succ_eq_append_getElem h, List.drop_eq_getElem_cons h, List.map_append, List.set_cons_zero]
  simp only [List.map_cons, List.map_nil, List.append_assoc, List.cons_append, List.nil_append]

theorem inc_all (a : UInt8) (l : List UInt8) (n : Nat) : sameL (inc (a :: l) (n + 1)) (a :: l) = false := by
  unfold sameL inc
  rw [beq_eq_false_iff_ne]
  simp

/-- Bytes of the call's own, in a block from 'lo' on and below 'hi'. -/
def OD (w : World) (lo hi : Nat) (D : Option Addr) (cap : Nat) (l : List UInt8) : Prop := 0 < l.length → ∃ g, D = some ⟨g, 0, none⟩ ∧ lo ≤ g ∧ g < hi ∧ Row w g cap l

theorem OD.of {w : World} {lo : Nat} {D : Option Addr} {cap : Nat} {l : List UInt8} (h : OwnD w lo D cap l) : OD w lo w.heap.size D cap l := by
  intro hl
  obtain ⟨g, rfl, hg, hrow⟩ := h hl
  exact ⟨g, rfl, hg, hrow.lt, hrow⟩

theorem OD.below {w w' : World} {lo hi B : Nat} {D : Option Addr} {cap : Nat} {l : List UInt8} (h : OD w lo hi D cap l) (hb : Below B w w') (hB : hi ≤ B) : OD w' lo hi D cap l := by
  intro hl
  obtain ⟨g, rfl, hg, hh, hrow⟩ := h hl
  exact ⟨g, rfl, hg, hh, hrow.below hb (by omega)⟩

theorem OD.rb {w : World} {lo hi : Nat} {D : Option Addr} {cap : Nat} {l : List UInt8} (h : OD w lo hi D cap l) : RB w D lo hi l := by
  intro hl
  obtain ⟨g, rfl, hg, hh, hrow⟩ := h hl
  exact hrow.rb lo hi hg hh hl

theorem Row.set {w : World} {g cap : Nat} {l : List UInt8} (h : Row w g cap l) (j : Nat) (hj : j < l.length) (b : UInt8) : Row (w.setCell ⟨g, j, none⟩ (bc b)) g cap (l.set j b) := by
  obtain ⟨sp, h1, h2, h3⟩ := h
  refine ⟨sp, by simpa using h1, by simpa using h2, ?_⟩
  have := h3.set j (bc b)
  rw [List.set_append_left _ _ (by simpa using hj), ← List.map_set] at this
  exact this

theorem Row.cellAt {w : World} {g cap : Nat} {l : List UInt8} (h : Row w g cap l) (j : Nat) (b : UInt8) (hj : l[j]? = some b) : w.cell? ⟨g, j, none⟩ = some (bc b) ∧ w.frozen? ⟨g, j, none⟩ = false := by
  obtain ⟨sp, h1, h2, h3⟩ := h
  refine ⟨?_, h3.thaw j⟩
  rw [h3.cell j]
  have hlt : j < l.length := by
    rcases Nat.lt_or_ge j l.length with q | q
    · exact q
    · rw [List.getElem?_eq_none q] at hj; cases hj
  rw [List.getElem?_append_left (by simpa using hlt)]
  simp [hj]

/-- The three frames in their boxes, and the copy's bytes. -/
def CP (w : World) (t f k : Int) (A : Option Addr) (n c : Nat) (D : Option Addr) (cap gc : Nat) (x : List UInt8) (wx : World) : Prop :=
  FB wx w.heap.size t f k A n c ∧ FB wx gc t f k D n cap ∧ OD wx (w.heap.size + 2) gc D cap x ∧ Below w.heap.size w wx ∧ gc < wx.heap.size

theorem cp_set {w wr : World} {t f k : Int} {A : Option Addr} {n c g cap gc : Nat} {x : List UInt8} (hB : FB wr w.heap.size t f k A n c) (hG : FB wr gc t f k (some ⟨g, 0, none⟩) n cap) (hb : Below w.heap.size w wr) (hs : gc < wr.heap.size) (p1 : w.heap.size + 2 ≤ g) (p2 : g < gc)
    (j : Nat) (v : Value) (hrow : Row (wr.setCell ⟨g, j, none⟩ v) g cap x) : CP w t f k A n c (some ⟨g, 0, none⟩) cap gc x (wr.setCell ⟨g, j, none⟩ v).drew :=
  ⟨hB.far (p := ⟨g, j, none⟩) (by show g ≠ w.heap.size; omega) _, hG.far (p := ⟨g, j, none⟩) (by show g ≠ gc; omega) _, fun _ => ⟨g, rfl, p1, p2, hrow⟩, (hb.setCell (p := ⟨g, j, none⟩) (by show w.heap.size ≤ g; omega) _).drew, by simp [World.setCell]; exact hs⟩

theorem same_inc (t f k : Int) (l : List UInt8) (n : Nat) (hn : l.length = n) : sameF t f k (inc l n) t f k l = l.isEmpty := by
  cases l with
  | nil => simp [sameF, inc, sameL]
  | cons a tl =>
    obtain ⟨m, rfl⟩ : ∃ m, n = m + 1 := ⟨tl.length, by rw [← hn]; rfl⟩
    simp only [sameF, inc_all]
    simp

theorem cells12 {w w' : World} {t f k : Int} {A : Option Addr} {n c : Nat} {t' f' k' : Int} {A' : Option Addr} {n' c' : Nat} {D : Option Addr} {cap gc : Nat} (h1 : FB w' w.heap.size t f k A n c) (h2 : FB w' (w.heap.size + 1) t' f' k' A' n' c') (h3 : FB w' gc t f k D n cap) :
    w'.cell? ⟨w.heap.size, 0, none⟩ = some (.int .u64 t) ∧ w'.cell? ⟨w.heap.size, 1, none⟩ = some (.int .u64 f) ∧ w'.cell? ⟨w.heap.size, 2, none⟩ = some (.int .u16 k) ∧ w'.cell? ⟨w.heap.size, 3, none⟩ = some (.slice A n c) ∧ w'.cell? ⟨w.heap.size + 1, 0, none⟩ = some (.int .u64 t') ∧ w'.cell? ⟨w.heap.size + 1, 1, none⟩ = some (.int .u64 f') ∧ w'.cell? ⟨w.heap.size + 1, 2, none⟩ = some (.int .u16 k') ∧ w'.cell? ⟨w.heap.size + 1, 3, none⟩ = some (.slice A' n' c') ∧ w'.cell? ⟨gc, 0, none⟩ = some (.int .u64 t) ∧ w'.cell? ⟨gc, 1, none⟩ = some (.int .u64 f) ∧ w'.cell? ⟨gc, 2, none⟩ = some (.int .u16 k) ∧ w'.cell? ⟨gc, 3, none⟩ = some (.slice D n cap) := by
  obtain ⟨a0, a1, a2, a3⟩ := h1.cells
  obtain ⟨b0, b1, b2, b3⟩ := h2.cells
  obtain ⟨d0, d1, d2, d3⟩ := h3.cells
  exact ⟨a0, a1, a2, a3, b0, b1, b2, b3, d0, d1, d2, d3⟩

theorem copies_long (t f k : Int) (A : Option Addr) (n c : Nat) (t' f' k' : Int) (A' : Option Addr) (n' c' : Nat) (h : 3000 < n ∨ 3000 < n') (hn : n ≤ 9223372036854775807) (hn' : n' ≤ 9223372036854775807) (w : World) :
    Calls Try.prog 6 #[.agg #[.int .u64 t, .int .u64 f, .int .u16 k, .slice A n c], .agg #[.int .u64 t', .int .u64 f', .int .u16 k', .slice A' n' c']] w fun e w' => e = .returned (.bool true) ∧ Below w.heap.size w w' := by
  obtain ⟨w0, hB0, hb0, hs0, hw0⟩ := boxed w t f k A n c
  obtain ⟨w1, hC1, hb1, hs1, hw1⟩ := boxed w0 t' f' k' A' n' c'
  have hsz0 : w0.heap.size = w.heap.size + 1 := by rw [hw0]; simp
  have hB1 := hB0.below hb1 hs0
  have hbw1 := below_two hb0 hb1 hb0.size
  have hs1' : w.heap.size < w1.heap.size := by omega
  rw [hsz0] at hC1 hs1
  have HSZ := Lib.hid hsz0
  rw [hw0] at hw1
  have HW1 := Lib.hid hw1
  clear hsz0 hw0 hw1
  by_cases h6 : 3000 < n
  · have d3 : decide (3000 < (n : Int)) = true := by simp; omega
    clear h
    go_enter Try.func6, Try.ntmps6
    go_wp2_with fail
    rw [← HW1.out]
    (with_reducible refine (awake_any _).mono ?_); rintro e wa ⟨rfl, hba⟩
    have hB2 := hB1.below hba hs1'
    have hC2 := hC1.below hba hs1
    have hbw2 := below_two hbw1 hba hbw1.size
    obtain ⟨c0, c1, c2, c3⟩ := hB2.cells
    obtain ⟨e0, e1, e2, e3⟩ := hC2.cells
    clear hB0 hB1 hC1 hb0 hb1 hbw1
    go_wp2_with fail
    (with_reducible refine (awake_any _).mono ?_); rintro e wb ⟨rfl, hbb⟩
    go_wp2
    go_ret
    exact ⟨rfl, below_two hbw2 hbb hbw2.size⟩
  · have d3 : decide (3000 < (n : Int)) = false := by simp; omega
    have d4 : decide (3000 < (n' : Int)) = true := by simp; omega
    clear h h6
    go_enter Try.func6, Try.ntmps6
    go_wp2_with fail
    rw [← HW1.out]
    (with_reducible refine (awake_any _).mono ?_); rintro e wa ⟨rfl, hba⟩
    have hB2 := hB1.below hba hs1'
    have hC2 := hC1.below hba hs1
    have hbw2 := below_two hbw1 hba hbw1.size
    obtain ⟨c0, c1, c2, c3⟩ := hB2.cells
    obtain ⟨e0, e1, e2, e3⟩ := hC2.cells
    clear hB0 hB1 hC1 hb0 hb1 hbw1
    go_wp2_with fail
    (with_reducible refine (awake_any _).mono ?_); rintro e wb ⟨rfl, hbb⟩
    go_wp2
    go_ret
    exact ⟨rfl, below_two hbw2 hbb hbw2.size⟩

set_option maxRecDepth 100000 in
set_option maxHeartbeats 4000000 in
theorem copies_short (t f k : Int) (A : Option Addr) (n c : Nat) (l : List UInt8) (t' f' k' : Int) (A' : Option Addr) (n' c' : Nat) (l' : List UInt8) (hl : Hid (l.length = n)) (hnc : Hid (A = none → c = 0)) (hn : n ≤ 3000) (hl' : Hid (l'.length = n')) (hn' : n' ≤ 3000)
    (w : World) (hr : RB w A 0 w.heap.size l) (hr' : RB w A' 0 w.heap.size l') :
    Calls Try.prog 6 #[.agg #[.int .u64 t, .int .u64 f, .int .u16 k, .slice A n c], .agg #[.int .u64 t', .int .u64 f', .int .u16 k', .slice A' n' c']] w fun e w' => e = .returned (.bool true) ∧ Below w.heap.size w w' := by
  obtain ⟨w0, hB0, hb0, hs0, hw0⟩ := boxed w t f k A n c
  obtain ⟨w1, hC1, hb1, hs1, hw1⟩ := boxed w0 t' f' k' A' n' c'
  have hsz0 : w0.heap.size = w.heap.size + 1 := by rw [hw0]; simp
  have hB1 := hB0.below hb1 hs0
  have hbw1 := below_two hb0 hb1 hb0.size
  have hs1' : w.heap.size < w1.heap.size := by omega
  rw [hsz0] at hC1 hs1
  have HSZ := Lib.hid hsz0
  rw [hw0] at hw1
  have HW1 := Lib.hid hw1
  clear hsz0 hw0 hw1
  have d3 : decide (3000 < (n : Int)) = false := by simp; omega
  have d4 : decide (3000 < (n' : Int)) = false := by simp; omega
  go_enter Try.func6, Try.ntmps6
  go_wp2_with fail
  rw [← HW1.out]
  (with_reducible refine (awake_any _).mono ?_); rintro e w2 ⟨rfl, hb2⟩
  have hB2 := hB1.below hb2 hs1'
  have hC2 := hC1.below hb2 hs1
  have hbw2 := below_two hbw1 hb2 hbw1.size
  have hs2 : w.heap.size + 1 < w2.heap.size := Nat.lt_of_lt_of_le hs1 hb2.size
  clear hB0 hB1 hC1 hb0 hb1 hbw1 hb2 hs1 hs1' hs0 HW1 HSZ
  obtain ⟨c0, c1, c2, c3⟩ := hB2.cells
  obtain ⟨e0, e1, e2, e3⟩ := hC2.cells
  go_wp2_with fail
  (with_reducible refine (copy_any t f k A n c l hl hnc (by omega) _ ((hr.below hbw2 (Nat.le_refl _)).wide (Nat.le_refl _) hbw2.size)).mono ?_); rintro e w3 ⟨D, cap, rfl, hD, q1, q2, hb3⟩
  have hB3 := hB2.below hb3 (by omega)
  have hC3 := hC2.below hb3 hs2
  have hbw3 := below_two hbw2 hb3 hbw2.size
  have hs3 : w.heap.size + 1 < w3.heap.size := Nat.lt_of_lt_of_le hs2 hb3.size
  have hD3 : OD w3 (w.heap.size + 2) w3.heap.size D cap l := OD.of (hD.lower hs2)
  clear c0 c1 c2 c3 e0 e1 e2 e3 hB2 hC2 hbw2 hs2 hD hb3
  obtain ⟨c0, c1, c2, c3⟩ := hB3.cells
  obtain ⟨e0, e1, e2, e3⟩ := hC3.cells
  go_upto_region 4 with fail
  obtain ⟨w4, hG4, hb4, hs4, hw4⟩ := boxed w3 t f k D n cap
  rw [← hw4]
  clear hw4
  obtain ⟨gc, hgc⟩ : ∃ gc, gc = w3.heap.size := ⟨_, rfl⟩
  have hB4 := hB3.below hb4 (by omega)
  have hC4 := hC3.below hb4 hs3
  have hbw4 := below_two hbw3 hb4 hbw3.size
  have hD4 := hD3.below hb4 (Nat.le_refl _)
  rw [← hgc] at hG4 hs4 hs3 hD4 ⊢
  clear c0 c1 c2 c3 e0 e1 e2 e3 hB3 hC3 hbw3 hb4 hD3 hgc
  go_cut [37] (fun v wx => v = .bool false ∧ CP w t f k A n c D cap gc l wx)
  case first =>
    have hB0 : FB w4.drew w.heap.size t f k A n c := hB4
    have hC0 : FB w4.drew (w.heap.size + 1) t' f' k' A' n' c' := hC4
    have hG0 : FB w4.drew gc t f k D n cap := hG4
    have hbw0 : Below w.heap.size w w4.drew := hbw4.drew
    have hD0 : OD w4.drew (w.heap.size + 2) gc D cap l := hD4
    have hbs0 : gc < w4.drew.heap.size := hs4
    clear hB4 hC4 hG4 hbw4 hD4 hs4
    obtain ⟨E, hE⟩ : ∃ E, E = sameF t f k l t' f' k' l' := ⟨_, rfl⟩
    have HE := Lib.hid hE
    clear hE
    refine wp_region_noPanic ?_
    go_region_held (fun w' => w'.cell? ⟨w.heap.size, 0, none⟩ = some (.int .u64 t) ∧ w'.cell? ⟨w.heap.size, 1, none⟩ = some (.int .u64 f) ∧ w'.cell? ⟨w.heap.size, 2, none⟩ = some (.int .u16 k) ∧ w'.cell? ⟨w.heap.size, 3, none⟩ = some (.slice A n c) ∧ w'.cell? ⟨w.heap.size + 1, 0, none⟩ = some (.int .u64 t') ∧ w'.cell? ⟨w.heap.size + 1, 1, none⟩ = some (.int .u64 f') ∧ w'.cell? ⟨w.heap.size + 1, 2, none⟩ = some (.int .u16 k') ∧ w'.cell? ⟨w.heap.size + 1, 3, none⟩ = some (.slice A' n' c') ∧ w'.cell? ⟨gc, 0, none⟩ = some (.int .u64 t) ∧ w'.cell? ⟨gc, 1, none⟩ = some (.int .u64 f) ∧ w'.cell? ⟨gc, 2, none⟩ = some (.int .u16 k) ∧ w'.cell? ⟨gc, 3, none⟩ = some (.slice D n cap))
      (first | exact cells12 hB0 hC0 hG0 | exact cells12 hB5 hC5 hG5 | exact cells12 hB6 hC6 hG6 | exact cells12 hB7 hC7 hG7 | assumption) (first
      | (go_at_call 15; (with_reducible refine (same_any t f k D n cap l t f k A n c l hl hl _ (hD0.rb.wide (Nat.zero_le _) (Nat.le_of_lt hbs0)) ((hr.below hbw0 (Nat.le_refl _)).wide (Nat.le_refl _) hbw0.size)).mono ?_); rintro e w5 ⟨rfl, hb5⟩; rw [sameF_self]; have hB5 := hB0.below hb5 (by have := hbs0; omega); have hC5 := hC0.below hb5 (by have := hbs0; omega); have hG5 := hG0.below hb5 hbs0; have hbw5 := below_two hbw0 hb5 hbw0.size; have hD5 := hD0.below hb5 (Nat.le_of_lt hbs0); have hbs5 := Nat.lt_of_lt_of_le hbs0 hb5.size)
      | (go_at_call 15; (with_reducible refine (same_any t f k A n c l t' f' k' A' n' c' l' hl hl' _ ((hr.below hbw5 (Nat.le_refl _)).wide (Nat.le_refl _) hbw5.size) ((hr'.below hbw5 (Nat.le_refl _)).wide (Nat.le_refl _) hbw5.size)).mono ?_); rintro e w6 ⟨rfl, hb6⟩; rw [← HE.out]; have hB6 := hB5.below hb6 (by have := hbs5; omega); have hC6 := hC5.below hb6 (by have := hbs5; omega); have hG6 := hG5.below hb6 hbs5; have hbw6 := below_two hbw5 hb6 hbw5.size; have hD6 := hD5.below hb6 (Nat.le_of_lt hbs5); have hbs6 := Nat.lt_of_lt_of_le hbs5 hb6.size)
      | (go_at_call 16; (with_reducible refine (refsame_any t f k A n c l t' f' k' A' n' c' l' hl hl' _ ((hr.below hbw6 (Nat.le_refl _)).wide (Nat.le_refl _) hbw6.size) ((hr'.below hbw6 (Nat.le_refl _)).wide (Nat.le_refl _) hbw6.size)).mono ?_); rintro e w7 ⟨rfl, hb7⟩; rw [← HE.out]; have hB7 := hB6.below hb7 (by have := hbs6; omega); have hC7 := hC6.below hb7 (by have := hbs6; omega); have hG7 := hG6.below hb7 hbs6; have hbw7 := below_two hbw6 hb7 hbw6.size; have hD7 := hD6.below hb7 (Nat.le_of_lt hbs6); have hbs7 := Nat.lt_of_lt_of_le hbs6 hb7.size))
    all_goals refine NoPanic.normal ?_
    all_goals go_wp2_with fail
    all_goals go_meet
    all_goals exact ⟨rfl, hB7, hG7, hD7, hbw7, hbs7⟩
  case rest =>
    obtain ⟨rfl, hB, hG, hD, hbw, hs⟩ := hcut
    obtain ⟨c0, c1, c2, c3⟩ := hB.cells
    obtain ⟨g0, g1, g2, g3⟩ := hG.cells
    have hcv := conv_any (hr.below hbw (Nat.le_refl _)) n c hl
    clear hB4 hC4 hG4 hbw4 hD4 hs4
    go_wp2_with fail
    clear c0 c1 c2 c3 g0 g1 g2 g3 hcv
    go_loopw [7] (fun i wr => ∃ j : Nat, j ≤ n ∧ i = .int .i64 j ∧ CP w t f k A n c D cap gc (inc l j) wr) (fun i _ => n - (intOf i).toNat)
    case atStart => exact ⟨0, Nat.zero_le _, rfl, by rw [inc_zero]; exact ⟨hB, hG, hD, hbw, hs⟩⟩
    case round =>
      obtain ⟨j, hj, rfl, hBr, hGr, hDr, hbr, hsr⟩ := hrel
      clear hB hG hD hbw hs
      obtain ⟨c0, c1, c2, c3⟩ := hBr.cells
      obtain ⟨g0, g1, g2, g3⟩ := hGr.cells
      by_cases hlt : j < n
      · have hjl : j < l.length := by rw [hl.out]; exact hlt
        obtain ⟨g, rfl, p1, p2, hrow⟩ := hDr (by rw [inc_len]; omega)
        obtain ⟨hcell, hfz⟩ := hrow.cellAt j l[j] (inc_at l j hjl)
        have hset := hrow.set j (by rw [inc_len]; exact hjl) (l[j] + 1)
        rw [inc_succ l j hjl] at hset
        unfold bc at hcell hset
        have hb1 : (((l[j] + 1).toNat : Nat) : Int) = ((l[j].toNat : Int) + 1) % 256 := by rw [UInt8.toNat_add]; simp
        rw [hb1] at hset
        obtain ⟨b, hb⟩ : ∃ b : Int, b = (l[j].toNat : Int) := ⟨_, rfl⟩
        have hb0 : 0 ≤ b := by omega
        have hb2 : b < 256 := by have := l[j].toNat_lt; omega
        rw [← hb] at hcell hset
        have HSET := Lib.hid hset
        clear hb hb1 hset hrow hDr
        have k0 : (0 : Int) ≤ (j : Int) := by omega
        have k1 : (j : Int) < (n : Int) := by omega
        go_wp2
        go_region
        go_wp2
        go_roundw
        case rel => exact ⟨j + 1, by omega, by go_num, cp_set hBr hGr hbr hsr p1 p2 j _ HSET.out⟩
        case measure => simp [intOf]; omega
      · obtain rfl : n = j := by omega
        have hcv := conv_any (hr.below hbr (Nat.le_refl _)) n c hl
        have hxl : Hid ((inc l n).length = n) := by show _ = _; rw [inc_len]; exact hl.out
        go_wp2_with fail
        (with_reducible refine (same_any t f k D n cap (inc l n) t f k A n c l hxl hl _ (hDr.rb.wide (Nat.zero_le _) (Nat.le_of_lt hsr)) ((hr.below hbr (Nat.le_refl _)).wide (Nat.le_refl _) hbr.size)).mono ?_); rintro e w9 ⟨rfl, hb9⟩
        have hbw9 := below_two hbr hb9 hbr.size
        rw [same_inc t f k l n hl.out]
        cases l with
        | nil =>
          go_wp2
          go_ret
          exact ⟨rfl, hbw9⟩
        | cons a tl =>
          go_wp2
          go_ret
          exact ⟨rfl, hbw9⟩

theorem FrameCopies_walk (t f k : Int) (a : Option Addr) (len cap : Nat) (z : List Int) (t' f' k' : Int) (a' : Option Addr) (len' cap' : Nat) (z' : List Int) (w : World) (hf : FrIn w t f k a len cap z) (hf' : FrIn w t' f' k' a' len' cap' z') :
    Calls Try.prog 6 #[.agg #[.int .u64 t, .int .u64 f, .int .u16 k, .slice a len cap], .agg #[.int .u64 t', .int .u64 f', .int .u16 k', .slice a' len' cap']] w fun e w' => e = .returned (.bool true) ∧ Below w.heap.size w w' := by
  obtain ⟨h0, h3, h1, h4, h2, h5, hz⟩ := hf
  obtain ⟨h0', h3', h1', h4', h2', h5', hz'⟩ := hf'
  obtain ⟨l, hl, hr, hc, hm⟩ := bytes_in hz
  obtain ⟨l', hl', hr', hc', hm'⟩ := bytes_in hz'
  by_cases h : 3000 < len ∨ 3000 < len'
  · exact copies_long _ _ _ _ _ _ _ _ _ _ _ _ h hm hm' w
  · exact copies_short t f k a len cap l t' f' k' a' len' cap' l' hl (Lib.hid (none_cap hz)) (by omega) hl' (by omega) w hr hr'

end Go.Proofs.Ytneofpgpinkamaa
