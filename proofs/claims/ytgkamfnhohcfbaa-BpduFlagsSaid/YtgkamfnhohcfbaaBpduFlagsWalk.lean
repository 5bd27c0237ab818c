/- The law BpduFlags, walked: it answers true, whatever the Bpdu. -/
import Derived.Test.YtgkamfnhohcfbaaBpduBackWalk
import Derived.Deep.QuietTactic
import Derived.BigQuiet
import Derived.RegionTactic
import Derived.BigRegion
import Derived.Deep.DeepCutAuto
import Derived.WalkSmall
import Derived.LoopTactic
namespace Go.Proofs.Ytgkamfnhohcfbaa
open Go.ChangeShapes Go.WideShapes Go.ChangeAt Go.RowKit
set_option linter.unusedVariables false

/-- Both Bpdus in their boxes. -/
def FS (Y : Nat) (tc ch ak : Bool) (ro co br po ag ma he de : Int) (w wx : World) : Prop := BB wx w.heap.size tc ch ak ro co br po ag ma he de ∧ BB wx Y tc (!ch) ak ro co br po ag ma he de ∧ Below w.heap.size w wx ∧ Y < wx.heap.size ∧ w.heap.size < Y

theorem fs_end {Y : Nat} {tc ch ak : Bool} {ro co br po ag ma he de : Int} {w u : World} (h0 : BB u w.heap.size tc ch ak ro co br po ag ma he de) (h1 : BB u Y tc ch ak ro co br po ag ma he de) (hb : Below w.heap.size w u) (hs : Y < u.heap.size) (hY : w.heap.size < Y) :
    FS Y tc ch ak ro co br po ag ma he de w ((u.setCell ⟨Y, 1, none⟩ (.bool (!ch))).setCell ⟨Y, 2, none⟩ (.bool ak)).drew :=
  ⟨Bk.far (Bk.far h0 (p := ⟨Y, 1, none⟩) (Nat.ne_of_gt hY) _) (p := ⟨Y, 2, none⟩) (Nat.ne_of_gt hY) _, (Bk.set h1 1 (.bool (!ch))).set 2 (.bool ak), ((hb.setCell (Nat.le_of_lt hY) _).setCell (Nat.le_of_lt hY) _).drew, by simp [World.setCell]; exact hs, hY⟩

theorem FS.cells {Y : Nat} {tc ch ak : Bool} {ro co br po ag ma he de : Int} {w w' : World} (h : FS Y tc ch ak ro co br po ag ma he de w w') : w'.cell? ⟨w.heap.size, 0, none⟩ = some (.bool tc) ∧ w'.cell? ⟨w.heap.size, 1, none⟩ = some (.bool ch) ∧ w'.cell? ⟨w.heap.size, 2, none⟩ = some (.bool ak) ∧ w'.cell? ⟨w.heap.size, 3, none⟩ = some (.int .u64 ro) ∧ w'.cell? ⟨w.heap.size, 4, none⟩ = some (.int .u32 co) ∧ w'.cell? ⟨w.heap.size, 5, none⟩ = some (.int .u64 br) ∧ w'.cell? ⟨w.heap.size, 6, none⟩ = some (.int .u16 po) ∧ w'.cell? ⟨w.heap.size, 7, none⟩ = some (.int .u16 ag) ∧ w'.cell? ⟨w.heap.size, 8, none⟩ = some (.int .u16 ma) ∧ w'.cell? ⟨w.heap.size, 9, none⟩ = some (.int .u16 he) ∧ w'.cell? ⟨w.heap.size, 10, none⟩ = some (.int .u16 de) ∧ w'.cell? ⟨Y, 0, none⟩ = some (.bool tc) ∧ w'.cell? ⟨Y, 1, none⟩ = some (.bool (!ch)) ∧ w'.cell? ⟨Y, 2, none⟩ = some (.bool ak) ∧ w'.cell? ⟨Y, 3, none⟩ = some (.int .u64 ro) ∧ w'.cell? ⟨Y, 4, none⟩ = some (.int .u32 co) ∧ w'.cell? ⟨Y, 5, none⟩ = some (.int .u64 br) ∧ w'.cell? ⟨Y, 6, none⟩ = some (.int .u16 po) ∧ w'.cell? ⟨Y, 7, none⟩ = some (.int .u16 ag) ∧ w'.cell? ⟨Y, 8, none⟩ = some (.int .u16 ma) ∧ w'.cell? ⟨Y, 9, none⟩ = some (.int .u16 he) ∧ w'.cell? ⟨Y, 10, none⟩ = some (.int .u16 de) := by
  obtain ⟨h0, h1, _⟩ := h
  obtain ⟨c0, c1, c2, c3, c4, c5, c6, c7, c8, c9, c10⟩ := h0.cells
  obtain ⟨d0, d1, d2, d3, d4, d5, d6, d7, d8, d9, d10⟩ := h1.cells
  exact ⟨c0, c1, c2, c3, c4, c5, c6, c7, c8, c9, c10, d0, d1, d2, d3, d4, d5, d6, d7, d8, d9, d10⟩

theorem FS.go {Y : Nat} {tc ch ak : Bool} {ro co br po ag ma he de : Int} {w wx wy : World} (h : FS Y tc ch ak ro co br po ag ma he de w wx) (hb : Below wx.heap.size wx wy) : FS Y tc ch ak ro co br po ag ma he de w wy :=
  ⟨h.1.below hb (Nat.lt_trans h.2.2.2.2 h.2.2.2.1), h.2.1.below hb h.2.2.2.1, h.2.2.1.trans (hb.mono h.2.2.1.size), Nat.lt_of_lt_of_le h.2.2.2.1 hb.size, h.2.2.2.2⟩

/-- Both told. -/
def FG (tc ch ak : Bool) (ro co br po ag ma he de : Int) (n : Nat) (l1 l2 : List UInt8) (a b : Value) (w wx : World) : Prop :=
  ∃ g1 g2, a = .slice (some ⟨g1, 0, none⟩) n n ∧ b = .slice (some ⟨g2, 0, none⟩) n n ∧ Bk wx g1 5 (l1.map bc) ∧ Bk wx g2 5 (l2.map bc) ∧ BB wx w.heap.size tc ch ak ro co br po ag ma he de ∧ Below w.heap.size w wx

theorem byte_cell {w : World} {g : Nat} {t : TypeId} {l : List UInt8} (P : Bk w g t (l.map bc)) (j : Nat) (h : j < l.length) : w.cell? ⟨g, j, none⟩ = some (.int .u8 (fld l j 1)) := by
  rw [P.cell, fld_one l j h]
  simp [h, bc]

theorem other_mid (A T : List UInt8) (x y : UInt8) (hl : A.length = 4) (j : Nat) (hj : j ≠ 4) : ((A ++ x :: T).drop j).take 1 = ((A ++ y :: T).drop j).take 1 := by
  rcases Nat.lt_or_gt_of_ne hj with h | h
  · rw [List.drop_append_of_le_length (by omega), List.drop_append_of_le_length (by omega), List.take_append_of_le_length (by simp; omega), List.take_append_of_le_length (by simp; omega)]
  · obtain ⟨i, rfl⟩ : ∃ i, j = A.length + (1 + i) := ⟨j - 5, by omega⟩
    rw [← List.drop_drop, ← List.drop_drop, ← List.drop_drop, ← List.drop_drop, List.drop_left, List.drop_left]
    rfl

/-- All but the flags. -/
theorem bpB_other (c1 c2 ak : Bool) (ro co br po ag ma he de : Int) (j : Nat) (hj : j ≠ 4) : fld (bpB c1 ak ro co br po ag ma he de) j 1 = fld (bpB c2 ak ro co br po ag ma he de) j 1 := by
  have e : ∀ c : Bool, bpB c ak ro co br po ag ma he de = (beB 0 3 ++ beB 0 1) ++ (UInt8.ofNat (flI c ak % 256).toNat :: (beB ro 8 ++ (beB co 4 ++ (beB br 8 ++ (beB po 2 ++ (beB ag 2 ++ (beB ma 2 ++ (beB he 2 ++ beB de 2)))))))) := by
    intro c
    simp only [bpB, bpPre, bpHead, List.append_assoc]
    rfl
  unfold fld
  rw [e c1, e c2, other_mid _ _ _ (UInt8.ofNat (flI c2 ak % 256).toNat) (by decide) j hj]

theorem flag_bytes (ch ak : Bool) : (bits .xor .u8 (flI ch ak) (flI (!ch) ak) != 1) = false ∧ (bits .and .u8 (flI ch ak) 128 != 0) = ak ∧ (bits .and .u8 (flI ch ak) 126 == 0) = true := by
  cases ch <;> cases ak <;> decide +kernel

/-- Both rows of bytes, and the Bpdu, in a later world. -/
def FL (tc ch ak : Bool) (ro co br po ag ma he de : Int) (g1 g2 : Nat) (w wr : World) : Prop :=
  Bk wr g1 5 ((bpB ch ak ro co br po ag ma he de).map bc) ∧ Bk wr g2 5 ((bpB (!ch) ak ro co br po ag ma he de).map bc) ∧ BB wr w.heap.size tc ch ak ro co br po ag ma he de ∧ Below w.heap.size w wr

theorem FL.drewN {tc ch ak : Bool} {ro co br po ag ma he de : Int} {g1 g2 : Nat} {w wr : World} (h : FL tc ch ak ro co br po ag ma he de g1 g2 w wr) (a : Nat) : FL tc ch ak ro co br po ag ma he de g1 g2 w (wr.drewN a) :=
  ⟨h.1, h.2.1, h.2.2.1, below_drewN h.2.2.2 a⟩

set_option maxRecDepth 100000 in
set_option maxHeartbeats 4000000 in
theorem BpduFlags_walk (tc ch ak : Bool) (ro co br po ag ma he de : Int) (w : World) (hin : BpIn ro co br po ag ma he de) :
    Calls Try.prog 7 #[.agg #[.bool tc, .bool ch, .bool ak, .int .u64 ro, .int .u32 co, .int .u64 br, .int .u16 po, .int .u16 ag, .int .u16 ma, .int .u16 he, .int .u16 de]] w fun e w' => e = .returned (.bool true) ∧ Below w.heap.size w w' := by
  have HP := Lib.hid (put_any tc ch ak ro co br po ag ma he de hin)
  have HQ := Lib.hid (put_any tc (!ch) ak ro co br po ag ma he de hin)
  have HI := Lib.hid hin
  clear hin
  go_enter Try.func7, Try.ntmps7
  go_wp2_with fail
  obtain ⟨w0, hB0, hb0, hs0, hw0⟩ := bboxed w tc ch ak ro co br po ag ma he de
  rw [← hw0]
  clear hw0
  (with_reducible refine (awake_any _).mono ?_); rintro e w1 ⟨rfl, hba⟩
  have B0 := hB0.below hba hs0
  have hb1 := below_two hb0 hba hb0.size
  have hs1 := Nat.lt_of_lt_of_le hs0 hba.size
  clear hB0 hb0 hba hs0
  obtain ⟨c0, c1, c2, c3, c4, c5, c6, c7, c8, c9, c10⟩ := B0.cells
  go_upto_region 4 with fail
  clear c0 c1 c2 c3 c4 c5 c6 c7 c8 c9 c10
  obtain ⟨Y, u1, hX, hu, B1, hb2, hs2, hn2⟩ := step_new hb1 tc ch ak ro co br po ag ma he de
  have B0 := B0.below hn2 hs1
  have hY : w.heap.size < Y := by rw [hX]; exact hs1
  rw [← hu, ← hX]
  clear hu hX hb1 hs1 hn2
  go_cut [] (fun wx => FS Y tc ch ak ro co br po ag ma he de w wx)
  case first =>
    obtain ⟨c0, c1, c2, c3, c4, c5, c6, c7, c8, c9, c10⟩ := B0.cells
    obtain ⟨d0, d1, d2, d3, d4, d5, d6, d7, d8, d9, d10⟩ := B1.cells
    obtain ⟨z0, z1, z2, z3, z4, z5, z6, z7, z8, z9, z10⟩ := B1.thaws
    have hne : w.heap.size ≠ Y := Nat.ne_of_lt hY
    go_region
    all_goals go_wp2_with fail
    all_goals go_meet
    all_goals exact fs_end B0 B1 hb2 hs2 hY
  case rest =>
    clear B0 B1 hb2 hs2 u1
    obtain ⟨n, hn⟩ : ∃ n, n = bpN tc := ⟨_, rfl⟩
    obtain ⟨l1, hl1⟩ : ∃ l, l = bpL tc ch ak ro co br po ag ma he de := ⟨_, rfl⟩
    obtain ⟨l2, hl2⟩ : ∃ l, l = bpL tc (!ch) ak ro co br po ag ma he de := ⟨_, rfl⟩
    rw [← hn, ← hl1] at HP
    rw [← hn, ← hl2] at HQ
    have HN := Lib.hid hn
    have HL1 := Lib.hid hl1
    have HL2 := Lib.hid hl2
    clear hn hl1 hl2
    go_wp2_with fail
    go_cut [4, 5] (fun a b wx => FG tc ch ak ro co br po ag ma he de n l1 l2 a b w wx)
    case first =>
      have hF0 : FS Y tc ch ak ro co br po ag ma he de w wc := hcut
      have hFd : FS Y tc ch ak ro co br po ag ma he de w wc.drew := ⟨hF0.1, hF0.2.1, hF0.2.2.1.drew, hF0.2.2.2⟩
      clear hcut
      obtain ⟨hx, hy, hw, hsY, hYw⟩ := id hF0
      go_region_held3 (fun w' => w'.cell? ⟨w.heap.size, 0, none⟩ = some (.bool tc) ∧ w'.cell? ⟨w.heap.size, 1, none⟩ = some (.bool ch) ∧ w'.cell? ⟨w.heap.size, 2, none⟩ = some (.bool ak) ∧ w'.cell? ⟨w.heap.size, 3, none⟩ = some (.int .u64 ro) ∧ w'.cell? ⟨w.heap.size, 4, none⟩ = some (.int .u32 co) ∧ w'.cell? ⟨w.heap.size, 5, none⟩ = some (.int .u64 br) ∧ w'.cell? ⟨w.heap.size, 6, none⟩ = some (.int .u16 po) ∧ w'.cell? ⟨w.heap.size, 7, none⟩ = some (.int .u16 ag) ∧ w'.cell? ⟨w.heap.size, 8, none⟩ = some (.int .u16 ma) ∧ w'.cell? ⟨w.heap.size, 9, none⟩ = some (.int .u16 he) ∧ w'.cell? ⟨w.heap.size, 10, none⟩ = some (.int .u16 de) ∧ w'.cell? ⟨Y, 0, none⟩ = some (.bool tc) ∧ w'.cell? ⟨Y, 1, none⟩ = some (.bool (!ch)) ∧ w'.cell? ⟨Y, 2, none⟩ = some (.bool ak) ∧ w'.cell? ⟨Y, 3, none⟩ = some (.int .u64 ro) ∧ w'.cell? ⟨Y, 4, none⟩ = some (.int .u32 co) ∧ w'.cell? ⟨Y, 5, none⟩ = some (.int .u64 br) ∧ w'.cell? ⟨Y, 6, none⟩ = some (.int .u16 po) ∧ w'.cell? ⟨Y, 7, none⟩ = some (.int .u16 ag) ∧ w'.cell? ⟨Y, 8, none⟩ = some (.int .u16 ma) ∧ w'.cell? ⟨Y, 9, none⟩ = some (.int .u16 he) ∧ w'.cell? ⟨Y, 10, none⟩ = some (.int .u16 de)) (first | exact hF0.cells | exact hFd.cells | exact hF4.cells | exact hF5.cells | exact hF6.cells | exact hF7.cells | assumption) (first
        | (go_at_call 9; (with_reducible refine (HP.out _).mono ?_); rintro e w4 ⟨g4, rfl, hg4, hP4, hl4, hb4⟩; have hF4 := hFd.go hb4; clear hl4)
        | (go_at_call 9; (with_reducible refine (HQ.out _).mono ?_); rintro e w5 ⟨g5, rfl, hg5, hP5, hl5, hb5⟩; have hF5 := hF4.go hb5; have hP45 := hP4.below hb5 hP4.lt; clear hl5)
        | (go_at_call 9; (with_reducible refine (HQ.out _).mono ?_); rintro e w6 ⟨g6, rfl, hg6, hP6, hl6, hb6⟩; have hF6 := hFd.go hb6; clear hl6)
        | (go_at_call 9; (with_reducible refine (HP.out _).mono ?_); rintro e w7 ⟨g7, rfl, hg7, hP7, hl7, hb7⟩; have hF7 := hF6.go hb7; have hP67 := hP6.below hb7 hP6.lt; clear hl7))
      all_goals go_wp2_with fail
      all_goals go_meet
      all_goals first | exact ⟨g4, g5, rfl, rfl, hP45, hP5, hF5.1, hF5.2.2.1⟩ | exact ⟨g7, g6, rfl, rfl, hP7, hP67, hF7.1, hF7.2.2.1⟩
    case rest =>
      obtain ⟨g1, g2, rfl, rfl, P1, P2, B0, hb4⟩ := hcut
      clear HP HQ
      obtain ⟨c0, c1, c2, c3, c4, c5, c6, c7, c8, c9, c10⟩ := B0.cells
      cases tc
      · have e1 : l1 = bpB ch ak ro co br po ag ma he de := HL1.out
        have e2 : l2 = bpB (!ch) ak ro co br po ag ma he de := HL2.out
        have e3 : n = 35 := HN.out
        clear HL1 HL2 HN
        subst e1 e2 e3
        have hFL : FL false ch ak ro co br po ag ma he de g1 g2 w _ := ⟨P1, P2, B0, hb4⟩
        have x1 := byte_cell P1 4 (by rw [bpB_len]; decide)
        have x2 := byte_cell P2 4 (by rw [bpB_len]; decide)
        have y1 := (bpB_flds ch ak ro co br po ag ma he de HI.out []).2.2.1
        have y2 := (bpB_flds (!ch) ak ro co br po ag ma he de HI.out []).2.2.1
        rw [List.append_nil] at y1 y2
        rw [y1] at x1
        rw [y2] at x2
        clear y1 y2
        obtain ⟨f1, f2, f3⟩ := flag_bytes ch ak
        obtain ⟨v, hv⟩ : ∃ v, v = flI ch ak := ⟨_, rfl⟩
        obtain ⟨v', hv'⟩ : ∃ v, v = flI (!ch) ak := ⟨_, rfl⟩
        rw [← hv, ← hv'] at f1
        rw [← hv] at f2 f3 x1
        rw [← hv'] at x2
        have HV := Lib.hid hv
        have HV' := Lib.hid hv'
        clear hv hv'
        go_wp2_with fail
        go_quiet (fail)
        go_wp2_with fail
        go_loopw [6] (fun i wr => ∃ j : Nat, j ≤ 35 ∧ i = .int .i64 j ∧ FL false ch ak ro co br po ag ma he de g1 g2 w wr) (fun i _ => 35 - (intOf i).toNat)
        case atStart => exact ⟨0, by omega, rfl, FL.drewN hFL _⟩
        case round =>
          obtain ⟨j, hj, rfl, hR⟩ := hrel
          clear x1 x2 hFL P1 P2 B0 hb4 c0 c1 c2 c3 c4 c5 c6 c7 c8 c9 c10
          by_cases hlt : j < 35
          · by_cases h4 : j = 4
            · subst h4
              go_wp2_with fail
              go_quiet (fail)
              go_wp2_with fail
              go_roundw
              case rel => exact ⟨5, by omega, by go_num, FL.drewN hR _⟩
              case measure => simp [intOf]
            · have a1 := byte_cell hR.1 j (by rw [bpB_len]; exact hlt)
              have a2 := byte_cell hR.2.1 j (by rw [bpB_len]; exact hlt)
              rw [bpB_other (!ch) ch ak ro co br po ag ma he de j h4] at a2
              obtain ⟨t, ht⟩ : ∃ t, t = fld (bpB ch ak ro co br po ag ma he de) j 1 := ⟨_, rfl⟩
              rw [← ht] at a1 a2
              clear ht
              have d4 : ((j : Int) != 4) = true := by simp; omega
              have k1 : (j : Int) < 35 := by omega
              have k2 : (0 : Int) ≤ (j : Int) := by omega
              clear h4
              go_wp2_with fail
              go_quiet (fail)
              go_wp2_with fail
              go_roundw
              case rel => exact ⟨j + 1, by omega, by go_num, FL.drewN hR _⟩
              case measure => simp [intOf]; omega
          · obtain rfl : j = 35 := by omega
            have x1 := byte_cell hR.1 4 (by rw [bpB_len]; decide)
            have y1 := (bpB_flds ch ak ro co br po ag ma he de HI.out []).2.2.1
            rw [List.append_nil] at y1
            rw [y1, ← HV.out] at x1
            obtain ⟨c0, c1, c2, c3, c4, c5, c6, c7, c8, c9, c10⟩ := hR.2.2.1.cells
            clear y1
            go_wp2_with fail
            go_quiet (fail)
            go_wp2
            go_ret
            exact ⟨rfl, below_drewN hR.2.2.2 _⟩
      · have e1 : l1 = tcnB := HL1.out
        have e2 : l2 = tcnB := HL2.out
        have e3 : n = 4 := HN.out
        clear HL1 HL2 HN
        subst e1 e2 e3
        have v1 := conv_bk g1 tcnB P1 4 4 (Lib.hid (by decide))
        have v2 := conv_bk g2 tcnB P2 4 4 (Lib.hid (by decide))
        go_wp2
        go_ret
        exact ⟨rfl, hb4⟩

end Go.Proofs.Ytgkamfnhohcfbaa
