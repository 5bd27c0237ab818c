/- The law FrameOpens, walked: it answers true, whatever the frame, the address and the bytes, where bpduHead holds its three bytes. -/
import Derived.Test.YtneofpgpinkamaaDoorFrameRefOpen
import Derived.Test.YtneofpgpinkamaaDoorFrameWrap
namespace Go.Proofs.YtneofpgpinkamaaDoor
open Go.ChangeShapes Go.WideShapes Go.ChangeAt Go.RowKit
set_option linter.unusedVariables false

theorem opens_long (t f k : Int) (A : Option Addr) (n c : Nat) (u : Int) (B : Option Addr) (m d : Nat) (h : 3000 < n ∨ 1497 < m) (hn : n ≤ 9223372036854775807) (hm : m ≤ 9223372036854775807) (w : World) :
    Calls Tryd.prog 3 #[.agg #[.int .u64 t, .int .u64 f, .int .u16 k, .slice A n c], .int .u64 u, .slice B m d] w fun e w' => e = .returned (.bool true) ∧ Below w.heap.size w w' := by
  by_cases h6 : 3000 < n
  · have d3 : decide (3000 < (n : Int)) = true := by simp; omega
    clear h
    go_enter Tryd.func3, Tryd.ntmps3
    go_wp2_with fail
    obtain ⟨w0, hB0, hb0, hs0, hw0⟩ := boxed w t f k A n c
    rw [← hw0]
    clear hw0
    (with_reducible refine (awake_any _).mono ?_); rintro e wa ⟨rfl, hba⟩
    have hB1 := hB0.below hba hs0
    have hbw1 := below_two hb0 hba hb0.size
    obtain ⟨c0, c1, c2, c3⟩ := hB1.cells
    go_wp2_with fail
    (with_reducible refine (awake_any _).mono ?_); rintro e wb ⟨rfl, hbb⟩
    go_wp2
    go_ret
    exact ⟨rfl, below_two hbw1 hbb hbw1.size⟩
  · have d3 : decide (3000 < (n : Int)) = false := by simp; omega
    have d4 : decide (1497 < (m : Int)) = true := by simp; omega
    clear h h6
    go_enter Tryd.func3, Tryd.ntmps3
    go_wp2_with fail
    obtain ⟨w0, hB0, hb0, hs0, hw0⟩ := boxed w t f k A n c
    rw [← hw0]
    clear hw0
    (with_reducible refine (awake_any _).mono ?_); rintro e wa ⟨rfl, hba⟩
    have hB1 := hB0.below hba hs0
    have hbw1 := below_two hb0 hba hb0.size
    obtain ⟨c0, c1, c2, c3⟩ := hB1.cells
    go_wp2_with fail
    (with_reducible refine (awake_any _).mono ?_); rintro e wb ⟨rfl, hbb⟩
    go_wp2
    go_ret
    exact ⟨rfl, below_two hbw1 hbb hbw1.size⟩

theorem check_wrap (a : Int) (M : Nat) (h1 : a < 281474976710656) (hM : M ≤ 1500) : checkI 1652522221568 a (M : Int) M = 0 := by
  unfold checkI
  rw [if_neg (by omega), if_neg (by omega), if_neg (by omega), if_pos ⟨by omega, rfl⟩]

theorem open_wrap (M : Nat) (l : List UInt8) (hM : M ≤ 1500) : openB 1652522221568 (M : Int) (66 :: 66 :: 3 :: l) = true := by
  unfold openB
  have : decide ((M : Int) ≤ 1500) = true := by simp; omega
  rw [this]
  simp

set_option maxRecDepth 100000 in
theorem opens_short (t f k : Int) (A : Option Addr) (n c : Nat) (l : List UInt8) (u : Int) (B : Option Addr) (m d : Nat) (lm : List UInt8) (hl : Hid (l.length = n)) (hc : n ≤ c) (hnc : Hid (A = none → c = 0)) (hn : n ≤ 3000) (h2 : 0 ≤ k) (h5 : k < 65536)
    (hlm : Hid (lm.length = m)) (hm : m ≤ 1497) (u0 : 0 ≤ u) (u1 : u < 18446744073709551616) (w : World) (hd : Hd w) (hr : RB w A 0 w.heap.size l) (hrm : RB w B 0 w.heap.size lm) :
    Calls Tryd.prog 3 #[.agg #[.int .u64 t, .int .u64 f, .int .u16 k, .slice A n c], .int .u64 u, .slice B m d] w fun e w' => e = .returned (.bool true) ∧ Below w.heap.size w w' := by
  have d3 : decide (3000 < (n : Int)) = false := by simp; omega
  have d4 : decide (1497 < (m : Int)) = false := by simp; omega
  obtain ⟨M, hM⟩ : ∃ M, M = 3 + m := ⟨_, rfl⟩
  have HM := Lib.hid hM
  have hMu : M ≤ 1500 := by omega
  have hm3 : Hid (M - 3 = m) := Lib.hid (by omega)
  clear hM
  obtain ⟨a, ha⟩ : ∃ a, a = u % 281474976710656 := ⟨_, rfl⟩
  have a0 : 0 ≤ a := by omega
  have a1 : a < 281474976710656 := by omega
  have HA := Lib.hid ha
  clear ha
  go_enter Tryd.func3, Tryd.ntmps3
  go_wp2_with fail
  obtain ⟨w0, hB0, hb0, hs0, hw0⟩ := boxed w t f k A n c
  rw [← hw0]
  clear hw0
  (with_reducible refine (awake_any _).mono ?_); rintro e w1 ⟨rfl, hba⟩
  have hB1 := hB0.below hba hs0
  have hbw1 := below_two hb0 hba hb0.size
  have hs1 := Nat.lt_of_lt_of_le hs0 hba.size
  have hd1 := hd.below hbw1 (Nat.le_refl _)
  have hr1 := (hr.below hbw1 (Nat.le_refl _)).wide (Nat.le_refl 0) hbw1.size
  clear hB0 hb0 hba hs0
  obtain ⟨c0, c1, c2, c3⟩ := hB1.cells
  go_wp2_with fail
  (with_reducible refine (open_any t f k A n c l hl hc hnc (by omega) h2 h5 _ hd1 hr1).mono ?_); rintro e w2 (⟨hyes, D, cap, rfl, hD, hb2⟩ | ⟨hno, rfl, hb2⟩)
  · have hB2 := hB1.below hb2 hs1
    have hbw2 := below_two hbw1 hb2 hbw1.size
    have hs2 := Nat.lt_of_lt_of_le hs1 hb2.size
    have hr2 := (hr.below hbw2 (Nat.le_refl _)).wide (Nat.le_refl 0) hbw2.size
    clear c0 c1 c2 c3 hB1 hbw1 hs1 hd1 hr1 hb2
    obtain ⟨c0, c1, c2, c3⟩ := hB2.cells
    go_wp2_with fail
    (with_reducible refine (refopen_any t f k A n c l hl (by omega) h2 h5 _ hr2).mono ?_); rintro e w3 ⟨⟨hyes2, h3n, rfl⟩ | ⟨hno2, _⟩, hb3⟩
    case inr => rw [hyes] at hno2; cases hno2
    have hbw3 := below_two hbw2 hb3 hbw2.size
    have hdl : Hid ((l.drop 3).length = n - 3) := by show _ = _; rw [List.length_drop, hl.out]
    have cx := conv_any (hD.below hb3 (Nat.le_refl _)) (n - 3) cap hdl
    have cy := conv_any ((hr.below hbw3 (Nat.le_refl _)).drop 3 c (by rw [hl.out]; exact hc)) (n - 3) (c - 3) hdl
    have hd3 := hd.below hbw3 (Nat.le_refl _)
    have hrm3 := (hrm.below hbw3 (Nat.le_refl _)).wide (Nat.le_refl 0) hbw3.size
    clear c0 c1 c2 c3 hB2 hs2 hr2
    go_wp2_with fail
    rw [← HA.out]
    (with_reducible refine (wrap_any a B m d lm M HM hlm hm _ hd3 hrm3).mono ?_); rintro e w4 ⟨g, rfl, hg4, hP4, hb4⟩
    have hbw4 := below_two hbw3 hb4 hbw3.size
    go_wp2_with fail
    obtain ⟨w5, hB5, hb5, hs5, hw5⟩ := boxed w4 1652522221568 a (M : Int) (some ⟨g, 0, none⟩) M M
    rw [← hw5]
    clear hw5
    have hP5 := hP4.below hb5 hP4.lt
    have hbw5 := below_two hbw4 hb5 hbw4.size
    have hd5 := hd.below hbw5 (Nat.le_refl _)
    have hwl : Hid ((66 :: 66 :: 3 :: lm).length = M) := by show _ = _; simp [hlm.out, HM.out]; omega
    (with_reducible refine (open_any 1652522221568 a (M : Int) (some ⟨g, 0, none⟩) M M (66 :: 66 :: 3 :: lm) hwl (Nat.le_refl _) (Lib.hid (fun e => by cases e)) (by omega) (by omega) (by omega) _ hd5 (hP5.rb 0 w5.heap.size (Nat.zero_le _) hP5.lt)).mono ?_); rintro e w6 (⟨_, D6, cap6, rfl, hD6, hb6⟩ | ⟨hno6, _⟩)
    case inr => rw [open_wrap M lm hMu] at hno6; cases hno6
    rw [hm3.out]
    have hD6' : RB w6 D6 0 w6.heap.size lm := hD6
    have hB6 := hB5.below hb6 hs5
    have hs6 := Nat.lt_of_lt_of_le hs5 hb6.size
    have hbw6 := below_two hbw5 hb6 hbw5.size
    have cv := conv_any hD6' m cap6 hlm
    have cw := conv_any (hrm.below hbw6 (Nat.le_refl _)) m d hlm
    obtain ⟨c0, c1, c2, c3⟩ := hB6.cells
    clear cx hP4 hP5 hd3 hd5 hB5 hb5
    go_wp2_with fail
    (with_reducible refine (check_any 1652522221568 a (M : Int) (some ⟨g, 0, none⟩) M M (by omega) (by omega) a0 (by omega) (by omega) (by omega) (by omega) _).mono ?_); rintro e w7 ⟨rfl, hb7⟩
    rw [check_wrap a M a1 hMu]
    go_wp2
    go_ret
    exact ⟨rfl, below_two hbw6 hb7 hbw6.size⟩
  · have hB2 := hB1.below hb2 hs1
    have hbw2 := below_two hbw1 hb2 hbw1.size
    have hs2 := Nat.lt_of_lt_of_le hs1 hb2.size
    have hr2 := (hr.below hbw2 (Nat.le_refl _)).wide (Nat.le_refl 0) hbw2.size
    clear c0 c1 c2 c3 hB1 hbw1 hs1 hd1 hr1 hb2
    obtain ⟨c0, c1, c2, c3⟩ := hB2.cells
    go_wp2_with fail
    (with_reducible refine (refopen_any t f k A n c l hl (by omega) h2 h5 _ hr2).mono ?_); rintro e w3 ⟨⟨hyes2, _⟩ | ⟨hno2, rfl⟩, hb3⟩
    case inl => rw [hno] at hyes2; cases hyes2
    have hbw3 := below_two hbw2 hb3 hbw2.size
    have cx := conv_nil w3
    have hd3 := hd.below hbw3 (Nat.le_refl _)
    have hrm3 := (hrm.below hbw3 (Nat.le_refl _)).wide (Nat.le_refl 0) hbw3.size
    clear c0 c1 c2 c3 hB2 hs2 hr2
    go_wp2_with fail
    rw [← HA.out]
    (with_reducible refine (wrap_any a B m d lm M HM hlm hm _ hd3 hrm3).mono ?_); rintro e w4 ⟨g, rfl, hg4, hP4, hb4⟩
    have hbw4 := below_two hbw3 hb4 hbw3.size
    go_wp2_with fail
    obtain ⟨w5, hB5, hb5, hs5, hw5⟩ := boxed w4 1652522221568 a (M : Int) (some ⟨g, 0, none⟩) M M
    rw [← hw5]
    clear hw5
    have hP5 := hP4.below hb5 hP4.lt
    have hbw5 := below_two hbw4 hb5 hbw4.size
    have hd5 := hd.below hbw5 (Nat.le_refl _)
    have hwl : Hid ((66 :: 66 :: 3 :: lm).length = M) := by show _ = _; simp [hlm.out, HM.out]; omega
    (with_reducible refine (open_any 1652522221568 a (M : Int) (some ⟨g, 0, none⟩) M M (66 :: 66 :: 3 :: lm) hwl (Nat.le_refl _) (Lib.hid (fun e => by cases e)) (by omega) (by omega) (by omega) _ hd5 (hP5.rb 0 w5.heap.size (Nat.zero_le _) hP5.lt)).mono ?_); rintro e w6 (⟨_, D6, cap6, rfl, hD6, hb6⟩ | ⟨hno6, _⟩)
    case inr => rw [open_wrap M lm hMu] at hno6; cases hno6
    rw [hm3.out]
    have hD6' : RB w6 D6 0 w6.heap.size lm := hD6
    have hB6 := hB5.below hb6 hs5
    have hs6 := Nat.lt_of_lt_of_le hs5 hb6.size
    have hbw6 := below_two hbw5 hb6 hbw5.size
    have cv := conv_any hD6' m cap6 hlm
    have cw := conv_any (hrm.below hbw6 (Nat.le_refl _)) m d hlm
    obtain ⟨c0, c1, c2, c3⟩ := hB6.cells
    clear cx hP4 hP5 hd3 hd5 hB5 hb5
    go_wp2_with fail
    (with_reducible refine (check_any 1652522221568 a (M : Int) (some ⟨g, 0, none⟩) M M (by omega) (by omega) a0 (by omega) (by omega) (by omega) (by omega) _).mono ?_); rintro e w7 ⟨rfl, hb7⟩
    rw [check_wrap a M a1 hMu]
    go_wp2
    go_ret
    exact ⟨rfl, below_two hbw6 hb7 hbw6.size⟩

theorem FrameOpens_walk (t f k : Int) (a : Option Addr) (len cap : Nat) (z : List Int) (u : Int) (a2 : Option Addr) (len2 cap2 : Nat) (z2 : List Int) (w : World) (hd : Hd w) (hf : FrIn w t f k a len cap z) (hu : (Lit.int .u64 u).wf = true) (hz2 : IsRow .u8 w a2 len2 cap2 z2) :
    Calls Tryd.prog 3 #[.agg #[.int .u64 t, .int .u64 f, .int .u16 k, .slice a len cap], .int .u64 u, .slice a2 len2 cap2] w fun e w' => e = .returned (.bool true) ∧ Below w.heap.size w w' := by
  obtain ⟨h0, h3, h1, h4, h2, h5, hz⟩ := hf
  obtain ⟨l, hl, hr, hc, hm⟩ := bytes_in hz
  obtain ⟨l2, hl2, hr2, hc2, hm2⟩ := bytes_in hz2
  obtain ⟨u0, u1⟩ := bounds_u64 hu
  by_cases h : 3000 < len ∨ 1497 < len2
  · exact opens_long _ _ _ _ _ _ _ _ _ _ h hm hm2 w
  · exact opens_short t f k a len cap l u a2 len2 cap2 l2 hl hc (Lib.hid (none_cap hz)) (by omega) h2 h5 hl2 (by omega) u0 (by omega) w hd hr hr2

end Go.Proofs.YtneofpgpinkamaaDoor
