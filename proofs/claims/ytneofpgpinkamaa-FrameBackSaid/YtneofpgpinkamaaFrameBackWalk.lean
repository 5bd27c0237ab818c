/- The law FrameBack, walked: it answers true, whatever the frame, the bytes behind it and the cut. -/
import Derived.Test.YtneofpgpinkamaaFrameBackMath
import Derived.Test.YtneofpgpinkamaaFrameRefGet
import Derived.Test.YtneofpgpinkamaaFrameSame
namespace Go.Proofs.Ytneofpgpinkamaa
open Go.ChangeShapes Go.WideShapes Go.ChangeAt Go.RowKit
set_option linter.unusedVariables false

theorem back_long (t f k : Int) (A : Option Addr) (n c : Nat) (B : Option Addr) (m d : Nat) (u : Int) (h : 3000 < n ∨ 3000 < m) (hn : n ≤ 9223372036854775807) (hm : m ≤ 9223372036854775807) (w : World) :
    Calls Try.prog 5 #[.agg #[.int .u64 t, .int .u64 f, .int .u16 k, .slice A n c], .slice B m d, .int .u16 u] w fun e w' => e = .returned (.bool true) ∧ Below w.heap.size w w' := by
  by_cases h6 : 3000 < n
  · have d3 : decide (3000 < (n : Int)) = true := by simp; omega
    clear h
    go_enter Try.func5, Try.ntmps5
    go_wp2_with fail
    obtain ⟨w0, hB0, hb0, hs0, hw0⟩ := boxed w t f k A n c
    rw [← hw0]
    clear hw0
    (with_reducible refine (awake_any _).mono ?_); rintro e wa ⟨rfl, hba⟩
    have hB1 := hB0.below hba hs0
    have hbw1 := below_two hb0 hba hb0.size
    obtain ⟨c0, c1, c2, c3⟩ := hB1.cells
    go_wp2_with fail
    (with_reducible refine (awake_any _).mono ?_); rintro e wb ⟨rfl, hbb⟩
    go_wp2
    go_ret
    exact ⟨rfl, below_two hbw1 hbb hbw1.size⟩
  · have d3 : decide (3000 < (n : Int)) = false := by simp; omega
    have d4 : decide (3000 < (m : Int)) = true := by simp; omega
    clear h h6
    go_enter Try.func5, Try.ntmps5
    go_wp2_with fail
    obtain ⟨w0, hB0, hb0, hs0, hw0⟩ := boxed w t f k A n c
    rw [← hw0]
    clear hw0
    (with_reducible refine (awake_any _).mono ?_); rintro e wa ⟨rfl, hba⟩
    have hB1 := hB0.below hba hs0
    have hbw1 := below_two hb0 hba hb0.size
    obtain ⟨c0, c1, c2, c3⟩ := hB1.cells
    go_wp2_with fail
    (with_reducible refine (awake_any _).mono ?_); rintro e wb ⟨rfl, hbb⟩
    go_wp2
    go_ret
    exact ⟨rfl, below_two hbw1 hbb hbw1.size⟩

set_option maxRecDepth 100000 in
theorem back_short (t f k : Int) (A : Option Addr) (n c : Nat) (l : List UInt8) (B : Option Addr) (m d : Nat) (lm : List UInt8) (u : Int) (hl : Hid (l.length = n)) (hnc : Hid (A = none → c = 0)) (hn : n ≤ 3000) (h0 : 0 ≤ t) (h1 : 0 ≤ f) (h2 : 0 ≤ k) (h3 : t < 18446744073709551616) (h4 : f < 18446744073709551616) (h5 : k < 65536)
    (hlm : Hid (lm.length = m)) (hmd : Hid (B = none → d = 0)) (hm : m ≤ 3000) (u0 : 0 ≤ u) (u1 : u < 65536) (w : World) (hr : RB w A 0 w.heap.size l) (hrm : RB w B 0 w.heap.size lm) :
    Calls Try.prog 5 #[.agg #[.int .u64 t, .int .u64 f, .int .u16 k, .slice A n c], .slice B m d, .int .u16 u] w fun e w' => e = .returned (.bool true) ∧ Below w.heap.size w w' := by
  have d3 : decide (3000 < (n : Int)) = false := by simp; omega
  have d4 : decide (3000 < (m : Int)) = false := by simp; omega
  obtain ⟨z, hz⟩ : ∃ z, z = checkI t f k n := ⟨_, rfl⟩
  have HZ := Lib.hid hz
  clear hz
  go_enter Try.func5, Try.ntmps5
  go_wp2_with fail
  obtain ⟨w0, hB0, hb0, hs0, hw0⟩ := boxed w t f k A n c
  rw [← hw0]
  clear hw0
  (with_reducible refine (awake_any _).mono ?_); rintro e wa ⟨rfl, hba⟩
  have hB1 := hB0.below hba hs0
  have hbw1 := below_two hb0 hba hb0.size
  have hs1 := Nat.lt_of_lt_of_le hs0 hba.size
  clear hB0 hb0 hba hs0
  obtain ⟨c0, c1, c2, c3⟩ := hB1.cells
  go_wp2_with fail
  by_cases hz0 : z = 0
  case neg =>
    have hbad : (checkI t f k n != 0) = true := by rw [← HZ.out]; simpa using hz0
    (with_reducible refine (put_bad t f k A n c (by omega) h0 h1 h2 h3 h4 h5 hbad _).mono ?_); rintro e w2 ⟨rfl, hb2⟩
    rw [← HZ.out] at hbad ⊢
    clear hz0
    go_wp2
    go_ret
    exact ⟨rfl, below_two hbw1 hb2 hbw1.size⟩
  case pos =>
    have hok : Hid (checkI t f k n = 0) := Lib.hid (HZ.out.symm.trans hz0)
    clear hz0 HZ
    obtain ⟨b0, b1, b2, hkk⟩ := check_ok hok.out
    have HKK := Lib.hid hkk
    clear hkk
    (with_reducible refine (put_ok t f k A n c l hl hnc hn h0 h1 h2 h3 h4 h5 hok _ ((hr.below hbw1 (Nat.le_refl _)).wide (Nat.le_refl _) hbw1.size)).mono ?_); rintro e w2 ⟨g, cap, rfl, hg, hrow, hb2⟩
    have hcap : 14 + n ≤ cap := by obtain ⟨_, _, q, _⟩ := hrow; rw [frB_len, hl.out] at q; exact q
    obtain ⟨N, hN⟩ : ∃ N, N = 14 + n := ⟨_, rfl⟩
    rw [← hN] at hcap ⊢
    have HN := Lib.hid hN
    have hN1 : 14 ≤ N := by omega
    have hN2 : N ≤ 1514 := by omega
    clear hN
    have hB2 := hB1.below hb2 hs1
    have hbw2 := below_two hbw1 hb2 hbw1.size
    have hs2 := Nat.lt_of_lt_of_le hs1 hb2.size
    have hgl := hrow.lt
    have hrb2 : RB w2 (some ⟨g, 0, none⟩) 0 w2.heap.size (frB t f k l) := hrow.rb 0 w2.heap.size (Nat.zero_le _) hgl
    have hfl : Hid ((frB t f k l).length = N) := by show _ = _; rw [frB_len, hl.out, HN.out]
    have hE0 : Hid (gdE k n = 0) := by
      show _ = _
      rcases HKK.out with q | ⟨q, q'⟩
      · exact gd_type k n q b2
      · exact gd_len k n q (by omega)
    have hG : Hid (gdL k l = l) := by
      show _ = _
      rcases HKK.out with q | ⟨q, q'⟩
      · exact gdL_type k l q
      · have := gdL_len k l [] q (by rw [hl.out]; exact q'); rw [List.append_nil] at this; exact this
    have hE : Hid (getE (frB t f k l) = 0) := by show _ = _; rw [frB_getE t f k l h2 h5, hl.out, hE0.out]
    have hL : Hid (l = getL (frB t f k l)) := by show _ = _; rw [frB_getL t f k l h2 h5, hG.out]
    clear hB1 hbw1 hb2 hs1 c0 c1 c2 c3 hg hrow
    obtain ⟨c0, c1, c2, c3⟩ := hB2.cells
    go_wp2_with fail
    (with_reducible refine (get_ok (some ⟨g, 0, none⟩) N cap (frB t f k l) l n hfl (by omega) hL hl hE _ hrb2).mono ?_); rintro e w3 ⟨g3, rfl, hg3, hP3, hb3⟩
    rw [frB_to t f k l h0 b0, frB_from t f k l h1 b1, frB_kind t f k l h2 h5]
    have hB3 := hB2.below hb3 hs2
    have hbw3 := below_two hbw2 hb3 hbw2.size
    have hs3 := Nat.lt_of_lt_of_le hs2 hb3.size
    have hrb3 := (hrb2.below hb3 (Nat.le_refl _)).wide (Nat.le_refl 0) hb3.size
    clear hB2 hbw2 hb3 hs2 c0 c1 c2 c3 hrb2
    obtain ⟨c0, c1, c2, c3⟩ := hB3.cells
    go_wp2_with fail
    obtain ⟨w4, hG4, hb4, hs4, hw4⟩ := boxed w3 t f k (some ⟨g3, 0, none⟩) n n
    rw [← hw4]
    clear hw4
    have hB4 := hB3.below hb4 hs3
    have hbw4 := below_two hbw3 hb4 hbw3.size
    have hs4' := Nat.lt_of_lt_of_le hs3 hb4.size
    have hrb4 := (hrb3.below hb4 (Nat.le_refl _)).wide (Nat.le_refl 0) hb4.size
    have hP4 := hP3.below hb4 hP3.lt
    (with_reducible refine (same_any t f k A n c l t f k (some ⟨g3, 0, none⟩) n n l hl hl _ ((hr.below hbw4 (Nat.le_refl _)).wide (Nat.le_refl _) hbw4.size) (hP4.rb 0 w4.heap.size (Nat.zero_le _) hP4.lt)).mono ?_); rintro e w5 ⟨rfl, hb5⟩
    rw [sameF_self]
    have hB5 := hB4.below hb5 hs4'
    have hbw5 := below_two hbw4 hb5 hbw4.size
    have hs5 := Nat.lt_of_lt_of_le hs4' hb5.size
    have hrb5 := (hrb4.below hb5 (Nat.le_refl _)).wide (Nat.le_refl 0) hb5.size
    clear hB3 hbw3 hs3 c0 c1 c2 c3 hrb3 hG4 hb4 hs4 hB4 hbw4 hs4' hrb4 hP4 hP3 hb5 hE hL hG hE0 hg3
    obtain ⟨c0, c1, c2, c3⟩ := hB5.cells
    obtain ⟨p, hp⟩ : ∃ p : Nat, u % (N : Int) = (p : Int) := ⟨(u % (N : Int)).toNat, by have := Int.emod_nonneg u (show (N : Int) ≠ 0 by omega); omega⟩
    have hpN : p < N := by have := Int.emod_lt_of_pos u (show (0 : Int) < N by omega); omega
    have s5 := cut3_any (some ⟨g, 0, none⟩) N cap p (by omega)
    go_wp2_with fail
    have hxl : Hid (((frB t f k l).take p).length = p) := by show _ = _; rw [List.length_take, hfl.out]; omega
    clear s5 hp
    by_cases hk : 1536 ≤ k
    · have dk : 1500 < k := by omega
      by_cases hp14 : p < 14
      · have hE2 : Hid (getE ((frB t f k l).take p) = 2) := Lib.hid (getE_less _ (by rw [hxl.out]; exact hp14))
        (with_reducible refine (get_bad (some ⟨g, 0, none⟩) p cap ((frB t f k l).take p) 2 hxl (by omega) hE2 (by decide) _ (hrb5.take p)).mono ?_); rintro e w6 ⟨rfl, hb6⟩
        have hB6 := hB5.below hb6 hs5
        have hs6 := Nat.lt_of_lt_of_le hs5 hb6.size
        clear c0 c1 c2 c3
        obtain ⟨c0, c1, c2, c3⟩ := hB6.cells
        go_wp2
        go_ret
        exact ⟨rfl, (below_two hbw5 hb6 hbw5.size).alloc (below_two hbw5 hb6 hbw5.size).size _⟩
      · obtain ⟨q, hq⟩ : ∃ q, q = p - 14 := ⟨_, rfl⟩
        have hqn : q < n := by have := HN.out; omega
        have hxt : (frB t f k l).take p = frB t f k (l.take q) := by rw [frB_take t f k l p (by omega), hq]
        have htl : Hid ((l.take q).length = q) := by show _ = _; rw [List.length_take, hl.out]; omega
        have hE2 : Hid (getE (frB t f k (l.take q)) = 0) := by show _ = _; rw [frB_getE _ _ _ _ h2 h5, htl.out]; exact gd_type k q hk (by omega)
        have hL2 : Hid (l.take q = getL (frB t f k (l.take q))) := by show _ = _; rw [frB_getL _ _ _ _ h2 h5, gdL_type k _ hk]
        have hr5 := hrb5.take p
        rw [hxt] at hxl hr5
        clear hq hxt
        (with_reducible refine (get_ok (some ⟨g, 0, none⟩) p cap (frB t f k (l.take q)) (l.take q) q hxl (by omega) hL2 htl hE2 _ hr5).mono ?_); rintro e w6 ⟨g6, rfl, hg6, hP6, hb6⟩
        rw [frB_to _ _ _ _ h0 b0, frB_from _ _ _ _ h1 b1, frB_kind _ _ _ _ h2 h5]
        have hB6 := hB5.below hb6 hs5
        have hs6 := Nat.lt_of_lt_of_le hs5 hb6.size
        clear c0 c1 c2 c3
        obtain ⟨c0, c1, c2, c3⟩ := hB6.cells
        go_wp2
        go_ret
        exact ⟨rfl, (below_two hbw5 hb6 hbw5.size).alloc (below_two hbw5 hb6 hbw5.size).size _⟩
    · have hkl : k ≤ 1500 ∧ k = n := by rcases HKK.out with q | q; exact absurd q hk; exact q
      obtain ⟨hk5, hkn⟩ := hkl
      have dk : decide (1500 < k) = false := by simp; omega
      have hE2 : Hid (getE ((frB t f k l).take p) = 2) := by
        show _ = _
        by_cases hp14 : p < 14
        · exact getE_less _ (by rw [hxl.out]; exact hp14)
        · rw [frB_take t f k l p (by omega), frB_getE _ _ _ _ h2 h5]
          refine gd_less k _ hk5 ?_
          rw [List.length_take, hl.out]
          have := HN.out
          omega
      have HKN := Lib.hid hkn
      clear hkn hk
      (with_reducible refine (get_bad (some ⟨g, 0, none⟩) p cap ((frB t f k l).take p) 2 hxl (by omega) hE2 (by decide) _ (hrb5.take p)).mono ?_); rintro e w6 ⟨rfl, hb6⟩
      have hB6 := hB5.below hb6 hs5
      have hbw6 := below_two hbw5 hb6 hbw5.size
      have hs6 := Nat.lt_of_lt_of_le hs5 hb6.size
      have hrb6 := (hrb5.below hb6 (Nat.le_refl _)).wide (Nat.le_refl 0) hb6.size
      clear c0 c1 c2 c3 hB5 hbw5 hs5 hb6 hrb5
      obtain ⟨c0, c1, c2, c3⟩ := hB6.cells
      go_upto_region 12 with fail
      obtain ⟨w7, hG7, hb7, hs7, hw7⟩ := boxed w6 0 0 0 none 0 0
      rw [← hw7]
      clear hw7
      have hB7 := hB6.below hb7 hs6
      have hbw7 := below_two hbw6 hb7 hbw6.size
      have hs7' := Nat.lt_of_lt_of_le hs6 hb7.size
      have hrb7 := (hrb6.below hb7 (Nat.le_refl _)).wide (Nat.le_refl 0) hb7.size
      clear c0 c1 c2 c3 hB6 hbw6 hs6 hb7 hrb6 hG7 hs7
      have hwz : w.heap.size ≤ w7.heap.size := hbw7.size
      go_wp2_with (first
        | (at_builtin; refine append_bytes _ rfl (.tmp 79) (.tmp 80) rfl w7.heap.size w7.heap.size 0 0 [] rfl (owns_empty w7 5) (some ⟨g, 0, none⟩) N cap 0 w7.heap.size (frB t f k l) rfl (hrb7.below (below_new (Nat.le_refl _)) (Nat.le_refl _)) hfl (fun e => by cases e) (by omega) (by simp) w7.heap.size w7 (below_new (Nat.le_refl _)) (Nat.le_refl _) ?_; intro g1 cap1 w8 hown1 hb8 hsz1; simp only [Nat.zero_add, List.nil_append] at hown1)
        | (at_builtin; refine append_bytes _ rfl (.tmp 81) (.tmp 82) rfl w7.heap.size g1 N cap1 (frB t f k l) rfl hown1 B m d 0 w.heap.size lm rfl (hrm.below (below_two hbw7 hb8 hwz) (Nat.le_refl _)) hlm hmd.out (by omega) hsz1 w7.heap.size w7 hb8 (Nat.le_refl _) ?_; intro g2 cap2 w9 hown2 hb9 hsz2))
      obtain ⟨hrow, hg9, hq⟩ := Row.of_own hown2
      have hg1 := hrow.lt
      have hlen : Hid ((frB t f k (l ++ lm)).length = N + m) := by rw [← frB_append]; exact Lib.hid hq
      have hB9 := hB7.below hb9 hs7'
      have hbw9 := below_two hbw7 hb9 hwz
      have hs9 := Nat.lt_of_lt_of_le hs7' hb9.size
      have hr9 := hrow.rb 0 w9.heap.size (Nat.zero_le _) hg1
      rw [frB_append] at hr9
      have hE9 : Hid (getE (frB t f k (l ++ lm)) = 0) := by
        show _ = _
        rw [frB_getE _ _ _ _ h2 h5]
        refine gd_len k _ hk5 ?_
        rw [List.length_append, hl.out, HKN.out]
        omega
      have hL9 : Hid (l = getL (frB t f k (l ++ lm))) := by
        show _ = _
        rw [frB_getL _ _ _ _ h2 h5, gdL_len k l lm hk5 (by rw [hl.out]; exact HKN.out)]
      clear hown1 hown2 hq hsz1 hsz2 hrow hg9 hB7 hbw7 hs7' hrb7 hb8 hb9 hwz
      obtain ⟨c0, c1, c2, c3⟩ := hB9.cells
      (with_reducible refine (get_ok _ (N + m) cap2 (frB t f k (l ++ lm)) l n hlen (by omega) hL9 hl hE9 _ hr9).mono ?_); rintro e w10 ⟨g10, rfl, hg10, hP10, hb10⟩
      rw [frB_to _ _ _ _ h0 b0, frB_from _ _ _ _ h1 b1, frB_kind _ _ _ _ h2 h5]
      have hB10 := hB9.below hb10 hs9
      have hbw10 := below_two hbw9 hb10 hbw9.size
      have hs10 := Nat.lt_of_lt_of_le hs9 hb10.size
      clear c0 c1 c2 c3 hB9 hbw9 hs9 hb10 hr9
      obtain ⟨c0, c1, c2, c3⟩ := hB10.cells
      go_wp2_with fail
      obtain ⟨w11, hG11, hb11, hs11, hw11⟩ := boxed w10 t f k (some ⟨g10, 0, none⟩) n n
      rw [← hw11]
      clear hw11
      have hbw11 := below_two hbw10 hb11 hbw10.size
      have hP11 := hP10.below hb11 hP10.lt
      (with_reducible refine (same_any t f k A n c l t f k (some ⟨g10, 0, none⟩) n n l hl hl _ ((hr.below hbw11 (Nat.le_refl _)).wide (Nat.le_refl _) hbw11.size) (hP11.rb 0 w11.heap.size (Nat.zero_le _) hP11.lt)).mono ?_); rintro e w12 ⟨rfl, hb12⟩
      rw [sameF_self]
      go_wp2
      go_ret
      exact ⟨rfl, below_two hbw11 hb12 hbw11.size⟩

theorem FrameBack_walk (t f k : Int) (a : Option Addr) (len cap : Nat) (z : List Int) (a1 : Option Addr) (len1 cap1 : Nat) (z1 : List Int) (u : Int) (w : World) (hf : FrIn w t f k a len cap z) (hz1 : IsRow .u8 w a1 len1 cap1 z1) (hu : (Lit.int .u16 u).wf = true) :
    Calls Try.prog 5 #[.agg #[.int .u64 t, .int .u64 f, .int .u16 k, .slice a len cap], .slice a1 len1 cap1, .int .u16 u] w fun e w' => e = .returned (.bool true) ∧ Below w.heap.size w w' := by
  obtain ⟨h0, h3, h1, h4, h2, h5, hz⟩ := hf
  obtain ⟨l, hl, hr, hc, hm⟩ := bytes_in hz
  obtain ⟨l1, hl1, hr1, hc1, hm1⟩ := bytes_in hz1
  obtain ⟨u0, u1⟩ := bounds_u16 hu
  by_cases h : 3000 < len ∨ 3000 < len1
  · exact back_long _ _ _ _ _ _ _ _ _ _ h hm hm1 w
  · exact back_short t f k a len cap l a1 len1 cap1 l1 u hl (Lib.hid (none_cap hz)) (by omega) h0 h1 h2 h3 h4 h5 hl1 (Lib.hid (none_cap hz1)) (by omega) u0 (by omega) w hr hr1

end Go.Proofs.Ytneofpgpinkamaa
