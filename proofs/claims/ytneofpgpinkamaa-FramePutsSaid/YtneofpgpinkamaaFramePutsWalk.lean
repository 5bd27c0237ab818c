/- The law FramePuts, walked: it answers true, whatever the frame. -/
import Derived.Test.YtneofpgpinkamaaFrameRefPut
import Derived.Deep.RegionWith
import Derived.Deep.DrawnRows
import Derived.Deep.RegionHeld3
namespace Go.Proofs.Ytneofpgpinkamaa
open Go.ChangeShapes Go.WideShapes Go.ChangeAt Go.RowKit
set_option linter.unusedVariables false

theorem puts_long (t f k : Int) (A : Option Addr) (n c : Nat) (h : 3000 < n) (hn : n ≤ 9223372036854775807) (w : World) :
    Calls Try.prog 3 #[.agg #[.int .u64 t, .int .u64 f, .int .u16 k, .slice A n c]] w fun e w' => e = .returned (.bool true) ∧ Below w.heap.size w w' := by
  have d3 : decide (3000 < (n : Int)) = true := by simp; omega
  go_enter Try.func3, Try.ntmps3
  go_wp2_with fail
  obtain ⟨w0, hB0, hb0, hs0, hw0⟩ := boxed w t f k A n c
  rw [← hw0]
  clear hw0
  (with_reducible refine (awake_any _).mono ?_); rintro e wa ⟨rfl, hba⟩
  have hB1 := hB0.below hba hs0
  have hbw1 := below_two hb0 hba hb0.size
  obtain ⟨c0, c1, c2, c3⟩ := hB1.cells
  go_wp2_with fail
  (with_reducible refine (awake_any _).mono ?_); rintro e wb ⟨rfl, hbb⟩
  go_wp2
  go_ret
  exact ⟨rfl, below_two hbw1 hbb hbw1.size⟩

theorem puts_short (t f k : Int) (A : Option Addr) (n c : Nat) (l : List UInt8) (hl : Hid (l.length = n)) (hnc : Hid (A = none → c = 0)) (hn : n ≤ 3000) (h0 : 0 ≤ t) (h1 : 0 ≤ f) (h2 : 0 ≤ k) (h3 : t < 18446744073709551616) (h4 : f < 18446744073709551616) (h5 : k < 65536) (w : World)
    (hr : RB w A 0 w.heap.size l) :
    Calls Try.prog 3 #[.agg #[.int .u64 t, .int .u64 f, .int .u16 k, .slice A n c]] w fun e w' => e = .returned (.bool true) ∧ Below w.heap.size w w' := by
  have d3 : decide (3000 < (n : Int)) = false := by simp; omega
  obtain ⟨z, hz⟩ : ∃ z, z = checkI t f k n := ⟨_, rfl⟩
  have HZ := Lib.hid hz
  clear hz
  go_enter Try.func3, Try.ntmps3
  go_wp2_with fail
  obtain ⟨w0, hB0, hb0, hs0, hw0⟩ := boxed w t f k A n c
  rw [← hw0]
  clear hw0
  (with_reducible refine (awake_any _).mono ?_); rintro e wa ⟨rfl, hba⟩
  have hB1 := hB0.below hba hs0
  have hbw1 := below_two hb0 hba hb0.size
  have hs1 := Nat.lt_of_lt_of_le hs0 hba.size
  clear hB0 hb0 hba hs0
  obtain ⟨c0, c1, c2, c3⟩ := hB1.cells
  go_wp2_with fail
  by_cases hz0 : z = 0
  · have hok : Hid (checkI t f k n = 0) := Lib.hid (HZ.out.symm.trans hz0)
    clear hz0 HZ
    (with_reducible refine (put_ok t f k A n c l hl hnc hn h0 h1 h2 h3 h4 h5 hok _ ((hr.below hbw1 (Nat.le_refl _)).wide (Nat.le_refl _) hbw1.size)).mono ?_); rintro e w2 ⟨g, cap, rfl, hg, hrow, hb2⟩
    have hB2 := hB1.below hb2 hs1
    have hbw2 := below_two hbw1 hb2 hbw1.size
    have hs2 := Nat.lt_of_lt_of_le hs1 hb2.size
    have hg2 := hrow.lt
    have hrb2 : RB w2 (some ⟨g, 0, none⟩) 0 w2.heap.size (frB t f k l) := hrow.rb 0 w2.heap.size (Nat.zero_le _) hg2
    clear hB1 hbw1 hb2 hs1 c0 c1 c2 c3 hg hrow
    obtain ⟨c0, c1, c2, c3⟩ := hB2.cells
    go_wp2_with fail
    (with_reducible refine (refcheck_any t f k A n c (by omega) h0 h1 h2 h3 h4 h5 _).mono ?_); rintro e w3 ⟨rfl, hb3⟩
    rw [hok.out]
    have hB3 := hB2.below hb3 hs2
    have hbw3 := below_two hbw2 hb3 hbw2.size
    have hs3 := Nat.lt_of_lt_of_le hs2 hb3.size
    have hrb3 := (hrb2.below hb3 (Nat.le_refl _)).wide (Nat.le_refl 0) hb3.size
    clear hB2 hbw2 hb3 hs2 c0 c1 c2 c3 hrb2
    obtain ⟨c0, c1, c2, c3⟩ := hB3.cells
    have hlen : Hid ((frB t f k l).length = 14 + n) := by show _ = _; rw [frB_len, hl.out]
    have hbd : Below w.heap.size w w3.drew := hbw3.drew
    have hcv3 := conv_any (show RB w3.drew (some ⟨g, 0, none⟩) 0 w3.drew.heap.size (frB t f k l) from hrb3) (14 + n) cap hlen
    have hBd : FB w3.drew w.heap.size t f k A n c := hB3
    have hsd : w.heap.size < w3.drew.heap.size := hs3
    have hrbd : RB w3.drew (some ⟨g, 0, none⟩) 0 w3.drew.heap.size (frB t f k l) := hrb3
    go_wp2
    refine wp_region_noPanic ?_
    go_region_held (fun w' => w'.cell? ⟨w.heap.size, 0, none⟩ = some (.int .u64 t) ∧ w'.cell? ⟨w.heap.size, 1, none⟩ = some (.int .u64 f) ∧ w'.cell? ⟨w.heap.size, 2, none⟩ = some (.int .u16 k) ∧ w'.cell? ⟨w.heap.size, 3, none⟩ = some (.slice A n c))
      (first | exact hBd.cells | exact hB4.cells | exact hB5.cells | assumption) (first
      | (go_at_call 11; (with_reducible refine (check_any t f k A n c (by omega) h0 h1 h2 h3 h4 h5 _).mono ?_); rintro e w4 ⟨rfl, hb4⟩; rw [hok.out]; have hB4 := hBd.below hb4 hsd; have hbw4 := below_two hbd hb4 hbd.size; have hs4 := Nat.lt_of_lt_of_le hsd hb4.size; have hrb4 := (hrbd.below hb4 (Nat.le_refl _)).wide (Nat.le_refl 0) hb4.size; have hcv4 := conv_any hrb4 (14 + n) cap hlen)
      | (go_at_call 12; (with_reducible refine (refput_any t f k A n c l hl hnc hn h0 h1 h2 h3 h4 h5 _ ((hr.below hbw4 (Nat.le_refl _)).wide (Nat.le_refl _) hbw4.size)).mono ?_); rintro e w5 ⟨g5, cap5, rfl, hg5, hrow5, hb5⟩; have hB5 := hB4.below hb5 hs4; have hbw5 := below_two hbw4 hb5 hbw4.size; have hrb5 := (hrb4.below hb5 (Nat.le_refl _)).wide (Nat.le_refl 0) hb5.size; have hcv5 := conv_any hrb5 (14 + n) cap hlen; have hcr5 := conv_any (hrow5.rb 0 (g5 + 1) (Nat.zero_le _) (Nat.lt_succ_self _)) (14 + n) cap5 hlen))
    all_goals refine NoPanic.normal ?_
    all_goals go_wp2
    all_goals go_ret
    all_goals exact ⟨rfl, hbw5⟩
  · have hbad : (checkI t f k n != 0) = true := by rw [← HZ.out]; simpa using hz0
    (with_reducible refine (put_bad t f k A n c (by omega) h0 h1 h2 h3 h4 h5 hbad _).mono ?_); rintro e w2 ⟨rfl, hb2⟩
    rw [← HZ.out] at hbad ⊢
    have hB2 := hB1.below hb2 hs1
    have hbw2 := below_two hbw1 hb2 hbw1.size
    have hs2 := Nat.lt_of_lt_of_le hs1 hb2.size
    clear hB1 hbw1 hb2 hs1 c0 c1 c2 c3 hz0
    obtain ⟨c0, c1, c2, c3⟩ := hB2.cells
    go_wp2_with fail
    (with_reducible refine (refcheck_any t f k A n c (by omega) h0 h1 h2 h3 h4 h5 _).mono ?_); rintro e w3 ⟨rfl, hb3⟩
    rw [← HZ.out]
    have hB3 := hB2.below hb3 hs2
    have hbw3 := below_two hbw2 hb3 hbw2.size
    have hs3 := Nat.lt_of_lt_of_le hs2 hb3.size
    clear hB2 hbw2 hb3 hs2 c0 c1 c2 c3
    obtain ⟨c0, c1, c2, c3⟩ := hB3.cells
    go_wp2_with fail
    (with_reducible refine (check_any t f k A n c (by omega) h0 h1 h2 h3 h4 h5 _).mono ?_); rintro e w4 ⟨rfl, hb4⟩
    rw [← HZ.out]
    go_wp2
    go_ret
    exact ⟨rfl, below_two hbw3 hb4 hbw3.size⟩

theorem FramePuts_walk (t f k : Int) (a : Option Addr) (len cap : Nat) (z : List Int) (w : World) (hf : FrIn w t f k a len cap z) :
    Calls Try.prog 3 #[.agg #[.int .u64 t, .int .u64 f, .int .u16 k, .slice a len cap]] w fun e w' => e = .returned (.bool true) ∧ Below w.heap.size w w' := by
  obtain ⟨h0, h3, h1, h4, h2, h5, hz⟩ := hf
  obtain ⟨l, hl, hr, hc, hm⟩ := bytes_in hz
  by_cases h : 3000 < len
  · exact puts_long _ _ _ _ _ _ h hm w
  · exact puts_short t f k a len cap l hl (Lib.hid (none_cap hz)) (by omega) h0 h1 h2 h3 h4 h5 w hr

end Go.Proofs.Ytneofpgpinkamaa
