/- The law FrameGets, walked: it answers true, whatever the bytes. -/
import Derived.Test.YtneofpgpinkamaaFrameRefGet
import Derived.Test.YtneofpgpinkamaaFrameSame
namespace Go.Proofs.Ytneofpgpinkamaa
open Go.ChangeShapes Go.WideShapes Go.ChangeAt Go.RowKit
set_option linter.unusedVariables false

theorem gets_long (A : Option Addr) (n c : Nat) (h : 3000 < n) (hn : n ≤ 9223372036854775807) (w : World) :
    Calls Try.prog 4 #[.slice A n c] w fun e w' => e = .returned (.bool true) ∧ Below w.heap.size w w' := by
  have d3 : decide (3000 < (n : Int)) = true := by simp; omega
  go_enter Try.func4, Try.ntmps4
  go_wp2_with fail
  (with_reducible refine (awake_any _).mono ?_); rintro e wa ⟨rfl, hba⟩
  go_wp2_with fail
  (with_reducible refine (awake_any _).mono ?_); rintro e wb ⟨rfl, hbb⟩
  go_wp2
  go_ret
  exact ⟨rfl, below_two hba hbb hba.size⟩

theorem gets_short (A : Option Addr) (n c : Nat) (l : List UInt8) (hl : Hid (l.length = n)) (hn : n ≤ 3000) (hc : n ≤ c) (hnc : Hid (A = none → c = 0)) (w : World) (hr : RB w A 0 w.heap.size l) :
    Calls Try.prog 4 #[.slice A n c] w fun e w' => e = .returned (.bool true) ∧ Below w.heap.size w w' := by
  have d3 : decide (3000 < (n : Int)) = false := by simp; omega
  obtain ⟨z, hz⟩ : ∃ z, z = getE l := ⟨_, rfl⟩
  have HZ := Lib.hid hz
  clear hz
  obtain ⟨x, hx⟩ : ∃ x, x = getL l := ⟨_, rfl⟩
  have HX := Lib.hid hx
  clear hx
  obtain ⟨m, hm⟩ : ∃ m, m = x.length := ⟨_, rfl⟩
  have HM : Hid (x.length = m) := Lib.hid hm.symm
  clear hm
  go_enter Try.func4, Try.ntmps4
  go_wp2_with fail
  (with_reducible refine (awake_any _).mono ?_); rintro e w1 ⟨rfl, hbw1⟩
  have hr1 := (hr.below hbw1 (Nat.le_refl _)).wide (Nat.le_refl 0) hbw1.size
  go_wp2_with fail
  by_cases hz0 : z = 0
  · have hok : Hid (getE l = 0) := Lib.hid (HZ.out.symm.trans hz0)
    clear hz0 HZ
    (with_reducible refine (get_ok A n c l x m hl (by omega) HX HM hok _ hr1).mono ?_); rintro e w2 ⟨g, rfl, hg2, hP2, hb2⟩
    have hbw2 := below_two hbw1 hb2 hbw1.size
    obtain ⟨t, hT⟩ : ∃ t, t = toOf l := ⟨_, rfl⟩
    obtain ⟨f, hF⟩ : ∃ f, f = fromOf l := ⟨_, rfl⟩
    obtain ⟨k, hK⟩ : ∃ k, k = kindOf l := ⟨_, rfl⟩
    rw [← hT, ← hF, ← hK]
    have HT := Lib.hid hT
    have HF := Lib.hid hF
    have HK := Lib.hid hK
    clear hT hF hK
    go_wp2_with fail
    obtain ⟨w3, hB3, hb3, hs3, hw3⟩ := boxed w2 t f k (some ⟨g, 0, none⟩) m m
    rw [← hw3]
    clear hw3
    have hbw3 := below_two hbw2 hb3 hbw2.size
    have hr3 := (hr.below hbw3 (Nat.le_refl _)).wide (Nat.le_refl 0) hbw3.size
    have hP3 := hP2.below hb3 hP2.lt
    (with_reducible refine (refget_any A n c l hl (by omega) hc hnc _ hr3).mono ?_); rintro e w4 (⟨_, D, cap, rfl, hD, hb4⟩ | ⟨hno, _⟩)
    case inr => exact absurd hok.out hno
    rw [← HT.out, ← HF.out, ← HK.out, ← HX.out, HM.out]
    rw [← HX.out] at hD
    have hB4 := hB3.below hb4 hs3
    have hP4 := hP3.below hb4 hP3.lt
    have hbw4 := below_two hbw3 hb4 hbw3.size
    have hs4 := Nat.lt_of_lt_of_le hs3 hb4.size
    obtain ⟨c0, c1, c2, c3⟩ := hB4.cells
    go_wp2_with fail
    obtain ⟨w5, hB5, hb5, hs5, hw5⟩ := boxed w4 t f k D m cap
    rw [← hw5]
    clear hw5
    have hB45 := hB4.below hb5 hs4
    have hbw5 := below_two hbw4 hb5 hbw4.size
    have hs45 := Nat.lt_of_lt_of_le hs4 hb5.size
    have hP5 := hP4.below hb5 hP4.lt
    have ra : RB w5 (some ⟨g, 0, none⟩) 0 w5.heap.size x := hP5.rb 0 w5.heap.size (Nat.zero_le _) hP5.lt
    have rb : RB w5 D 0 w5.heap.size x := (hD.below hb5 (Nat.le_refl _)).wide (Nat.le_refl 0) hb5.size
    (with_reducible refine (same_any t f k (some ⟨g, 0, none⟩) m m x t f k D m cap x HM HM _ ra rb).mono ?_); rintro e w6 ⟨rfl, hb6⟩
    rw [sameF_self]
    have hB46 := hB45.below hb6 hs45
    have hB56 := hB5.below hb6 hs5
    have hbw6 := below_two hbw5 hb6 hbw5.size
    have ra6 := (ra.below hb6 (Nat.le_refl _)).wide (Nat.le_refl 0) hb6.size
    have rb6 := (rb.below hb6 (Nat.le_refl _)).wide (Nat.le_refl 0) hb6.size
    clear c0 c1 c2 c3 hB4 hB45 hB5 ra rb
    obtain ⟨c0, c1, c2, c3⟩ := hB46.cells
    obtain ⟨e0, e1, e2, e3⟩ := hB56.cells
    go_wp2_with fail
    (with_reducible refine (refsame_any t f k (some ⟨g, 0, none⟩) m m x t f k D m cap x HM HM _ ra6 rb6).mono ?_); rintro e w7 ⟨rfl, hb7⟩
    rw [sameF_self]
    go_wp2
    go_ret
    exact ⟨rfl, below_two hbw6 hb7 hbw6.size⟩
  · (with_reducible refine (get_bad A n c l z hl (by omega) (Lib.hid HZ.out.symm) hz0 _ hr1).mono ?_); rintro e w2 ⟨rfl, hb2⟩
    have hbw2 := below_two hbw1 hb2 hbw1.size
    go_wp2_with fail
    obtain ⟨w3, hB3, hb3, hs3, hw3⟩ := boxed w2 0 0 0 none 0 0
    rw [← hw3]
    clear hw3
    have hbw3 := below_two hbw2 hb3 hbw2.size
    have hr3 := (hr.below hbw3 (Nat.le_refl _)).wide (Nat.le_refl 0) hbw3.size
    (with_reducible refine (refget_any A n c l hl (by omega) hc hnc _ hr3).mono ?_); rintro e w4 (⟨hyes, _⟩ | ⟨_, rfl, hb4⟩)
    case inl => exact absurd (HZ.out.trans hyes) hz0
    rw [← HZ.out]
    clear hz0
    have hB4 := hB3.below hb4 hs3
    have hbw4 := below_two hbw3 hb4 hbw3.size
    have hs4 := Nat.lt_of_lt_of_le hs3 hb4.size
    obtain ⟨c0, c1, c2, c3⟩ := hB4.cells
    go_wp2_with fail
    obtain ⟨w5, hB5, hb5, hs5, hw5⟩ := boxed w4 0 0 0 none 0 0
    rw [← hw5]
    clear hw5
    have hB45 := hB4.below hb5 hs4
    have hbw5 := below_two hbw4 hb5 hbw4.size
    have hs45 := Nat.lt_of_lt_of_le hs4 hb5.size
    have ra : RB w5 none 0 w5.heap.size [] := RB.nil _ _ _ _
    have rb := ra
    (with_reducible refine (same_any 0 0 0 none 0 0 [] 0 0 0 none 0 0 [] (Lib.hid rfl) (Lib.hid rfl) _ ra rb).mono ?_); rintro e w6 ⟨rfl, hb6⟩
    rw [sameF_self]
    have hB46 := hB45.below hb6 hs45
    have hB56 := hB5.below hb6 hs5
    have hbw6 := below_two hbw5 hb6 hbw5.size
    have ra6 := (ra.below hb6 (Nat.le_refl _)).wide (Nat.le_refl 0) hb6.size
    have rb6 := (rb.below hb6 (Nat.le_refl _)).wide (Nat.le_refl 0) hb6.size
    clear c0 c1 c2 c3 hB4 hB45 hB5 ra rb
    obtain ⟨c0, c1, c2, c3⟩ := hB46.cells
    obtain ⟨e0, e1, e2, e3⟩ := hB56.cells
    go_wp2_with fail
    (with_reducible refine (refsame_any 0 0 0 none 0 0 [] 0 0 0 none 0 0 [] (Lib.hid rfl) (Lib.hid rfl) _ ra6 rb6).mono ?_); rintro e w7 ⟨rfl, hb7⟩
    rw [sameF_self]
    go_wp2
    go_ret
    exact ⟨rfl, below_two hbw6 hb7 hbw6.size⟩

theorem FrameGets_walk (a : Option Addr) (len cap : Nat) (z : List Int) (w : World) (hz : IsRow .u8 w a len cap z) :
    Calls Try.prog 4 #[.slice a len cap] w fun e w' => e = .returned (.bool true) ∧ Below w.heap.size w w' := by
  obtain ⟨l, hl, hr, hc, hm⟩ := bytes_in hz
  by_cases h : 3000 < len
  · exact gets_long _ _ _ h hm w
  · exact gets_short a len cap l hl (by omega) hc (Lib.hid (none_cap hz)) w hr

end Go.Proofs.Ytneofpgpinkamaa
