/- Check: the contract. -/
import Derived.Test.YtlccdjkababapaaConfCheck
namespace Go.Proofs.Ytlccdjkababapaa
open Go.ChangeShapes Go.WideShapes Go.ChangeAt Go.RowKit
set_option linter.unusedVariables false

theorem check1 {c : Cf} (L : List PV) (h : rightB c.ad = false) : checkI c L = 1 := by unfold checkI; rw [if_pos h]
theorem check2 {c : Cf} (L : List PV) (h : rightB c.ad = true) (h2 : timesB c = false) : checkI c L = 3 := by unfold checkI; rw [h, h2]; rfl
theorem check3 {c : Cf} (L : List PV) (h : rightB c.ad = true) (h2 : timesB c = true) (h3 : inI c.ag 10 1000000 = false) : checkI c L = 3 := by unfold checkI; rw [h, h2, h3]; rfl
theorem check4 {c : Cf} (L : List PV) (h : rightB c.ad = true) (h2 : timesB c = true) (h3 : inI c.ag 10 1000000 = true) (h4 : inI c.tb 0 64 = false) : checkI c L = 3 := by unfold checkI; rw [h, h2, h3, h4]; rfl
theorem check5 {c : Cf} (L : List PV) (h : rightB c.ad = true) (h2 : timesB c = true) (h3 : inI c.ag 10 1000000 = true) (h4 : inI c.tb 0 64 = true) (h5 : c.n = 0) : checkI c L = 8 := by unfold checkI; rw [h, h2, h3, h4, if_neg (by decide), if_neg (by decide), if_neg (by decide), if_neg (by decide), if_pos h5]
theorem check6 {c : Cf} (L : List PV) (h : rightB c.ad = true) (h2 : timesB c = true) (h3 : inI c.ag 10 1000000 = true) (h4 : inI c.tb 0 64 = true) (h6 : 4 < c.n) : checkI c L = 4 := by unfold checkI; rw [h, h2, h3, h4, if_neg (by decide), if_neg (by decide), if_neg (by decide), if_neg (by decide), if_neg (by omega), if_pos h6]
theorem check7 {c : Cf} {L : List PV} {r : Bool} (h : rightB c.ad = true) (h2 : timesB c = true) (h3 : inI c.ag 10 1000000 = true) (h4 : inI c.tb 0 64 = true) (h5 : ¬ c.n = 0) (h6 : ¬ 4 < c.n) (h7 : L.any badB = r) : checkI c L = if r = true then 3 else 0 := by
  unfold checkI; rw [h, h2, h3, h4, h7, if_neg (by decide), if_neg (by decide), if_neg (by decide), if_neg (by decide), if_neg h5, if_neg h6]

set_option maxRecDepth 100000 in
set_option maxHeartbeats 2000000 in
theorem check_is (c : Cf) (L : List PV) (hL : L.length = c.n) (hf : c.n ≤ 200) (hb : CB c) (w : World) (hp : PortsIn w c.A w.heap.size L) :
    Calls Try.prog 10 #[.agg #[.int .u64 c.ad, .int .u16 c.pr, .int .i64 c.ma, .int .i64 c.he, .int .i64 c.de, .int .i64 c.ag, .int .i64 c.tb, .slice c.A c.n c.cap]] w fun e w' => e = .returned (.int .i64 (checkI c L)) ∧ Below w.heap.size w w' := by
  have HR := fun W => Lib.hid (right_any c.ad hb.1.1 hb.1.2 W)
  obtain ⟨r1, h1⟩ : ∃ r, rightB c.ad = r := ⟨_, rfl⟩
  obtain ⟨r2, h2⟩ : ∃ r, timesB c = r := ⟨_, rfl⟩
  obtain ⟨r3, h3⟩ : ∃ r, inI c.ag 10 1000000 = r := ⟨_, rfl⟩
  obtain ⟨r4, h4⟩ : ∃ r, inI c.tb 0 64 = r := ⟨_, rfl⟩
  obtain ⟨r7, h7⟩ : ∃ r, L.any badB = r := ⟨_, rfl⟩
  rw [h1] at HR
  have H1 := Lib.hid h1
  have H2 := Lib.hid h2
  have H3 := Lib.hid h3
  have H4 := Lib.hid h4
  have H7 := Lib.hid h7
  have HL := Lib.hid hL
  have HF := Lib.hid hf
  have HP := Lib.hid hp
  clear h1 h2 h3 h4 h7 hb hL hf hp
  obtain ⟨K, hK⟩ : ∃ K, checkI c L = K := ⟨_, rfl⟩
  rw [hK]
  have HK := Lib.hid hK
  clear hK
  obtain ⟨wb, hwb, hx, B⟩ := cf_box w c
  obtain ⟨x0, x1, x2, x3, x4, x5, x6, x7⟩ := hx.cells
  have hxl := hx.lt
  have z := B.size
  go_enter Try.func10, Try.ntmps10
  go_upto_region 1 with fail
  clear hwb
  have HXB := Lib.hid (And.intro hx B)
  clear hx B
  go_wp2_with fail
  (with_reducible refine (HR _).out.mono ?_); rintro e w1 ⟨rfl, rfl⟩
  clear HR
  cases r1 with
  | false =>
    go_wp2
    go_ret
    exact ⟨ret_int (by rw [← HK.out, check1 L H1.out]), HXB.out.2⟩
  | true =>
  go_wp2_with fail
  (with_reducible refine (times_is c r2 H2 _).mono ?_); rintro e w2 ⟨rfl, b2⟩
  clear x0 x1 x2 x3 x4 x5 x6 x7
  obtain ⟨x0, x1, x2, x3, x4, x5, x6, x7⟩ := (HXB.out.1.below b2 hxl).cells
  have B2 := Lib.hid (HXB.out.2.trans (b2.mono z))
  clear b2 HXB
  cases r2 with
  | false =>
    go_wp2
    go_ret
    exact ⟨ret_int (by rw [← HK.out, check2 L H1.out H2.out]), B2.out⟩
  | true =>
  go_wp2_with fail
  (with_reducible refine (within_i _ _ _ r3 H3 _).mono ?_); rintro e w3 ⟨rfl, rfl⟩
  cases r3 with
  | false =>
    go_wp2
    go_ret
    exact ⟨ret_int (by rw [← HK.out, check3 L H1.out H2.out H3.out]), B2.out⟩
  | true =>
  go_wp2_with fail
  (with_reducible refine (within_i _ _ _ r4 H4 _).mono ?_); rintro e w4 ⟨rfl, rfl⟩
  cases r4 with
  | false =>
    go_wp2
    go_ret
    exact ⟨ret_int (by rw [← HK.out, check4 L H1.out H2.out H3.out H4.out]), B2.out⟩
  | true =>
  by_cases h5 : c.n = 0
  · have h5' : ((c.n : Int) == 0) = true := by rw [h5]; rfl
    have H5 := Lib.hid h5
    clear h5
    go_wp2
    go_ret
    exact ⟨ret_int (by rw [← HK.out, check5 L H1.out H2.out H3.out H4.out H5.out]), B2.out⟩
  by_cases h6 : 4 < c.n
  · have H6 := Lib.hid h6
    have h6' : (4 : Int) < (c.n : Int) := by omega
    clear h6
    go_wp2
    go_ret
    exact ⟨ret_int (by rw [← HK.out, check6 L H1.out H2.out H3.out H4.out H6.out]), B2.out⟩
  have H6 := Lib.hid (And.intro h5 h6)
  have h6' : ¬ (4 : Int) < (c.n : Int) := by omega
  clear h6
  go_wp2_with fail
  (with_reducible refine (contains_is _ _ _ L HL.out HF.out r7 H7.out _ (HP.out.below B2.out (Nat.le_refl _) |>.wide B2.out.size)).mono ?_); rintro e w7 ⟨rfl, b7⟩
  have HK' := Lib.hid (HK.out.symm.trans (check7 H1.out H2.out H3.out H4.out H6.out.1 H6.out.2 H7.out))
  cases r7 with
  | true =>
    go_wp2
    go_ret
    exact ⟨ret_int (by rw [HK'.out]; rfl), B2.out.trans (b7.mono B2.out.size)⟩
  | false =>
    go_wp2
    go_ret
    exact ⟨ret_int (by rw [HK'.out]; rfl), B2.out.trans (b7.mono B2.out.size)⟩

end Go.Proofs.Ytlccdjkababapaa
