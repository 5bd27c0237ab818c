/- The document's Check and Port: contracts. -/
import Derived.Test.YtkdbhioneoknjaaConfCases
import Derived.Test.YtkdbhioneoknjaaConfRefTimes
import Derived.Test.YtkdbhioneoknjaaConfIds
import Derived.LoopTactic
import Derived.Deep.CutBlock
namespace Go.Proofs.Ytkdbhioneoknjaa
open Go.ChangeShapes Go.WideShapes Go.ChangeAt Go.RowKit
set_option linter.unusedVariables false

set_option maxRecDepth 100000 in
set_option maxHeartbeats 2000000 in
theorem rcheck_is (c : Cf) (L : List PV) (hL : L.length = c.n) (hf : c.n ≤ 200) (hb : CB c) (w : World) (hp : PortsIn w c.A w.heap.size L) :
    Calls Try.prog 19 #[.agg #[.int .u64 c.ad, .int .u16 c.pr, .int .i64 c.ma, .int .i64 c.he, .int .i64 c.de, .int .i64 c.ag, .int .i64 c.tb, .slice c.A c.n c.cap]] w fun e w' => e = .returned (.int .i64 (checkI c L)) ∧ Below w.heap.size w w' := by
  have HR := fun W => Lib.hid (refright_any c.ad hb.1.1 hb.1.2 W)
  have HB := Lib.hid hb
  obtain ⟨r1, h1⟩ : ∃ r, rightB c.ad = r := ⟨_, rfl⟩
  obtain ⟨r2, h2⟩ : ∃ r, timesB c = r := ⟨_, rfl⟩
  obtain ⟨r7, h7⟩ : ∃ r, L.any badB = r := ⟨_, rfl⟩
  rw [h1] at HR
  have H1 := Lib.hid h1
  have H2 := Lib.hid h2
  have H7 := Lib.hid h7
  have HL := Lib.hid hL
  have HF := Lib.hid hf
  have HP := Lib.hid hp
  clear h1 h2 h7 hb hL hf hp
  obtain ⟨K, hK⟩ : ∃ K, checkI c L = K := ⟨_, rfl⟩
  rw [hK]
  have HK := Lib.hid hK
  clear hK
  obtain ⟨wb, hwb, hx, B⟩ := cf_box w c
  obtain ⟨x0, x1, x2, x3, x4, x5, x6, x7⟩ := hx.cells
  have hxl := hx.lt
  have z := B.size
  go_enter Try.func19, Try.ntmps19
  go_upto_region 1 with fail
  clear hwb
  have HXB := Lib.hid (And.intro hx B)
  clear hx B
  go_wp2_with fail
  (with_reducible refine (HR _).out.mono ?_); rintro e w1 ⟨rfl, rfl⟩
  clear HR
  cases r1 with
  | false =>
    go_wp2
    go_ret
    exact ⟨ret_int (by rw [← HK.out, check1 L H1.out]), HXB.out.2⟩
  | true =>
  go_wp2_with fail
  (with_reducible refine (rtimes_is c HB.out r2 H2 _).mono ?_); rintro e w2 ⟨rfl, b2⟩
  clear x0 x1 x2 x3 x4 x5 x6 x7
  have hx2 := HXB.out.1.below b2 hxl
  obtain ⟨x0, x1, x2, x3, x4, x5, x6, x7⟩ := hx2.cells
  have HX2 := Lib.hid hx2
  clear hx2
  have B2 := Lib.hid (HXB.out.2.trans (b2.mono z))
  clear b2 HXB
  cases r2 with
  | false =>
    go_wp2
    go_ret
    exact ⟨ret_int (by rw [← HK.out, check2 L H1.out H2.out]), B2.out⟩
  | true =>
  by_cases g1 : c.ag < 10
  · have G1 := Lib.hid g1
    go_wp2
    go_ret
    exact ⟨ret_int (by rw [← HK.out, check3 L H1.out H2.out (by unfold inI; have := G1.out; simp; omega)]), B2.out⟩
  by_cases g2 : 1000000 < c.ag
  · have G2 := Lib.hid g2
    go_wp2
    go_ret
    exact ⟨ret_int (by rw [← HK.out, check3 L H1.out H2.out (by unfold inI; have := G2.out; simp; omega)]), B2.out⟩
  have H3 : Hid (inI c.ag 10 1000000 = true) := Lib.hid (by unfold inI; simp; omega)
  by_cases g3 : c.tb < 0
  · have G3 := Lib.hid g3
    go_wp2
    go_ret
    exact ⟨ret_int (by rw [← HK.out, check4 L H1.out H2.out H3.out (by unfold inI; have := G3.out; simp; omega)]), B2.out⟩
  by_cases g4 : 64 < c.tb
  · have G4 := Lib.hid g4
    go_wp2
    go_ret
    exact ⟨ret_int (by rw [← HK.out, check4 L H1.out H2.out H3.out (by unfold inI; have := G4.out; simp; omega)]), B2.out⟩
  have H4 : Hid (inI c.tb 0 64 = true) := Lib.hid (by unfold inI; simp; omega)
  by_cases h5 : c.n = 0
  · have h5' : ((c.n : Int) == 0) = true := by rw [h5]; rfl
    have H5 := Lib.hid h5
    clear h5
    go_wp2
    go_ret
    exact ⟨ret_int (by rw [← HK.out, check5 L H1.out H2.out H3.out H4.out H5.out]), B2.out⟩
  by_cases h6 : 4 < c.n
  · have H6 := Lib.hid h6
    have h6' : (4 : Int) < (c.n : Int) := by omega
    clear h6
    go_wp2
    go_ret
    exact ⟨ret_int (by rw [← HK.out, check6 L H1.out H2.out H3.out H4.out H6.out]), B2.out⟩
  have H6 := Lib.hid (And.intro h5 h6)
  have h6' : ¬ (4 : Int) < (c.n : Int) := by omega
  have HK' := Lib.hid (HK.out.symm.trans (check7 H1.out H2.out H3.out H4.out H6.out.1 H6.out.2 H7.out))
  go_wp2
  clear h5 h6 h6' g1 g2 g3 g4 HK H1 H2 H3 H4 x0 x1 x2 x3 x4 x5 x6 x7
  have hn5 : c.n ≤ 4 := by have := H6.out; omega
  go_loopw [3] (fun i wr => ∃ k : Nat, k ≤ c.n ∧ i = .int .i64 k ∧ Hid ((L.take k).any badB = false) ∧ w2 = wr) (fun i _ => c.n - (intOf i).toNat)
  case atStart => exact ⟨0, Nat.zero_le _, rfl, Lib.hid (by simp), rfl⟩
  case round =>
    obtain ⟨k, hk, rfl, ha, rfl⟩ := hrel
    obtain ⟨-, -, -, -, -, -, -, x7⟩ := HX2.out.cells
    by_cases hkn : k < c.n
    · obtain ⟨x, hx⟩ := pv_at HL.out hkn
      have HX := Lib.hid hx
      obtain ⟨ad, hA, hab, ⟨c0, c1, c2⟩, -, ⟨u0, u1⟩⟩ := port_cells (HP.out.below B2.out (Nat.le_refl _)) hx
      rw [hA] at x7
      have hki : (k : Int) < (c.n : Int) := by omega
      have hkz : ¬ (c.n : Int) ≤ (k : Int) := by omega
      clear hx
      by_cases v1 : x.co < 1
      · have V := Lib.hid v1
        go_wp2
        go_ret
        exact ⟨ret_int (by rw [HK'.out, ← H7.out, any_hit HX.out (by unfold badB inI; have := V.out; simp; omega)]; rfl), B2.out⟩
      by_cases v2 : 65535 < x.co
      · have V := Lib.hid v2
        go_wp2
        go_ret
        exact ⟨ret_int (by rw [HK'.out, ← H7.out, any_hit HX.out (by unfold badB inI; have := V.out; simp; omega)]; rfl), B2.out⟩
      have V := Lib.hid (And.intro v1 v2)
      go_wp2
      go_roundw
      case rel => exact ⟨k + 1, by omega, by go_num, Lib.hid (any_step HX.out ha.out (by unfold badB inI; have := V.out; simp; omega)), trivial⟩
      case measure => simp [intOf]; omega
    · have hkz : ¬ (k : Int) < (c.n : Int) := by omega
      go_wp2
      go_ret
      exact ⟨ret_int (by have e := ha.out; rw [List.take_of_length_le (by rw [HL.out]; omega), H7.out] at e; rw [HK'.out, e]; rfl), B2.out⟩

set_option maxHeartbeats 1000000 in
theorem rport_is (c : Cf) (L : List PV) (hL : L.length = c.n) (hf : c.n ≤ 200) (i : Int) (i0 : -9223372036854775808 ≤ i) (i1 : i ≤ 9223372036854775807) (w : World) (hp : PortsIn w c.A w.heap.size L) :
    Calls Try.prog 46 #[.agg #[.int .u64 c.ad, .int .u16 c.pr, .int .i64 c.ma, .int .i64 c.he, .int .i64 c.de, .int .i64 c.ag, .int .i64 c.tb, .slice c.A c.n c.cap], .int .i64 i] w fun e w' => e = .returned (.int .u16 (pidI L i)) ∧ Below w.heap.size w w' := by
  obtain ⟨wb, hwb, hx, B⟩ := cf_box w c
  obtain ⟨-, -, -, -, -, -, -, x7⟩ := hx.cells
  by_cases hn : i < 0
  · rw [pid_neg L hn]
    clear hp hL hf
    go_enter Try.func46, Try.ntmps46
    go_wp2
    go_ret
    exact ⟨rfl, B⟩
  · by_cases hk : (c.n : Int) ≤ i
    · rw [pid_out L (by rw [hL]; exact hk)]
      clear hp hL
      have hn' : 0 ≤ i := by omega
      clear hn
      go_enter Try.func46, Try.ntmps46
      go_wp2
      go_ret
      exact ⟨rfl, B⟩
    · obtain ⟨k, rfl⟩ : ∃ k : Nat, i = k := ⟨i.toNat, by omega⟩
      have hkn : k < c.n := by omega
      obtain ⟨p, hpk⟩ : ∃ p, L[k]? = some p := ⟨L[k]'(by omega), List.getElem?_eq_getElem _⟩
      rw [pid_at hpk]
      obtain ⟨ad, hA, -, y0, -, -, ⟨⟨q0, q1⟩, -⟩⟩ := (hp.below B (Nat.le_refl _)) k p hpk
      have hk200 : k < 200 := by omega
      rw [hA] at hwb x7 ⊢
      clear hp hL hpk hn hk i0 i1 hx
      go_enter Try.func46, Try.ntmps46
      go_wp2
      go_ret
      exact ⟨ret_int (by omega), B⟩

end Go.Proofs.Ytkdbhioneoknjaa
