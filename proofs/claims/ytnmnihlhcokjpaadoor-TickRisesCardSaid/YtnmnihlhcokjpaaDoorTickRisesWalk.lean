/- The law TickRises, walked. -/
import Derived.Test.YtnmnihlhcokjpaaDoorTickHellosWalk
import Derived.BigQuiet
import Derived.Deep.QuietTactic
import Derived.LoopTactic
import Derived.Deep.DeepCutAuto
namespace Go.Proofs.YtnmnihlhcokjpaaDoor
set_option maxRecDepth 100000
open Go.ChangeShapes Go.WideShapes Go.ChangeAt Go.RowKit
set_option linter.unusedVariables false
set_option linter.unusedSimpArgs false

set_option maxRecDepth 100000 in
set_option maxHeartbeats 8000000 in
theorem TickRises_walk (c : Cf) (L : List PV) (w : World) (hd : Hd w) (hb : CB c) (hL : L.length = c.n) (hz : c.A = none → c.cap = 0) (hp : PortsIn w c.A w.heap.size L) :
    Calls Tryd.prog 4 #[.agg #[.int .u64 c.ad, .int .u16 c.pr, .int .i64 c.ma, .int .i64 c.he, .int .i64 c.de, .int .i64 c.ag, .int .i64 c.tb, .slice c.A c.n c.cap]] w fun e w' => e = .returned (.bool true) ∧ Below w.heap.size w w' := by
  have HA := fun W (h : Below w.heap.size w W) => Lib.hid (awake16_is W (hd.below h (Nat.le_refl _)))
  have HD := Lib.hid hd
  have HB := Lib.hid hb
  have HL := Lib.hid hL
  have HP := Lib.hid hp
  have HF := fun W => Lib.hid (few_row16 c hb.2.2.2.2.2.2.2 W)
  clear hb hL hz hp hd
  obtain ⟨q, hq⟩ : ∃ q, decide (c.n ≤ 200) = q := ⟨_, rfl⟩
  rw [hq] at HF
  have HQ := Lib.hid hq
  clear hq
  obtain ⟨wb, hwb, S⟩ := hs_one w 46 (lC c)
  have hwb' : w.alloc (.cells #[.int .u64 c.ad, .int .u16 c.pr, .int .i64 c.ma, .int .i64 c.he, .int .i64 c.de, .int .i64 c.ag, .int .i64 c.tb, .slice c.A c.n c.cap] 46) = wb := hwb
  go_enter Tryd.func4, Tryd.ntmps4
  go_upto_region 1 with fail
  clear hwb hwb'
  obtain ⟨X, hX⟩ : ∃ X, w.heap.size = X := ⟨_, rfl⟩
  rw [hX] at S ⊢
  have HX := Lib.hid hX
  clear hX
  go_wp2_with fail
  (with_reducible refine (HA _ S.old).out.mono ?_); rintro e w1 ⟨rfl, b1⟩
  have S1 := S.below b1
  clear S b1
  have hx := S1.bk 0 rfl
  go_wp2_with (with_reducible refine wpList_load_rowG (by kernel_rfl) 46 (.tmp 1) rfl X (by kernel_rfl) _ _ (0, 0) _ hx Tryd.underlying46 rfl (by kernel_rfl) ?_)
  (with_reducible refine (HF _).out.mono ?_); rintro e w2 ⟨rfl, b2⟩
  have S2 := S1.below b2
  clear S1 hx HF b2
  cases q with
  | false =>
    go_wp2_with fail
    (with_reducible refine (HA _ S2.old).out.mono ?_); rintro e wq ⟨rfl, bq⟩
    have Sq := S2.below bq
    go_wp2
    go_ret
    exact ⟨rfl, HX.out ▸ Sq.old⟩
  | true =>
    have hn2 : c.n ≤ 200 := of_decide_eq_true HQ.out
    have HC := fun W (h : Below w.heap.size w W) => Lib.hid (rcheck_row16 c L HL.out hn2 HB.out W ((HP.out.below h (Nat.le_refl _)).wide h.size))
    obtain ⟨z, hz⟩ : ∃ z, ccheckI c L = z := ⟨_, rfl⟩
    rw [hz] at HC
    have HZ := Lib.hid hz
    clear hz hn2
    have hx := S2.bk 0 rfl
    go_wp2_with (with_reducible refine wpList_load_rowG (by kernel_rfl) 46 (.tmp 1) rfl X (by kernel_rfl) _ _ (0, 0) _ hx Tryd.underlying46 rfl (by kernel_rfl) ?_)
    (with_reducible refine (HC _ S2.old).out.mono ?_); rintro e w3 ⟨rfl, b3⟩
    have S3 := S2.below b3
    clear S2 hx HC b3
    by_cases h0 : z = 0
    · subst h0
      obtain ⟨ht, hn4⟩ := check_zero16 HZ.out
      obtain ⟨tm1, tm2, tm3⟩ := times_in ht
      have HTM := Lib.hid (⟨tm1, tm2, tm3⟩ : (6 ≤ c.ma ∧ c.ma ≤ 40) ∧ (1 ≤ c.he ∧ c.he ≤ 10) ∧ (4 ≤ c.de ∧ c.de ≤ 30))
      have HN4 := Lib.hid hn4
      have hn2 : c.n ≤ 100 := by omega
      have hn3 : c.n ≤ 200 := by omega
      have HNW := fun W (h : Below w.heap.size w W) => Lib.hid (tnew_is c L HL (Lib.hid hn4) HB W (Lib.hid ((HP.out.below h (Nat.le_refl _)).wide h.size)))
      have HOK := Lib.hid (show TickOk { newT c with ho := true, hv := 0 } (statesL (newT c) (newL c L)) c.n from by have := begin_ok (c := c) (C := L) (by have := HL.out; omega) (ports_pb HP.out) (id_in HB.out); rw [HL.out] at this; exact this)
      clear ht hn4 tm1 tm2 tm3 HZ HA
      go_upto_region 3 with fail
      have hx := S3.bk 0 rfl
      go_wp2_with (with_reducible refine wpList_load_row rfl 46 (.tmp 1) rfl X (by kernel_rfl) _ _ (0, 0) _ hx Tryd.underlying46 rfl (by kernel_rfl) ?_)
      (with_reducible refine (HNW _ S3.old).out.mono ?_); rintro e w4 ⟨D, cap, rfl, hzd, k4⟩
      have S4 := TS.take S3 k4
      have HSN := Lib.hid (states_new c L D c.n cap HL.out hn3 hzd w4 S4.ports)
      clear S3 hx HNW k4 hzd
      go_wp2_with fail
      (with_reducible refine HSN.out.mono ?_); rintro e w5 ⟨D1, c1, rfl, hzd, k5⟩
      have S5 := TS.take S4.hs k5
      have HZD := Lib.hid hzd
      clear S4 k5 HSN hzd
      go_upto_region 4 with (refine wpList_store_row rfl 31 _ _ rfl _ _ rfl rfl _ _ (heap_alloc_new _ _) (by kernel_rfl) (by kernel_rfl) (by kernel_rfl) ?_)
      rw [alloc_row]
      have bN := new_below w5 (.cells (lT (newT c) D1 c.n c1).toArray 31)
      have S6 := S5.al rfl 31 (lT (newT c) D1 c.n c1)
      obtain ⟨U, hU⟩ : ∃ q, w5.heap.size = q := ⟨_, rfl⟩
      rw [hU] at S6 ⊢
      obtain ⟨w6, hww⟩ : ∃ y, w5.alloc (.cells (lT (newT c) D1 c.n c1).toArray 31) = y := ⟨_, rfl⟩
      rw [hww] at S6  ⊢
      clear hww hU bN S5 
      go_wp2_with fail
      (with_reducible refine (start0 _).mono ?_); rintro e w7 ⟨rfl, b7⟩
      have S7 := S6.below b7
      clear S6 b7
      have c12 := S7.hs.cell 0 12 rfl rfl
      have c13 := S7.hs.cell 0 13 rfl rfl
      have f12 := S7.hs.thaw 0 12 rfl
      have f13 := S7.hs.thaw 0 13 rfl
      go_upto_region 5 with fail
      have S8 : TS w [(U, 31, lT { newT c with ho := true, hv := 0 } D1 c.n c1), (X, 46, lC c)] D1 (statesL (newT c) (newL c L)) ((w7.setCell ⟨U, 12, none⟩ (.bool true)).setCell ⟨U, 13, none⟩ (.int .i64 0)) := (S7.set 0 rfl 12 (.bool true)).set 0 rfl 13 (.int .i64 0)
      generalize (w7.setCell ⟨U, 12, none⟩ (.bool true)).setCell ⟨U, 13, none⟩ (.int .i64 0) = w8 at S8 ⊢
      clear S7 c12 c13 f12 f13
      obtain ⟨B, hB⟩ : ∃ B : Nat, 2 * c.de + c.ma + c.de + 2 = (B : Int) := ⟨(2 * c.de + c.ma + c.de + 2).toNat, by have := HTM.out; omega⟩
      have HBB := Lib.hid hB
      have htm := HTM.out
      clear hB
      go_wp2
      go_loopw [5] (fun j wr => ∃ k : Nat, k ≤ B ∧ j = .int .i64 ((k : Int) + 1) ∧ ∃ t' L' D' c', (D' = none → c' = 0) ∧ Hid (PhT c.de c.ma (k : Int) (idI c) (someK L L.length) t' ∧ PhL c.de (k : Int) (idI c) L L' ∧ TickOk t' L' c.n) ∧ TS w [(U, 31, lT t' D' c.n c'), (X, 46, lC c)] D' L' wr) (fun j _ => B + 1 - (intOf j).toNat)
      case atStart => exact ⟨0, Nat.zero_le _, rfl, _, _, D1, c1, HZD.out, Lib.hid ⟨by
        have h1 := HTM.out
        have e1 := ofI_small (v := c.ma) (by omega) (by omega)
        have e3 := ofI_small (v := c.de) (by omega) (by omega)
        refine ⟨⟨rfl, rfl, rfl⟩, ⟨e1, e3, e1, e3⟩, ⟨fun e => (by cases e), fun e => ?_⟩, fun _ e => ?_⟩
        · exfalso; have := e.2.1; simp at this; omega
        · exfalso; simp at e; omega, begin_ph (by have := HTM.out; omega), HOK.out⟩, S8⟩
      case round =>
        clear S8 HZD HOK
        obtain ⟨k, hk, rfl, t', L', D', c', hz', HH, S⟩ := hrel
        have x4 : wr.cell? ⟨X, 4, none⟩ = some (.int .i64 c.de) := S.hs.cell 1 4 rfl rfl
        have x2 : wr.cell? ⟨X, 2, none⟩ = some (.int .i64 c.ma) := S.hs.cell 1 2 rfl rfl
        have hbb := HBB.out
        by_cases hkn : k < B
        · have hle : (k : Int) + 1 ≤ (B : Int) := by omega
          have hle2 : (k : Int) + 1 ≤ 2 * c.de + c.ma + c.de + 2 := by omega
          have HZD := Lib.hid hz'
          clear hz'
          have HOK := Lib.hid HH.out.2.2
          have hps := phT_step (by have := HTM.out; omega) (by have := HTM.out; omega) (Int.natCast_nonneg k) HH.out.2.1 HH.out.1
          have hok := HOK.out.tick hn3
          obtain ⟨R, hR⟩ : ∃ R, tickR t' L' = R := ⟨_, rfl⟩
          have HT := Lib.hid (tick_is t' D' c.n c' L' (Lib.hid HOK.out.bd.1) (Lib.hid HOK.out.bd.2.1) (Lib.hid HOK.out.bd.2.2.1) (Lib.hid HOK.out.bd.2.2.2.1) (Lib.hid HOK.out.bd.2.2.2.2.1) hn2 (Lib.hid HOK.out.bd.2.2.2.2.2.1) (Lib.hid HOK.out.bd.2.2.2.2.2.2) HZD wr (HD.out.below S.old (Nat.le_refl _)) (Lib.hid S.ports))
          rw [hR] at HT hps hok
          have HPS := Lib.hid hps
          have HOK2 := Lib.hid hok
          have HRL := Lib.hid hok.bd.2.2.2.2.1
          clear hR hps hok
          go_upto_region 8 with fail
          clear x4 x2
          have hx := S.hs.bk 0 rfl
          go_wp2_with (with_reducible refine wpList_load_row rfl 31 (.tmp 3) rfl U (by kernel_rfl) _ _ (0, 0) _ hx Tryd.underlying31 rfl (by kernel_rfl) ?_)
          (with_reducible refine HT.out.mono ?_); rintro e w9 ⟨D2, c2, v, rfl, hz2, k9, hO⟩
          have S9 := TS.take S.hs k9
          have HZ2 := Lib.hid hz2
          clear S hx HT k9 hz2 hO HOK HH
          have hx := S9.hs.bk 0 rfl
          go_upto_region 9 with (refine wpList_store_row rfl 31 _ _ rfl U _ rfl rfl _ _ hx (by kernel_rfl) (by kernel_rfl) (by kernel_rfl) ?_)
          have Sa : TS w [(U, 31, lT R.1.1 D2 c.n c2), (X, 46, lC c)] D2 R.1.2 _ := S9.row 0 rfl (lT R.1.1 D2 c.n c2)
          generalize w9.setRow U (lT R.1.1 D2 c.n c2).toArray = wa at Sa ⊢
          clear S9 hx
          go_wp2
          go_loopw [6] (fun j wr => ∃ i : Nat, i ≤ c.n ∧ j = .int .i64 i ∧ TS w [(U, 31, lT R.1.1 D2 c.n c2), (X, 46, lC c)] D2 R.1.2 wr) (fun j _ => c.n - (intOf j).toNat)
          case atStart => exact ⟨0, Nat.zero_le _, rfl, Sa⟩
          case round =>
            clear Sa
            obtain ⟨i, hi, rfl, S⟩ := hrel
            have x7 := S.hs.cell 1 7 rfl rfl
            have x4 : wr.cell? ⟨X, 4, none⟩ = some (.int .i64 c.de) := S.hs.cell 1 4 rfl rfl
            have x2 : wr.cell? ⟨X, 2, none⟩ = some (.int .i64 c.ma) := S.hs.cell 1 2 rfl rfl
            have c18 := S.hs.cell 0 18 rfl rfl
            by_cases hin : i < c.n
            · obtain ⟨x, hx⟩ := pv_at HL.out hin
              have hii : (i : Int) < (c.n : Int) := by omega
              have hiz : ¬ (c.n : Int) ≤ (i : Int) := by omega
              obtain ⟨ad, hA, -, ⟨-, -, p2⟩, -⟩ := port_cells ((HP.out.below S.old (Nat.le_refl _)).wide S.old.size) hx
              rw [hA] at x7
              obtain ⟨y, hy⟩ := po_at HRL.out hin
              obtain ⟨g, e, -⟩ := S.at hy
              subst e
              have p1 := S.port_cell hy 1 rfl
              have hph := HPS.out.2.2 i x y hx hy
              obtain ⟨-, -, hoff, hon⟩ := hph
              have HOFF := Lib.hid hoff
              have HONN := Lib.hid hon
              clear hoff hon hx hy hA
              obtain ⟨on, hon⟩ : ∃ b, x.on = b := ⟨_, rfl⟩
              rw [hon] at p2 HOFF HONN
              clear hon
              cases on with
              | false =>
                have hst := (HOFF.out rfl).1
                rw [hst] at p1
                go_wp2
                go_roundw
                case rel => exact ⟨i + 1, hin, by go_num, S⟩
                case measure => simp [intOf]; omega
              | true =>
                rcases HONN.out rfl with ⟨h1, hst, -, -⟩ | ⟨h1, h2, hst, -, -⟩ | ⟨h1, hst, -⟩
                · rw [hst] at p1
                  have q1 : ¬ c.de ≤ (k : Int) + 1 := by omega
                  have q2 : ¬ 2 * c.de ≤ (k : Int) + 1 := by omega
                  go_wp2
                  go_roundw
                  case rel => exact ⟨i + 1, hin, by go_num, S⟩
                  case measure => simp [intOf]; omega
                · rw [hst] at p1
                  have q2 : ¬ 2 * c.de ≤ (k : Int) + 1 := by omega
                  go_wp2
                  go_roundw
                  case rel => exact ⟨i + 1, hin, by go_num, S⟩
                  case measure => simp [intOf]; omega
                · rw [hst] at p1
                  have q1 : c.de ≤ (k : Int) + 1 := by omega
                  go_wp2
                  go_roundw
                  case rel => exact ⟨i + 1, hin, by go_num, S⟩
                  case measure => simp [intOf]; omega
            · have hiz : ¬ (i : Int) < (c.n : Int) := by omega
              go_upto_region 21 with fail
              clear x7 x4 x2 c18
              have Sa := S
              clear S hiz hin hi
              go_wp2
              go_loopw [8, 9] (fun b j wr => ∃ i : Nat, i ≤ c.n ∧ j = .int .i64 i ∧ b = .bool (someK L i) ∧ TS w [(U, 31, lT R.1.1 D2 c.n c2), (X, 46, lC c)] D2 R.1.2 wr) (fun _ j _ => c.n - (intOf j).toNat)
              case atStart => exact ⟨0, Nat.zero_le _, rfl, rfl, Sa⟩
              case round =>
                clear Sa
                obtain ⟨i, hi, rfl, rfl, S⟩ := hrel
                have x7 := S.hs.cell 1 7 rfl rfl
                by_cases hin : i < c.n
                · obtain ⟨x, hx⟩ := pv_at HL.out hin
                  have hii : (i : Int) < (c.n : Int) := by omega
                  have hiz : ¬ (c.n : Int) ≤ (i : Int) := by omega
                  obtain ⟨ad, hA, -, ⟨-, -, p2⟩, -⟩ := port_cells ((HP.out.below S.old (Nat.le_refl _)).wide S.old.size) hx
                  rw [hA] at x7
                  have hst : someK L (i + 1) = (someK L i || x.on) := by show (someK L i || _) = _; rw [hx]
                  have HST := Lib.hid hst
                  clear hst hx hA
                  obtain ⟨sb, hsb⟩ : ∃ b, someK L i = b := ⟨_, rfl⟩
                  rw [hsb] at HST ⊢
                  have HSB := Lib.hid hsb
                  clear hsb
                  cases sb with
                  | true =>
                    go_wp2
                    go_roundw
                    case rel => exact ⟨i + 1, hin, by go_num, by rw [HST.out]; rfl, S⟩
                    case measure => simp [intOf]; omega
                  | false =>
                    go_wp2
                    go_roundw
                    case rel => exact ⟨i + 1, hin, by go_num, by rw [HST.out]; rfl, S⟩
                    case measure => simp [intOf]; omega
                · have hiz : ¬ (i : Int) < (c.n : Int) := by omega
                  have hie : i = L.length := by have := HL.out; omega
                  go_upto_region 26 with fail
                  clear x7
                  have x4 : wr.cell? ⟨X, 4, none⟩ = some (.int .i64 c.de) := S.hs.cell 1 4 rfl rfl
                  have x2 : wr.cell? ⟨X, 2, none⟩ = some (.int .i64 c.ma) := S.hs.cell 1 2 rfl rfl
                  have c11 := S.hs.cell 0 11 rfl rfl
                  have hch := HPS.out.1.2.2.1
                  rw [← hie] at hch
                  obtain ⟨sb, hsb⟩ : ∃ b, someK L i = b := ⟨_, rfl⟩
                  rw [hsb] at hch ⊢
                  obtain ⟨ch, hc2⟩ : ∃ b, R.1.1.ch = b := ⟨_, rfl⟩
                  rw [hc2] at hch c11
                  clear hsb hc2 hie hiz
                  have HI := fun W => Lib.hid (isroot_is R.1.1 D2 c.n c2 true (Lib.hid (decide_eq_true (HPS.out.1.1.2.1.trans HPS.out.1.1.1.symm))) W)
                  have hx := S.hs.bk 0 rfl
                  cases sb with
                  | false =>
                    obtain rfl : ch = false := by cases ch with | false => rfl | true => exact absurd (hch.1 rfl).1 (by decide)
                    clear hch
                    go_wp2_with (with_reducible refine wpList_load_rowG (by kernel_rfl) 31 (.tmp 3) rfl U (by kernel_rfl) _ _ (0, 0) _ hx Tryd.underlying31 rfl (by kernel_rfl) ?_)
                    (with_reducible refine (HI _).out.mono ?_); rintro e wd ⟨rfl, bd⟩
                    have Sd := S.below bd
                    clear S hx HI bd x4 x2 c11
                    go_wp2
                    exact ⟨⟨k + 1, hkn, by go_num, _, _, D2, c2, HZ2.out, Lib.hid ⟨by have := HPS.out.1; push_cast; exact this, by have := HPS.out.2; push_cast; exact this, HOK2.out⟩, Sd⟩, by simp [intOf]; omega⟩
                  | true =>
                    by_cases q2 : 2 * c.de ≤ (k : Int) + 1
                    · by_cases q3 : (k : Int) + 1 < 3 * c.de + c.ma
                      · obtain rfl : ch = true := hch.2 ⟨rfl, q2, q3⟩
                        clear hch
                        go_wp2_with (with_reducible refine wpList_load_rowG (by kernel_rfl) 31 (.tmp 3) rfl U (by kernel_rfl) _ _ (0, 0) _ hx Tryd.underlying31 rfl (by kernel_rfl) ?_)
                        (with_reducible refine (HI _).out.mono ?_); rintro e wd ⟨rfl, bd⟩
                        have Sd := S.below bd
                        clear S hx HI bd x4 x2 c11
                        go_wp2
                        exact ⟨⟨k + 1, hkn, by go_num, _, _, D2, c2, HZ2.out, Lib.hid ⟨by have := HPS.out.1; push_cast; exact this, by have := HPS.out.2; push_cast; exact this, HOK2.out⟩, Sd⟩, by simp [intOf]; omega⟩
                      · obtain rfl : ch = false := by cases ch with | false => rfl | true => exact absurd (hch.1 rfl).2.2 q3
                        clear hch
                        go_wp2_with (with_reducible refine wpList_load_rowG (by kernel_rfl) 31 (.tmp 3) rfl U (by kernel_rfl) _ _ (0, 0) _ hx Tryd.underlying31 rfl (by kernel_rfl) ?_)
                        (with_reducible refine (HI _).out.mono ?_); rintro e wd ⟨rfl, bd⟩
                        have Sd := S.below bd
                        clear S hx HI bd x4 x2 c11
                        go_wp2
                        exact ⟨⟨k + 1, hkn, by go_num, _, _, D2, c2, HZ2.out, Lib.hid ⟨by have := HPS.out.1; push_cast; exact this, by have := HPS.out.2; push_cast; exact this, HOK2.out⟩, Sd⟩, by simp [intOf]; omega⟩
                    · obtain rfl : ch = false := by cases ch with | false => rfl | true => exact absurd (hch.1 rfl).2.1 q2
                      clear hch
                      go_wp2_with (with_reducible refine wpList_load_rowG (by kernel_rfl) 31 (.tmp 3) rfl U (by kernel_rfl) _ _ (0, 0) _ hx Tryd.underlying31 rfl (by kernel_rfl) ?_)
                      (with_reducible refine (HI _).out.mono ?_); rintro e wd ⟨rfl, bd⟩
                      have Sd := S.below bd
                      clear S hx HI bd x4 x2 c11
                      go_wp2
                      exact ⟨⟨k + 1, hkn, by go_num, _, _, D2, c2, HZ2.out, Lib.hid ⟨by have := HPS.out.1; push_cast; exact this, by have := HPS.out.2; push_cast; exact this, HOK2.out⟩, Sd⟩, by simp [intOf]; omega⟩
        · have hle : ¬ (k : Int) + 1 ≤ (B : Int) := by omega
          have hle2 : ¬ (k : Int) + 1 ≤ 2 * c.de + c.ma + c.de + 2 := by omega
          go_wp2
          go_ret
          exact ⟨rfl, HX.out ▸ S.old⟩
    · have hz0 : (z != 0) = true := by simpa using h0
      go_wp2_with fail
      (with_reducible refine (HA _ S3.old).out.mono ?_); rintro e wq ⟨rfl, bq⟩
      have Sq := S3.below bq
      go_wp2
      go_ret
      exact ⟨rfl, HX.out ▸ Sq.old⟩

end Go.Proofs.YtnmnihlhcokjpaaDoor
