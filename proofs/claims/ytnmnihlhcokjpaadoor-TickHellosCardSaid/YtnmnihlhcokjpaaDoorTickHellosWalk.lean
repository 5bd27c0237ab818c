/- The law TickHellos, walked. -/
import Derived.Test.YtnmnihlhcokjpaaDoorPk14
import Derived.Test.YtnmnihlhcokjpaaDoorPk15
import Derived.Test.YtnmnihlhcokjpaaDoorPk17
import Derived.Test.YtnmnihlhcokjpaaDoorPk05
import Derived.Test.YtnmnihlhcokjpaaDoorPk11
import Derived.Test.YtnmnihlhcokjpaaDoorPk02
import Derived.BigQuiet
import Derived.Deep.QuietTactic
import Derived.LoopTactic
import Derived.Deep.DeepCutAuto
namespace Go.Proofs.YtnmnihlhcokjpaaDoor
set_option maxRecDepth 100000
open Go.ChangeShapes Go.WideShapes Go.ChangeAt Go.RowKit
set_option linter.unusedVariables false
set_option linter.unusedSimpArgs false

theorem few_row16 (c : Cf) (hn : c.n ≤ 9223372036854775807) (w : World) : Calls Tryd.prog 12 #[.agg (lC c).toArray] w fun e w' => e = .returned (.bool (decide (c.n ≤ 200))) ∧ Below w.heap.size w w' := few_is c hn w
theorem rcheck_row16 (c : Cf) (L : List PV) (hL : L.length = c.n) (hf : c.n ≤ 200) (hb : CB c) (w : World) (hp : PortsIn w c.A w.heap.size L) :
    Calls Tryd.prog 13 #[.agg (lC c).toArray] w fun e w' => e = .returned (.int .i64 (ccheckI c L)) ∧ Below w.heap.size w w' := rcheck_is c L hL hf hb w hp
theorem check_zero16 {c : Cf} {L : List PV} (h : ccheckI c L = 0) : timesB c = true ∧ c.n ≤ 4 := by
  unfold ccheckI at h
  cases ht : timesB c with
  | false => exfalso; simp [ht] at h; split at h <;> omega
  | true =>
    refine ⟨rfl, ?_⟩
    by_cases hn : c.n ≤ 4
    · exact hn
    · exfalso
      have e1 : ¬ c.n = 0 := by omega
      have e2 : 4 < c.n := by omega
      simp only [e1, e2, if_true, if_false] at h
      repeat (split at h; first | omega | skip)
      all_goals omega
theorem times_in {c : Cf} (h : timesB c = true) : (6 ≤ c.ma ∧ c.ma ≤ 40) ∧ (1 ≤ c.he ∧ c.he ≤ 10) ∧ (4 ≤ c.de ∧ c.de ≤ 30) := by
  unfold timesB at h
  simp only [Bool.and_eq_true] at h
  exact ⟨inI_t h.1, inI_t h.2.1, inI_t h.2.2.1⟩
theorem ofI_small {v : Int} (h0 : 0 ≤ v) (h1 : v ≤ 200) : ofI v = 256 * v := by
  unfold ofI cutI
  omega
theorem id_in {c : Cf} (h : CB c) : 0 ≤ idI c ∧ idI c ≤ 18446744073709551615 := by
  unfold CB at h
  unfold idI
  omega
theorem ports_pb {w : World} {a : Option Addr} {B : Nat} {L : List PV} (h : PortsIn w a B L) : ∀ x ∈ L, PB x := fun x hx => by
  obtain ⟨k, hk, e⟩ := List.getElem_of_mem hx
  obtain ⟨ad, _, _, _, _, _, q⟩ := h k x (by rw [List.getElem?_eq_getElem hk, e])
  exact q
theorem states_new (c : Cf) (C : List PV) (A : Option Addr) (n cap : Nat) (hn : C.length = n) (hf : n ≤ 200) (hc : A = none → cap = 0) (w : World) (hp : PoAt w A w.heap.size (newL c C)) :
    Calls Tryd.prog 14 #[.agg (lT (newT c) A n cap).toArray] w (TOut2 w (newT c) n (statesL (newT c) (newL c C)) (lostB (newT c) (newL c C) n)) :=
  states_is (newT c) A n cap (newL c C) (Lib.hid (by unfold newL; rw [List.length_mapIdx]; exact hn)) hf (Lib.hid hc) w (Lib.hid hp)
theorem on_step {C : List PV} {k : Nat} {x : PV} (h : C[k]? = some x) : onK C (k + 1) = onK C k + (if x.on = true then 1 else 0) := by
  show onK C k + _ = _
  rw [h]
theorem on_le (C : List PV) : ∀ k, onK C k ≤ k
  | 0 => Nat.le_refl _
  | k + 1 => by
    have := on_le C k
    show onK C k + _ ≤ _
    split
    · split <;> omega
    · omega
set_option maxRecDepth 100000 in
set_option maxHeartbeats 8000000 in
theorem TickHellos_walk (c : Cf) (L : List PV) (i : Int) (w : World) (hd : Hd w) (hb : CB c) (hL : L.length = c.n) (hz : c.A = none → c.cap = 0) (hp : PortsIn w c.A w.heap.size L) (hi : (Lit.int .u8 i).wf = true) :
    Calls Tryd.prog 6 #[.agg #[.int .u64 c.ad, .int .u16 c.pr, .int .i64 c.ma, .int .i64 c.he, .int .i64 c.de, .int .i64 c.ag, .int .i64 c.tb, .slice c.A c.n c.cap], .int .u8 i] w fun e w' => e = .returned (.bool true) ∧ Below w.heap.size w w' := by
  have hi := bounds_u8 hi
  have HA := fun W (h : Below w.heap.size w W) => Lib.hid (awake16_is W (hd.below h (Nat.le_refl _)))
  have HD := Lib.hid hd
  have HB := Lib.hid hb
  have HL := Lib.hid hL
  have HP := Lib.hid hp
  have HF := fun W => Lib.hid (few_row16 c hb.2.2.2.2.2.2.2 W)
  clear hb hL hz hp hd
  obtain ⟨q, hq⟩ : ∃ q, decide (c.n ≤ 200) = q := ⟨_, rfl⟩
  rw [hq] at HF
  have HQ := Lib.hid hq
  clear hq
  obtain ⟨wb, hwb, S⟩ := hs_one w 46 (lC c)
  have hwb' : w.alloc (.cells #[.int .u64 c.ad, .int .u16 c.pr, .int .i64 c.ma, .int .i64 c.he, .int .i64 c.de, .int .i64 c.ag, .int .i64 c.tb, .slice c.A c.n c.cap] 46) = wb := hwb
  go_enter Tryd.func6, Tryd.ntmps6
  go_upto_region 1 with fail
  clear hwb hwb'
  obtain ⟨X, hX⟩ : ∃ X, w.heap.size = X := ⟨_, rfl⟩
  rw [hX] at S ⊢
  have HX := Lib.hid hX
  clear hX
  go_wp2_with fail
  (with_reducible refine (HA _ S.old).out.mono ?_); rintro e w1 ⟨rfl, b1⟩
  have S1 := S.below b1
  clear S b1
  have hx := S1.bk 0 rfl
  go_wp2_with (with_reducible refine wpList_load_rowG (by kernel_rfl) 46 (.tmp 2) rfl X (by kernel_rfl) _ _ (0, 0) _ hx Tryd.underlying46 rfl (by kernel_rfl) ?_)
  (with_reducible refine (HF _).out.mono ?_); rintro e w2 ⟨rfl, b2⟩
  have S2 := S1.below b2
  clear S1 hx HF b2
  cases q with
  | false =>
    go_wp2_with fail
    (with_reducible refine (HA _ S2.old).out.mono ?_); rintro e wq ⟨rfl, bq⟩
    have Sq := S2.below bq
    go_wp2
    go_ret
    exact ⟨rfl, HX.out ▸ Sq.old⟩
  | true =>
    have hn2 : c.n ≤ 200 := of_decide_eq_true HQ.out
    have HC := fun W (h : Below w.heap.size w W) => Lib.hid (rcheck_row16 c L HL.out hn2 HB.out W ((HP.out.below h (Nat.le_refl _)).wide h.size))
    obtain ⟨z, hz⟩ : ∃ z, ccheckI c L = z := ⟨_, rfl⟩
    rw [hz] at HC
    have HZ := Lib.hid hz
    clear hz hn2
    have hx := S2.bk 0 rfl
    go_wp2_with (with_reducible refine wpList_load_rowG (by kernel_rfl) 46 (.tmp 2) rfl X (by kernel_rfl) _ _ (0, 0) _ hx Tryd.underlying46 rfl (by kernel_rfl) ?_)
    (with_reducible refine (HC _ S2.old).out.mono ?_); rintro e w3 ⟨rfl, b3⟩
    have S3 := S2.below b3
    clear S2 hx HC b3
    by_cases h0 : z = 0
    · subst h0
      obtain ⟨ht, hn4⟩ := check_zero16 HZ.out
      obtain ⟨tm1, tm2, tm3⟩ := times_in ht
      have HTM := Lib.hid (⟨tm1, tm2, tm3⟩ : (6 ≤ c.ma ∧ c.ma ≤ 40) ∧ (1 ≤ c.he ∧ c.he ≤ 10) ∧ (4 ≤ c.de ∧ c.de ≤ 30))
      have HN4 := Lib.hid hn4
      have hn2 : c.n ≤ 100 := by omega
      have hn3 : c.n ≤ 200 := by omega
      have HNW := fun W (h : Below w.heap.size w W) => Lib.hid (tnew_is c L HL (Lib.hid hn4) HB W (Lib.hid ((HP.out.below h (Nat.le_refl _)).wide h.size)))
      have HOK := Lib.hid (show TickOk { newT c with ho := true, hv := 0 } (statesL (newT c) (newL c L)) c.n from by have := begin_ok (c := c) (C := L) (by have := HL.out; omega) (ports_pb HP.out) (id_in HB.out); rw [HL.out] at this; exact this)
      clear ht hn4 tm1 tm2 tm3 HZ HA
      go_upto_region 3 with fail
      go_wp2
      go_loopw [5, 6] (fun b j wr => ∃ k : Nat, k ≤ c.n ∧ j = .int .i64 k ∧ b = .int .i64 (onK L k) ∧ Hs w [(X, 46, lC c)] wr) (fun _ j _ => c.n - (intOf j).toNat)
      case atStart => exact ⟨0, Nat.zero_le _, rfl, rfl, S3⟩
      case round =>
        clear S3
        obtain ⟨k, hk, rfl, rfl, S⟩ := hrel
        have x7 := S.cell 0 7 rfl rfl
        by_cases hkn : k < c.n
        · obtain ⟨x, hx⟩ := pv_at HL.out hkn
          have hki : (k : Int) < (c.n : Int) := by omega
          have hkz : ¬ (c.n : Int) ≤ (k : Int) := by omega
          obtain ⟨ad, hA, -, ⟨-, -, p2⟩, -⟩ := port_cells ((HP.out.below S.old (Nat.le_refl _)).wide S.old.size) hx
          rw [hA] at x7
          have hst := on_step hx
          have HST := Lib.hid hst
          have hole := on_le L k
          clear hst hx hA
          obtain ⟨on, hon⟩ : ∃ b, x.on = b := ⟨_, rfl⟩
          rw [hon] at p2 HST
          clear hon
          cases on with
          | false =>
            go_wp2
            go_roundw
            case rel => exact ⟨k + 1, hkn, by go_num, by rw [HST.out]; rfl, S⟩
            case measure => simp [intOf]; omega
          | true =>
            go_wp2
            go_roundw
            case rel => exact ⟨k + 1, hkn, by go_num, by rw [HST.out]; rfl, S⟩
            case measure => simp [intOf]; omega
        · have hkz : ¬ (k : Int) < (c.n : Int) := by omega
          have hke : k = c.n := by omega
          rw [hke]
          clear hk hkn hkz hke
          clear k
          have hkz : ¬ (c.n : Int) < (c.n : Int) := by omega
          obtain ⟨N, hN⟩ : ∃ N : Nat, i = N := ⟨i.toNat, by omega⟩
          have HNi := Lib.hid hN
          have hN2 : N ≤ 255 := by omega
          have HOL := Lib.hid (on_le L c.n)
          obtain ⟨ON, hON⟩ : ∃ ON, onK L c.n = ON := ⟨_, rfl⟩
          rw [hON] at HOL ⊢
          have HON := Lib.hid hON
          clear hON
          go_upto_region 9 with fail
          clear x7 hkz
          have hx := S.bk 0 rfl
          go_wp2_with (with_reducible refine wpList_load_row rfl 46 (.tmp 2) rfl X (by kernel_rfl) _ _ (0, 0) _ hx Tryd.underlying46 rfl (by kernel_rfl) ?_)
          (with_reducible refine (HNW _ S.old).out.mono ?_); rintro e w4 ⟨D, cap, rfl, hzd, k4⟩
          have S4 := TS.take S k4
          have HSN := Lib.hid (states_new c L D c.n cap HL.out hn3 hzd w4 S4.ports)
          clear S hx HNW k4 hzd
          go_wp2_with fail
          (with_reducible refine HSN.out.mono ?_); rintro e w5 ⟨D1, c1, rfl, hzd, k5⟩
          have S5 := TS.take S4.hs k5
          have HZD := Lib.hid hzd
          clear S4 k5 HSN hzd
          go_upto_region 10 with (refine wpList_store_row rfl 31 _ _ rfl _ _ rfl rfl _ _ (heap_alloc_new _ _) (by kernel_rfl) (by kernel_rfl) (by kernel_rfl) ?_)
          rw [alloc_row]
          have bN := new_below w5 (.cells (lT (newT c) D1 c.n c1).toArray 31)
          have S6 := S5.al rfl 31 (lT (newT c) D1 c.n c1)
          obtain ⟨U, hU⟩ : ∃ q, w5.heap.size = q := ⟨_, rfl⟩
          rw [hU] at S6 ⊢
          obtain ⟨w6, hww⟩ : ∃ y, w5.alloc (.cells (lT (newT c) D1 c.n c1).toArray 31) = y := ⟨_, rfl⟩
          rw [hww] at S6  ⊢
          clear hww hU bN S5 
          go_wp2_with fail
          (with_reducible refine (start0 _).mono ?_); rintro e w7 ⟨rfl, b7⟩
          have S7 := S6.below b7
          clear S6 b7
          have c12 := S7.hs.cell 0 12 rfl rfl
          have c13 := S7.hs.cell 0 13 rfl rfl
          have f12 := S7.hs.thaw 0 12 rfl
          have f13 := S7.hs.thaw 0 13 rfl
          go_upto_region 11 with fail
          have S8 : TS w [(U, 31, lT { newT c with ho := true, hv := 0 } D1 c.n c1), (X, 46, lC c)] D1 (statesL (newT c) (newL c L)) ((w7.setCell ⟨U, 12, none⟩ (.bool true)).setCell ⟨U, 13, none⟩ (.int .i64 0)) := (S7.set 0 rfl 12 (.bool true)).set 0 rfl 13 (.int .i64 0)
          generalize (w7.setCell ⟨U, 12, none⟩ (.bool true)).setCell ⟨U, 13, none⟩ (.int .i64 0) = w8 at S8 ⊢
          clear S7 c12 c13 f12 f13
          subst hN
          go_wp2
          go_loopw [9] (fun j wr => ∃ k : Nat, k ≤ N ∧ j = .int .i64 ((k : Int) + 1) ∧ ∃ t' L' D' c', (D' = none → c' = 0) ∧ Hid (HeT c.he k (idI c) t' ∧ HeL (idI c) L L' ∧ TickOk t' L' c.n) ∧ TS w [(U, 31, lT t' D' c.n c'), (X, 46, lC c)] D' L' wr) (fun j _ => N + 1 - (intOf j).toNat)
          case atStart => exact ⟨0, Nat.zero_le _, rfl, _, _, D1, c1, HZD.out, Lib.hid ⟨by
            have h1 := HTM.out
            have e1 := ofI_small (v := c.ma) (by omega) (by omega)
            have e2 := ofI_small (v := c.he) (by omega) (by omega)
            refine ⟨rfl, rfl, rfl, ?_, ?_, rfl, ?_⟩
            · show 0 < ofI c.ma; omega
            · show ofI c.he = _; exact e2
            · show (0 : Int) = 256 * (0 % c.he); rw [Int.zero_emod]; rfl, begin_he, HOK.out⟩, S8⟩
          case round =>
            clear S8 HZD HOK
            obtain ⟨k, hk, rfl, t', L', D', c', hz', HH, S⟩ := hrel
            by_cases hkn : k < N
            · have hle : (k : Int) + 1 ≤ (N : Int) := by omega
              have HZD := Lib.hid hz'
              clear hz'
              have HOK := Lib.hid HH.out.2.2
              have hte := he_tick (k := (k : Int)) (by have := HTM.out; omega) (Int.natCast_nonneg k) HH.out.2.1 HH.out.1
              have hok := HOK.out.tick hn3
              obtain ⟨R, hR⟩ : ∃ R, tickR t' L' = R := ⟨_, rfl⟩
              have HT := Lib.hid (tick_is t' D' c.n c' L' (Lib.hid HOK.out.bd.1) (Lib.hid HOK.out.bd.2.1) (Lib.hid HOK.out.bd.2.2.1) (Lib.hid HOK.out.bd.2.2.2.1) (Lib.hid HOK.out.bd.2.2.2.2.1) hn2 (Lib.hid HOK.out.bd.2.2.2.2.2.1) (Lib.hid HOK.out.bd.2.2.2.2.2.2) HZD wr (HD.out.below S.old (Nat.le_refl _)) (Lib.hid S.ports))
              rw [hR] at HT hte hok
              rw [HL.out, HON.out] at hte
              have HTE := Lib.hid hte
              have HOK2 := Lib.hid hok
              clear hR hte hok
              go_upto_region 14 with fail
              have hx := S.hs.bk 0 rfl
              go_wp2_with (with_reducible refine wpList_load_row rfl 31 (.tmp 7) rfl U (by kernel_rfl) _ _ (0, 0) _ hx Tryd.underlying31 rfl (by kernel_rfl) ?_)
              (with_reducible refine HT.out.mono ?_); rintro e w9 ⟨D2, c2, v, rfl, hz2, k9, hO⟩
              have S9 := TS.take S.hs k9
              have HZ2 := Lib.hid hz2
              clear S hx HT k9 hz2 HOK
              obtain ⟨A', cap', rfl⟩ : ∃ A' cap', v = .slice A' R.2.length cap' := by
                obtain ⟨C, hC, hown, -⟩ := hO
                obtain ⟨A', cap', e⟩ := OwnL.shape hown
                exact ⟨A', cap', by rw [e, ← show C.length = R.2.length from by rw [← hC, List.length_map]]⟩
              clear hO
              go_upto_region 15 with (refine wpList_store_row rfl 31 _ _ rfl _ _ rfl rfl _ _ (heap_alloc_new _ _) (by kernel_rfl) (by kernel_rfl) (by kernel_rfl) ?_)
              rw [alloc_row]
              have bN := new_below w9 (.cells (lT R.1.1 D2 c.n c2).toArray 31)
              have Sa := S9.al rfl 31 (lT R.1.1 D2 c.n c2)
              obtain ⟨V, hU⟩ : ∃ q, w9.heap.size = q := ⟨_, rfl⟩
              rw [hU] at Sa ⊢
              obtain ⟨wa, hww⟩ : ∃ y, w9.alloc (.cells (lT R.1.1 D2 c.n c2).toArray 31) = y := ⟨_, rfl⟩
              rw [hww] at Sa  ⊢
              clear hww hU bN S9 
              have x3 : wa.cell? ⟨X, 3, none⟩ = some (.int .i64 c.he) := Sa.hs.cell 2 3 rfl rfl
              have hh := HTM.out.2.1
              have hh0 : ¬ c.he = 0 := by omega
              obtain ⟨m, hm⟩ : ∃ m, ((k : Int) + 1) % c.he = m := ⟨_, rfl⟩
              have hm2 : ((k : Int) + 1).tmod c.he = m := by rw [Int.tmod_eq_emod_of_nonneg (by omega)]; exact hm
              have hm0 : 0 ≤ m := by rw [← hm]; exact Int.emod_nonneg _ hh0
              have hm1 : m < c.he := by rw [← hm]; exact Int.emod_lt_of_pos _ (by omega)
              have htl := HTE.out.2.2
              rw [hm] at htl
              have HTL := Lib.hid htl
              clear htl
              have HI := fun W => Lib.hid (isroot_is R.1.1 D2 c.n c2 true (Lib.hid (decide_eq_true (HTE.out.1.2.1.trans HTE.out.1.1.symm))) W)
              have HOLo := HOL.out
              obtain ⟨mb, hmb⟩ : ∃ b, (m == 0) = b := ⟨_, rfl⟩
              have HMB := Lib.hid hmb
              cases mb with
              | false =>
                have hlen : R.2.length = 0 := by rw [HTL.out]; have := HMB.out; simp at this; simp [this]
                rw [hlen]
                have hx := Sa.hs.bk 0 rfl
                clear hlen
                go_wp2_with (with_reducible refine wpList_load_rowG (by kernel_rfl) 31 (.tmp 10) rfl V (by kernel_rfl) _ _ (0, 0) _ hx Tryd.underlying31 rfl (by kernel_rfl) ?_)
                (with_reducible refine (HI _).out.mono ?_); rintro e wd ⟨rfl, bd⟩
                have Sd := Sa.below bd
                clear Sa hx HI bd x3 hm hm2 hm0 hm1 hmb
                have hx := Sd.hs.bk 0 rfl
                have hy := Sd.hs.bk 1 rfl
                have Se := (Sd.row 1 rfl (lT R.1.1 D2 c.n c2)).tail
                go_wp2_with (first | (with_reducible refine wpList_load_row rfl 31 (.tmp 10) rfl V (by kernel_rfl) _ _ (0, 0) _ hx Tryd.underlying31 rfl (by kernel_rfl) ?_) | (refine wpList_store_row rfl 31 _ _ rfl U _ rfl rfl _ _ hy (by kernel_rfl) (by kernel_rfl) (by kernel_rfl) ?_))
                exact ⟨⟨k + 1, hkn, by go_num, _, _, D2, c2, HZ2.out, Lib.hid ⟨by have := HTE.out.1; push_cast; exact this, HTE.out.2.1, HOK2.out⟩, Se⟩, by simp [intOf]; omega⟩
              | true =>
                have hlen : R.2.length = ON := by rw [HTL.out]; have := HMB.out; simp at this; simp [this]
                rw [hlen]
                have hx := Sa.hs.bk 0 rfl
                clear hlen
                go_wp2_with (with_reducible refine wpList_load_rowG (by kernel_rfl) 31 (.tmp 10) rfl V (by kernel_rfl) _ _ (0, 0) _ hx Tryd.underlying31 rfl (by kernel_rfl) ?_)
                (with_reducible refine (HI _).out.mono ?_); rintro e wd ⟨rfl, bd⟩
                have Sd := Sa.below bd
                clear Sa hx HI bd x3 hm hm2 hm0 hm1 hmb
                have hx := Sd.hs.bk 0 rfl
                have hy := Sd.hs.bk 1 rfl
                have Se := (Sd.row 1 rfl (lT R.1.1 D2 c.n c2)).tail
                go_wp2_with (first | (with_reducible refine wpList_load_row rfl 31 (.tmp 10) rfl V (by kernel_rfl) _ _ (0, 0) _ hx Tryd.underlying31 rfl (by kernel_rfl) ?_) | (refine wpList_store_row rfl 31 _ _ rfl U _ rfl rfl _ _ hy (by kernel_rfl) (by kernel_rfl) (by kernel_rfl) ?_))
                exact ⟨⟨k + 1, hkn, by go_num, _, _, D2, c2, HZ2.out, Lib.hid ⟨by have := HTE.out.1; push_cast; exact this, HTE.out.2.1, HOK2.out⟩, Se⟩, by simp [intOf]; omega⟩
            · have hle : ¬ (k : Int) + 1 ≤ (N : Int) := by omega
              go_wp2
              go_ret
              exact ⟨rfl, HX.out ▸ S.old⟩
    · have hz0 : (z != 0) = true := by simpa using h0
      go_wp2_with fail
      (with_reducible refine (HA _ S3.old).out.mono ?_); rintro e wq ⟨rfl, bq⟩
      have Sq := S3.below bq
      go_wp2
      go_ret
      exact ⟨rfl, HX.out ▸ Sq.old⟩

end Go.Proofs.YtnmnihlhcokjpaaDoor
