/- The law RelayNever, walked: it answers true, whatever the frame, the ports and their states. -/
import Derived.Test.YtbjcjeadnfckgaaDoorRelayAwake
import Derived.Test.YtbjcjeadnfckgaaDoorExecLoad
import Derived.Test.YtbjcjeadnfckgaaDoorWireArg
import Derived.Test.YtbjcjeadnfckgaaDoorRelayPick
import Derived.Test.YtbjcjeadnfckgaaDoorLater
import Derived.Deep.DeepCutAuto
import Derived.LoopTactic
import Derived.Deep.QuietTactic
import Derived.Deep.RegionHeld3
namespace Go.Proofs.YtbjcjeadnfckgaaDoor
set_option maxRecDepth 100000
open Go.ChangeShapes Go.WideShapes Go.ChangeAt Go.RowKit
set_option linter.unusedVariables false
set_option linter.unusedSimpArgs false

theorem never_long (t f k inn wh : Int) (kn : Bool) (A : Option Addr) (n c : Nat) (A2 : Option Addr) (m c2 : Nat) (hn : n ≤ 9223372036854775807) (hm : m ≤ 9223372036854775807) (h : 2000 < n ∨ 2000 < m) (w : World) (hd : Hd w) :
    Calls Tryd.prog 4 #[.agg #[.int .u64 t, .int .u64 f, .int .u16 k, .slice A n c], .int .i64 inn, .slice A2 m c2, .int .i64 wh, .bool kn] w fun e w' => e = .returned (.bool true) ∧ Below w.heap.size w w' := by
  obtain ⟨wb, hwb, S⟩ := hs_one w 27 [.int .u64 t, .int .u64 f, .int .u16 k, .slice A n c]
  have HAW := fun W (h : Below w.heap.size w W) => Lib.hid (awake18_is W (hd.below h (Nat.le_refl _)))
  go_enter Tryd.func4, Tryd.ntmps4
  go_upto_region 1 with fail
  clear hwb
  obtain ⟨X, hX⟩ : ∃ X, w.heap.size = X := ⟨_, rfl⟩
  have HX := Lib.hid hX
  rw [hX] at S
  rw [show (Value.pointer (some ⟨w.heap.size, 0, none⟩)) = Value.pointer (some ⟨X, 0, none⟩) by rw [hX]]
  clear hX
  go_wp2_with fail
  (with_reducible refine (HAW _ S.old).out.mono ?_); rintro e w1 ⟨rfl, b1⟩
  have S1 := S.below b1
  have c3 := S1.cell 0 3 rfl rfl
  clear S b1
  by_cases h6 : 2000 < n
  · have d3 : decide (2000 < (n : Int)) = true := by simp; omega
    clear h h6
    go_wp2_with fail
    (with_reducible refine (HAW _ S1.old).out.mono ?_); rintro e w2 ⟨rfl, b2⟩
    have S2 := S1.below b2
    go_wp2
    go_ret
    exact ⟨rfl, S2.old⟩
  · have d3 : decide (2000 < (n : Int)) = false := by simp; omega
    have d4 : decide (2000 < (m : Int)) = true := by simp; omega
    clear h h6
    go_wp2_with fail
    (with_reducible refine (HAW _ S1.old).out.mono ?_); rintro e w2 ⟨rfl, b2⟩
    have S2 := S1.below b2
    go_wp2
    go_ret
    exact ⟨rfl, S2.old⟩

set_option maxRecDepth 100000 in
set_option maxHeartbeats 4000000 in
theorem never_short (t f k inn wh : Int) (kn : Bool) (A : Option Addr) (n c : Nat) (l : List UInt8) (A2 : Option Addr) (m c2 : Nat) (U : List Int) (hU : Hid (U.length = m)) (hl : Hid (l.length = n)) (hc : n ≤ c) (hnc : Hid (A = none → c = 0)) (h0 : 0 ≤ t) (h1 : t ≤ 18446744073709551615) (hf : 0 ≤ f ∧ f ≤ 18446744073709551615) (h2 : 0 ≤ k) (h5 : k < 65536) (hi : -9223372036854775808 ≤ inn ∧ inn ≤ 9223372036854775807) (hn : n ≤ 2000) (hm : m ≤ 2000) (w : World) (hd : Hd w) (hr : Hid (RB w A 0 w.heap.size l)) (hI : Hid (IntsIn w A2 w.heap.size U)) :
    Calls Tryd.prog 4 #[.agg #[.int .u64 t, .int .u64 f, .int .u16 k, .slice A n c], .int .i64 inn, .slice A2 m c2, .int .i64 wh, .bool kn] w fun e w' => e = .returned (.bool true) ∧ Below w.heap.size w w' := by
  have HP := fun W (h : Below w.heap.size w W) => Lib.hid (pports_is t f k inn wh kn A n c l A2 m c2 U hU (by omega) hl hc hnc (by omega) h0 h1 h2 h5 hi W (hd.below h (Nat.le_refl _)) (Lib.hid ((hr.out.below h (Nat.le_refl _)).wide (Nat.le_refl _) h.size)) (Lib.hid (hI.out.wideI h)))
  have HC := fun W (h : Below w.heap.size w W) => Lib.hid (rpclass_is t f k A n c l hl hc hnc (by omega) h0 h1 h2 h5 W (hd.below h (Nat.le_refl _)) ((hr.out.below h (Nat.le_refl _)).wide (Nat.le_refl _) h.size))
  obtain ⟨cl, hcl⟩ : ∃ q, classR t k l = q := ⟨_, rfl⟩
  rw [hcl] at HP HC
  obtain ⟨p, hp⟩ : ∃ p, throughB cl t inn U wh kn = p := ⟨_, rfl⟩
  rw [hp] at HP
  obtain ⟨I, hI0⟩ : ∃ I, pickN p m = I := ⟨_, rfl⟩
  rw [hI0] at HP
  have HII := Lib.hid hI0
  have HPP := Lib.hid hp
  have hIl : I.length ≤ 2000 := by rw [← hI0]; have := pickN_len p m; omega
  obtain ⟨z, hz⟩ : ∃ z, I.length = z := ⟨_, rfl⟩
  have HZ := Lib.hid hz
  rw [hz] at hIl
  clear hI0 hcl hz hp
  have d3 : decide (2000 < (n : Int)) = false := by simp; omega
  have d4 : decide (2000 < (m : Int)) = false := by simp; omega
  obtain ⟨wb, hwb, S⟩ := hs_one w 27 [.int .u64 t, .int .u64 f, .int .u16 k, .slice A n c]
  have HAW := fun W (h : Below w.heap.size w W) => Lib.hid (awake18_is W (hd.below h (Nat.le_refl _)))
  go_enter Tryd.func4, Tryd.ntmps4
  go_upto_region 1 with fail
  clear hwb
  obtain ⟨X, hX⟩ : ∃ X, w.heap.size = X := ⟨_, rfl⟩
  have HX := Lib.hid hX
  rw [hX] at S
  rw [show (Value.pointer (some ⟨w.heap.size, 0, none⟩)) = Value.pointer (some ⟨X, 0, none⟩) by rw [hX]]
  clear hX
  go_wp2_with fail
  (with_reducible refine (HAW _ S.old).out.mono ?_); rintro e w1 ⟨rfl, b1⟩
  have S1 := S.below b1
  have c3 := S1.cell 0 3 rfl rfl
  clear S b1
  go_upto_region 3 with fail
  clear c3 HAW
  have hx := S1.bk 0 rfl
  go_wp2_with (with_reducible refine wpList_load_rowG (by kernel_rfl) 27 (.tmp 5) rfl X (by kernel_rfl) _ _ (0, 0) _ hx Tryd.underlying27 rfl (by kernel_rfl) ?_)
  (with_reducible refine (HP _ S1.old).out.mono ?_); rintro e w2 ⟨v1, rfl, R1, b2⟩
  have S2 := S1.below b2
  have S1o := S1.old.size
  obtain ⟨D1, k1, rfl⟩ := OwnL.shape R1
  have R2 := R1.mono S1o
  have hzz := HZ.out
  rw [hzz]
  clear S1 R1 b2 HP HX hx hzz
  go_wp2
  go_loopw [12] (fun i wr => ∃ j : Nat, j ≤ z ∧ i = .int .i64 j ∧ Hs w [(X, 27, [.int .u64 t, .int .u64 f, .int .u16 k, .slice A n c])] wr ∧ IntsR wr w.heap.size (.slice D1 I.length k1) I) (fun i _ => z - (intOf i).toNat)
  case atStart => exact ⟨0, Nat.zero_le _, rfl, S2, R2⟩
  case round =>
    clear S2 R2
    obtain ⟨j, hj, rfl, S, R⟩ := hrel
    by_cases hjm : j < z
    · have hji : (j : Int) < (z : Int) := by omega
      have hjz : ¬ (z : Int) ≤ (j : Int) := by omega
      obtain ⟨x, hx⟩ : ∃ x, I[j]? = some x := ⟨_, List.getElem?_eq_getElem (by rw [HZ.out]; exact hjm)⟩
      have hx' := hx
      rw [← HII.out] at hx'
      obtain ⟨hpx, hxm⟩ := pickN_at hx'
      rw [← HPP.out] at hpx
      obtain ⟨a1, a2, a3, a4, a5, a6⟩ := through_is hpx
      obtain ⟨g1, rfl, -, e1⟩ := R.cell hx
      obtain ⟨ad, rfl, -, hcx, -, -⟩ := (hI.out.below S.old) x 4 a4
      have x1 : ((x : Int) == inn) = false := by simpa using a3
      have x2 : decide ((x : Int) < 0) = false := by simp
      have x3 : decide ((m : Int) ≤ (x : Int)) = false := by simp; omega
      have x4 : (x : Int) < (m : Int) := by omega
      have x5 : ¬ (m : Int) ≤ (x : Int) := by omega
      have x0 : 0 ≤ (x : Int) := by omega
      cases j with
      | zero =>
        clear hx hx' hpx a1 a2 a3 a4 a5 a6
        have e1L := later_cell (block_lt_of_cell e1) e1
        have hcL := later_cell (block_lt_of_cell hcx) hcx
        go_upto_region 7 with fail
        refine region_later mixedL (by kernel_rfl) ?_
        try simp only [List.append_eq, List.cons_append, List.nil_append]
        repeat (go_big_quiet_step (fail))
        refine wpQuiet_nil ?_
        intro w9 hw9
        obtain ⟨⟨w8, b8⟩, rfl⟩ := hw9
        go_wp2
        go_roundw
        case rel => exact ⟨1, hjm, by go_num, S.below b8, IntsR.below R b8⟩
        case measure => simp [intOf]; omega
      | succ i =>
        obtain ⟨y, hy⟩ : ∃ y, I[i]? = some y := ⟨_, List.getElem?_eq_getElem (by rw [HZ.out]; omega)⟩
        have hyx : y < x := by rw [← HII.out] at hy hx; exact pickN_rise hy hx
        obtain ⟨g2, e, -, e2⟩ := R.cell hy
        cases e
        have j0 : decide (0 < ((i + 1 : Nat) : Int)) = true := decide_eq_true (by omega)
        have y1 : decide ((x : Int) ≤ (y : Int)) = false := by simp; omega
        have j1 : IntKind.i64.wrap (((i + 1 : Nat) : Int) - 1) = (i : Int) := by rw [IntWalk.i64_in _ (by omega)]; omega
        have j2 : (i : Int) < (z : Int) := by omega
        have j3 : ¬ (z : Int) ≤ (i : Int) := by omega
        clear hx hx' hpx a1 a2 a3 a4 a5 a6 hy
        have e1L := later_cell (block_lt_of_cell e1) e1
        have e2L := later_cell (block_lt_of_cell e2) e2
        have hcL := later_cell (block_lt_of_cell hcx) hcx
        go_upto_region 7 with fail
        refine region_later mixedL (by kernel_rfl) ?_
        try simp only [List.append_eq, List.cons_append, List.nil_append]
        repeat (go_big_quiet_step (fail))
        refine wpQuiet_nil ?_
        intro w9 hw9
        obtain ⟨⟨w8, b8⟩, rfl⟩ := hw9
        go_wp2
        go_roundw
        case rel => exact ⟨i + 1 + 1, hjm, by go_num, S.below b8, IntsR.below R b8⟩
        case measure => simp [intOf]; omega
    · have hjz : ¬ (j : Int) < (z : Int) := by omega
      clear R hj
      by_cases hz0 : z = 0
      · subst hz0
        go_wp2
        go_ret
        exact ⟨rfl, S.old⟩
      · obtain ⟨x, hx⟩ : ∃ x, I[0]? = some x := ⟨_, List.getElem?_eq_getElem (by rw [HZ.out]; omega)⟩
        rw [← HII.out] at hx
        obtain ⟨hpx, hxm⟩ := pickN_at hx
        rw [← HPP.out] at hpx
        obtain ⟨a1, a2, a3, a4, a5, a6⟩ := through_is hpx
        obtain ⟨q, rfl⟩ : ∃ q : Nat, inn = q := ⟨inn.toNat, by omega⟩
        rw [Int.toNat_natCast] at a6
        obtain ⟨ad, rfl, -, hcx, -, -⟩ := (hI.out.below S.old) q 4 a6
        have z0 : ((z : Int) == 0) = false := by simp; exact hz0
        have x4 : (q : Int) < (m : Int) := by have := hU.out; omega
        have x5 : ¬ (m : Int) ≤ (q : Int) := by omega
        have hbk := S.bk 0 rfl
        subst a5
        have A6 := Lib.hid a6
        clear hx hpx a1 a2 a3 a4 a6
        go_upto_region 9 with fail
        go_wp2_with (with_reducible refine wpList_load_rowG (by kernel_rfl) 27 (.tmp 5) rfl X (by kernel_rfl) _ _ (0, 0) _ hbk Tryd.underlying27 rfl (by kernel_rfl) ?_)
        (with_reducible refine (HC _ S.old).out.mono ?_); rintro e w3 ⟨rfl, b3⟩
        have S3 := S.below b3
        obtain ⟨ad', e', -, hcy, -, -⟩ := (hI.out.below S3.old) q 4 A6.out
        cases e'
        go_wp2
        go_ret
        exact ⟨rfl, S3.old⟩
theorem RelayNever_walk (t f k : Int) (A : Option Addr) (n c : Nat) (z : List Int) (inn : Int) (A2 : Option Addr) (m c2 : Nat) (z2 : List Int) (wh : Int) (kn : Bool) (w : World) (hd : Hd w) (hfr : FrIn w t f k A n c z) (hi : (Lit.int .i64 inn).wf = true) (hz2 : IsRow .i64 w A2 m c2 z2) (hwh : (Lit.int .i64 wh).wf = true) :
    Calls Tryd.prog 4 #[.agg #[.int .u64 t, .int .u64 f, .int .u16 k, .slice A n c], .int .i64 inn, .slice A2 m c2, .int .i64 wh, .bool kn] w fun e w' => e = .returned (.bool true) ∧ Below w.heap.size w w' := by
  obtain ⟨h0, h3, h1, h4, h2, h5, hz⟩ := hfr
  obtain ⟨l, hl, hr, hc, hm2⟩ := bytes_in hz
  obtain ⟨U, hU0, hmm, hI0⟩ := ints64_in hz2
  have hU : Hid (U.length = m) := Lib.hid hU0
  have hI := Lib.hid hI0
  have hnc := Lib.hid (none_cap hz)
  have h1' : t ≤ 18446744073709551615 := by omega
  have hf' : 0 ≤ f ∧ f ≤ 18446744073709551615 := by omega
  have hi' := bounds_i64 hi
  by_cases h : 2000 < n ∨ 2000 < m
  · exact never_long t f k inn wh kn A n c A2 m c2 hm2 hmm h w hd
  · exact never_short t f k inn wh kn A n c l A2 m c2 U hU hl hc hnc h0 h1' hf' h2 h5 ⟨hi'.1, by omega⟩ (by omega) (by omega) w hd (Lib.hid hr) hI

end Go.Proofs.YtbjcjeadnfckgaaDoor
