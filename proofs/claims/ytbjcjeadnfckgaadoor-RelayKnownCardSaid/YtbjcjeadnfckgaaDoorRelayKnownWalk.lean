/- The law RelayKnown, walked: it answers true, whatever the frame, the ports and their states. -/
import Derived.Test.YtbjcjeadnfckgaaDoorRelayAwake
import Derived.Test.YtbjcjeadnfckgaaDoorExecLoad
import Derived.Test.YtbjcjeadnfckgaaDoorWireArg
import Derived.Test.YtbjcjeadnfckgaaDoorRelayPick
import Derived.Test.YtbjcjeadnfckgaaDoorLater
import Derived.Deep.DeepCutAuto
import Derived.LoopTactic
import Derived.Deep.QuietTactic
import Derived.Deep.RegionHeld3
namespace Go.Proofs.YtbjcjeadnfckgaaDoor
set_option maxRecDepth 100000
open Go.ChangeShapes Go.WideShapes Go.ChangeAt Go.RowKit
set_option linter.unusedVariables false
set_option linter.unusedSimpArgs false

theorem known_long (t f k inn wh : Int) (A : Option Addr) (n c : Nat) (A2 : Option Addr) (m c2 : Nat) (hn : n ≤ 9223372036854775807) (hm : m ≤ 9223372036854775807) (h : 2000 < n ∨ m = 0 ∨ 200 < m) (w : World) (hd : Hd w) :
    Calls Tryd.prog 5 #[.agg #[.int .u64 t, .int .u64 f, .int .u16 k, .slice A n c], .int .u8 inn, .slice A2 m c2, .int .u8 wh] w fun e w' => e = .returned (.bool true) ∧ Below w.heap.size w w' := by
  obtain ⟨wb, hwb, S⟩ := hs_one w 27 [.int .u64 t, .int .u64 f, .int .u16 k, .slice A n c]
  have HAW := fun W (h : Below w.heap.size w W) => Lib.hid (awake18_is W (hd.below h (Nat.le_refl _)))
  go_enter Tryd.func5, Tryd.ntmps5
  go_upto_region 1 with fail
  clear hwb
  obtain ⟨X, hX⟩ : ∃ X, w.heap.size = X := ⟨_, rfl⟩
  have HX := Lib.hid hX
  rw [hX] at S
  rw [show (Value.pointer (some ⟨w.heap.size, 0, none⟩)) = Value.pointer (some ⟨X, 0, none⟩) by rw [hX]]
  clear hX
  go_wp2_with fail
  (with_reducible refine (HAW _ S.old).out.mono ?_); rintro e w1 ⟨rfl, b1⟩
  have S1 := S.below b1
  have c3 := S1.cell 0 3 rfl rfl
  clear S b1
  by_cases h6 : 2000 < n
  · have d3 : decide (2000 < (n : Int)) = true := by simp; omega
    clear h h6
    go_wp2_with fail
    (with_reducible refine (HAW _ S1.old).out.mono ?_); rintro e w2 ⟨rfl, b2⟩
    have S2 := S1.below b2
    go_wp2
    go_ret
    exact ⟨rfl, S2.old⟩
  by_cases h7 : m = 0
  · have d3 : decide (2000 < (n : Int)) = false := by simp; omega
    subst h7
    clear h h6
    go_wp2_with fail
    (with_reducible refine (HAW _ S1.old).out.mono ?_); rintro e w2 ⟨rfl, b2⟩
    have S2 := S1.below b2
    go_wp2
    go_ret
    exact ⟨rfl, S2.old⟩
  · have d3 : decide (2000 < (n : Int)) = false := by simp; omega
    have d5 : ((m : Int) == 0) = false := by simp; omega
    have d4 : decide (200 < (m : Int)) = true := by simp; omega
    clear h h6 h7
    go_wp2_with fail
    (with_reducible refine (HAW _ S1.old).out.mono ?_); rintro e w2 ⟨rfl, b2⟩
    have S2 := S1.below b2
    go_wp2
    go_ret
    exact ⟨rfl, S2.old⟩

set_option maxRecDepth 100000 in
set_option maxHeartbeats 4000000 in
theorem known_short (t f k : Int) (x y : Nat) (A : Option Addr) (n c : Nat) (l : List UInt8) (A2 : Option Addr) (m c2 : Nat) (U : List Int) (hU : Hid (U.length = m)) (hl : Hid (l.length = n)) (hc : n ≤ c) (hnc : Hid (A = none → c = 0)) (h0 : 0 ≤ t) (h1 : t ≤ 18446744073709551615) (hf : 0 ≤ f ∧ f ≤ 18446744073709551615) (h2 : 0 ≤ k) (h5 : k < 65536) (hx : x ≤ 255) (hy : y ≤ 255) (hn : n ≤ 2000) (hm : m ≤ 200) (hm0 : 0 < m) (w : World) (hd : Hd w) (hr : Hid (RB w A 0 w.heap.size l)) (hI : Hid (IntsIn w A2 w.heap.size U)) :
    Calls Tryd.prog 5 #[.agg #[.int .u64 t, .int .u64 f, .int .u16 k, .slice A n c], .int .u8 x, .slice A2 m c2, .int .u8 y] w fun e w' => e = .returned (.bool true) ∧ Below w.heap.size w w' := by
  obtain ⟨a, ha⟩ : ∃ a, x % m = a := ⟨_, rfl⟩
  obtain ⟨b, hb⟩ : ∃ b, y % m = b := ⟨_, rfl⟩
  have ham : a < m := by rw [← ha]; exact Nat.mod_lt _ hm0
  have hbm : b < m := by rw [← hb]; exact Nat.mod_lt _ hm0
  have ra : (x : Int).tmod (m : Int) = (a : Int) := by rw [Int.tmod_eq_emod_of_nonneg (by omega), ← ha]; simp
  have rb : (y : Int).tmod (m : Int) = (b : Int) := by rw [Int.tmod_eq_emod_of_nonneg (by omega), ← hb]; simp
  have HP := fun W kn (h : Below w.heap.size w W) => Lib.hid (pports_is t f k a b kn A n c l A2 m c2 U hU (by omega) hl hc hnc (by omega) h0 h1 h2 h5 (by omega) W (hd.below h (Nat.le_refl _)) (Lib.hid ((hr.out.below h (Nat.le_refl _)).wide (Nat.le_refl _) h.size)) (Lib.hid (hI.out.wideI h)))
  have HC := fun W (h : Below w.heap.size w W) => Lib.hid (rpclass_is t f k A n c l hl hc hnc (by omega) h0 h1 h2 h5 W (hd.below h (Nat.le_refl _)) ((hr.out.below h (Nat.le_refl _)).wide (Nat.le_refl _) h.size))
  obtain ⟨cl, hcl⟩ : ∃ q, classR t k l = q := ⟨_, rfl⟩
  rw [hcl] at HP HC
  clear hcl ha hb
  have hmz : ¬ (m : Int) = 0 := by omega
  have d3 : decide (2000 < (n : Int)) = false := by simp; omega
  have d5 : ((m : Int) == 0) = false := by simp; omega
  have d4 : decide (200 < (m : Int)) = false := by simp; omega
  obtain ⟨wb, hwb, S⟩ := hs_one w 27 [.int .u64 t, .int .u64 f, .int .u16 k, .slice A n c]
  have HAW := fun W (h : Below w.heap.size w W) => Lib.hid (awake18_is W (hd.below h (Nat.le_refl _)))
  go_enter Tryd.func5, Tryd.ntmps5
  go_upto_region 1 with fail
  clear hwb
  obtain ⟨X, hX⟩ : ∃ X, w.heap.size = X := ⟨_, rfl⟩
  have HX := Lib.hid hX
  rw [hX] at S
  rw [show (Value.pointer (some ⟨w.heap.size, 0, none⟩)) = Value.pointer (some ⟨X, 0, none⟩) by rw [hX]]
  clear hX
  go_wp2_with fail
  (with_reducible refine (HAW _ S.old).out.mono ?_); rintro e w1 ⟨rfl, b1⟩
  have S1 := S.below b1
  have c3 := S1.cell 0 3 rfl rfl
  clear S b1
  go_upto_region 3 with fail
  clear c3 HAW
  refine region_later mixedL (by kernel_rfl) ?_
  try simp only [List.append_eq, List.cons_append, List.nil_append]
  repeat (go_big_quiet_step (fail))
  refine wpQuiet_nil ?_
  intro w9 hw9
  obtain ⟨⟨w8, b8⟩, rfl⟩ := hw9
  have S2 := S1.below b8
  clear S1 b8
  go_upto_region 4 with fail
  refine wp_region_held_drew (S := fun W => Hs w [(X, 27, [.int .u64 t, .int .u64 f, .int .u16 k, .slice A n c])] W) (by kernel_rfl) S2.drew (fun hHeld => ?_)
  refine wpAnyH_take (i := 0) (v := _) rfl (by kernel_rfl) (by kernel_rfl) (by kernel_rfl) (fun _ _ _ h => h) (Or.inl ⟨by kernel_rfl, fun w' hSw => exec_load_row 27 _ rfl X (by kernel_rfl) _ _ (0, 0) _ (hSw.bk 0 rfl) Tryd.underlying27 rfl (by kernel_rfl)⟩) (by assumption) ?_
  try simp only [Act.put, List.getElem_toArray, List.getElem_cons_succ, List.getElem_cons_zero, List.setIfInBounds_toArray, List.set_cons_succ, List.set_cons_zero]
  refine wpAnyH_take (i := 1) (v := ?_) rfl (by kernel_rfl) (by kernel_rfl) (by kernel_rfl) (fun _ _ _ h => h) (Or.inl ⟨by kernel_rfl, ?_⟩) (by assumption) ?_
  rotate_left
  · intro w' hSw; (try dsimp only at hSw); go_simp; with_reducible rfl
  try simp only [Act.put, List.getElem_toArray, List.getElem_cons_succ, List.getElem_cons_zero, List.setIfInBounds_toArray, List.set_cons_succ, List.set_cons_zero]
  refine wpAnyH_take (i := 2) (v := ?_) rfl (by kernel_rfl) (by kernel_rfl) (by kernel_rfl) (fun _ _ _ h => h) (Or.inl ⟨by kernel_rfl, ?_⟩) (by assumption) ?_
  rotate_left
  · intro w' hSw; (try dsimp only at hSw); go_simp; with_reducible rfl
  try simp only [Act.put, List.getElem_toArray, List.getElem_cons_succ, List.getElem_cons_zero, List.setIfInBounds_toArray, List.set_cons_succ, List.set_cons_zero]
  refine wpAnyH_take (i := 3) (v := ?_) rfl (by kernel_rfl) (by kernel_rfl) (by kernel_rfl) (fun _ _ _ h => h) (Or.inl ⟨by kernel_rfl, ?_⟩) (by assumption) ?_
  rotate_left
  · intro w' hSw; (try dsimp only at hSw); go_simp; with_reducible rfl
  try simp only [Act.put, List.getElem_toArray, List.getElem_cons_succ, List.getElem_cons_zero, List.setIfInBounds_toArray, List.set_cons_succ, List.set_cons_zero]
  refine wpAnyH_take (i := 5) (v := _) rfl (by kernel_rfl) (by kernel_rfl) (by kernel_rfl) (fun _ _ _ h => h) (Or.inl ⟨by kernel_rfl, fun w' hSw => exec_load_row 27 _ rfl X (by kernel_rfl) _ _ (0, 0) _ (hSw.bk 0 rfl) Tryd.underlying27 rfl (by kernel_rfl)⟩) (by assumption) ?_
  try simp only [Act.put, List.getElem_toArray, List.getElem_cons_succ, List.getElem_cons_zero, List.setIfInBounds_toArray, List.set_cons_succ, List.set_cons_zero]
  refine wpAnyH_take (i := 6) (v := ?_) rfl (by kernel_rfl) (by kernel_rfl) (by kernel_rfl) (fun _ _ _ h => h) (Or.inl ⟨by kernel_rfl, ?_⟩) (by assumption) ?_
  rotate_left
  · intro w' hSw; (try dsimp only at hSw); go_simp; with_reducible rfl
  try simp only [Act.put, List.getElem_toArray, List.getElem_cons_succ, List.getElem_cons_zero, List.setIfInBounds_toArray, List.set_cons_succ, List.set_cons_zero]
  refine wpAnyH_take (i := 7) (v := ?_) rfl (by kernel_rfl) (by kernel_rfl) (by kernel_rfl) (fun _ _ _ h => h) (Or.inl ⟨by kernel_rfl, ?_⟩) (by assumption) ?_
  rotate_left
  · intro w' hSw; (try dsimp only at hSw); go_simp; with_reducible rfl
  try simp only [Act.put, List.getElem_toArray, List.getElem_cons_succ, List.getElem_cons_zero, List.setIfInBounds_toArray, List.set_cons_succ, List.set_cons_zero]
  refine wpAnyH_take (i := 8) (v := ?_) rfl (by kernel_rfl) (by kernel_rfl) (by kernel_rfl) (fun _ _ _ h => h) (Or.inl ⟨by kernel_rfl, ?_⟩) (by assumption) ?_
  rotate_left
  · intro w' hSw; (try dsimp only at hSw); go_simp; with_reducible rfl
  try simp only [Act.put, List.getElem_toArray, List.getElem_cons_succ, List.getElem_cons_zero, List.setIfInBounds_toArray, List.set_cons_succ, List.set_cons_zero]
  refine wpAnyH_ready (rs := [4]) (by kernel_rfl) (by simp) ?_
  refine AllReadyH.cons rfl (fun K hK => ?_) AllReadyH.nil
  go_simp
  (with_reducible refine (HP _ true S2.drew.old).out.mono ?_); rintro e w3 ⟨v1, rfl, R1, b3⟩
  have S3 := S2.drew.below b3
  refine hK.out _ _ (S3) (fun hHeld => ?_)
  clear hK K
  try simp only [Act.put, List.getElem_toArray, List.getElem_cons_succ, List.getElem_cons_zero, List.setIfInBounds_toArray, List.set_cons_succ, List.set_cons_zero]
  refine wpAnyH_ready (rs := [9]) (by kernel_rfl) (by simp) ?_
  refine AllReadyH.cons rfl (fun K hK => ?_) AllReadyH.nil
  go_simp
  (with_reducible refine (HP _ false S3.old).out.mono ?_); rintro e w4 ⟨v2, rfl, R2, b4⟩
  have S4 := S3.below b4
  have R1' := R1.below b4
  refine hK.out _ _ (S4) (fun hHeld => ?_)
  clear hK K
  try simp only [Act.put, List.getElem_toArray, List.getElem_cons_succ, List.getElem_cons_zero, List.setIfInBounds_toArray, List.set_cons_succ, List.set_cons_zero]
  refine wpAnyH_take (i := 10) (v := ?_) rfl (by kernel_rfl) (by kernel_rfl) (by kernel_rfl) (fun _ _ _ h => h) (Or.inl ⟨by kernel_rfl, ?_⟩) (by assumption) ?_
  rotate_left
  · intro w' hSw; (try dsimp only at hSw); go_simp; with_reducible rfl
  try simp only [Act.put, List.getElem_toArray, List.getElem_cons_succ, List.getElem_cons_zero, List.setIfInBounds_toArray, List.set_cons_succ, List.set_cons_zero]
  refine wpAnyH_take (i := 11) (v := ?_) rfl (by kernel_rfl) (by kernel_rfl) (by kernel_rfl) (fun _ _ _ h => h) (Or.inl ⟨by kernel_rfl, ?_⟩) (by assumption) ?_
  rotate_left
  · intro w' hSw; (try dsimp only at hSw); go_simp; with_reducible rfl
  try simp only [Act.put, List.getElem_toArray, List.getElem_cons_succ, List.getElem_cons_zero, List.setIfInBounds_toArray, List.set_cons_succ, List.set_cons_zero]
  refine wpAnyH_done (by kernel_rfl) ?_ _
  obtain ⟨D1, k1, rfl⟩ := OwnL.shape R1'
  obtain ⟨D2, k2, rfl⟩ := OwnL.shape R2
  clear hHeld S2 S3 R1 R1' R2 b3 b4 HP HX
  obtain ⟨KI, hKI⟩ : ∃ I, pickN (throughB cl t a U b true) m = I := ⟨_, rfl⟩
  obtain ⟨UI, hUI⟩ : ∃ I, pickN (throughB cl t a U b false) m = I := ⟨_, rfl⟩
  obtain ⟨N, hN⟩ : ∃ N, (pickN (otherB a U) m).length = N := ⟨_, rfl⟩
  obtain ⟨ua, hua⟩ : ∃ u, U[a]? = some u := ⟨_, List.getElem?_eq_getElem (by rw [hU.out]; exact ham)⟩
  obtain ⟨ub, hub⟩ : ∃ u, U[b]? = some u := ⟨_, List.getElem?_eq_getElem (by rw [hU.out]; exact hbm)⟩
  have hfa : fwdB U (a : Int) = decide (ua = 4) := by unfold fwdB; rw [hU.out, Int.toNat_natCast, hua]; simp [ham]
  have F0 : (¬ cl = 2 ∨ ¬ ua = 4) → KI.length = 0 ∧ UI.length = 0 := fun h => by
    have h' : fwdB U (a : Int) = false ∨ ¬ cl = 2 := h.elim .inr (fun q => .inl (by rw [hfa]; exact decide_eq_false q))
    rw [← hKI, ← hUI, goes_none h', goes_none h']
    exact ⟨rfl, rfl⟩
  have F1 : cl = 2 → ua = 4 → UI.length = N := fun h1 h2 => by
    rw [← hUI, ← goes_all (by rw [hfa]; exact decide_eq_true h2) h1]
    rw [show (groupB t || !false) = true from by simp, goL_all]
    exact hN
  have F2 : cl = 2 → ua = 4 → groupB t = true → KI.length = N := fun h1 h2 h3 => by
    rw [← hKI, ← goes_all (by rw [hfa]; exact decide_eq_true h2) h1, h3, show (true || !true) = true from rfl, goL_all]
    exact hN
  have F3 : cl = 2 → ua = 4 → groupB t = false → KI.length = if (b : Int) ≠ (a : Int) ∧ ub = 4 then 1 else 0 := fun h1 h2 h3 => by
    rw [← hKI, ← goes_all (by rw [hfa]; exact decide_eq_true h2) h1, h3, show (false || !true) = false from rfl, goL_one]
    have e : (b < m ∧ otherB (a : Int) U b = true) ↔ ((b : Int) ≠ (a : Int) ∧ ub = 4) := by
      unfold otherB
      rw [hub, Bool.and_eq_true, decide_eq_true_eq, decide_eq_true_eq]
      exact ⟨fun q => ⟨q.2.1, by simpa using q.2.2⟩, fun q => ⟨hbm, q.1, by rw [q.2]⟩⟩
    by_cases q : (b : Int) ≠ (a : Int) ∧ ub = 4
    · rw [if_pos q, if_pos (e.2 q)]; rfl
    · rw [if_neg q, if_neg (fun r => q (e.1 r))]; rfl
  have hNl : N ≤ 200 := by rw [← hN]; have := pickN_len (otherB a U) m; omega
  obtain ⟨gb, hgb⟩ : ∃ q, groupB t = q := ⟨_, rfl⟩
  rw [hgb] at F2 F3
  have hgb' : (bits .and .u64 (t / 1099511627776) 1 == 1) = gb := by
    rw [and1 _ (by omega) (by omega), ← hgb]
    rfl
  have HGB := Lib.hid hgb'
  have HN := Lib.hid hN
  have HF0 := Lib.hid F0
  have HF1 := Lib.hid F1
  have HF2 := Lib.hid F2
  have HF3 := Lib.hid F3
  obtain ⟨kl, hkl⟩ : ∃ q, KI.length = q := ⟨_, rfl⟩
  obtain ⟨ul, hul⟩ : ∃ q, UI.length = q := ⟨_, rfl⟩
  rw [hkl] at HF0 HF2 HF3
  rw [hul] at HF0 HF1
  rw [hKI, hUI, hkl, hul]
  have HUA := Lib.hid hua
  have HUB := Lib.hid hub
  clear hKI hUI hN hua hub hfa F0 F1 F2 F3 hgb hgb' hkl hul
  go_wp2
  go_loopw [13, 14] (fun v i wr => ∃ j : Nat, j ≤ m ∧ i = .int .i64 j ∧ v = .int .i64 ((pickN (otherB a U) j).length : Nat) ∧ Hs w [(X, 27, [.int .u64 t, .int .u64 f, .int .u16 k, .slice A n c])] wr) (fun _ i _ => m - (intOf i).toNat)
  case atStart => exact ⟨0, Nat.zero_le _, rfl, rfl, S4⟩
  case round =>
    clear S4
    obtain ⟨j, hj, rfl, rfl, S⟩ := hrel
    by_cases hjm : j < m
    · have hji : (j : Int) < (m : Int) := by omega
      have hjz : ¬ (m : Int) ≤ (j : Int) := by omega
      obtain ⟨u, hu⟩ : ∃ u, U[j]? = some u := ⟨_, List.getElem?_eq_getElem (by rw [hU.out]; exact hjm)⟩
      obtain ⟨ad, rfl, -, hc1, -, -⟩ := (hI.out.below S.old) j u hu
      by_cases q1 : (j : Int) = (a : Int)
      · have b1 : ((j : Int) != (a : Int)) = false := by simp; omega
        have HP := Lib.hid (show pickN (otherB a U) (j + 1) = pickN (otherB a U) j from pickN_no (by unfold otherB; simp; omega))
        clear q1 hu
        go_wp2
        go_roundw
        case rel => exact ⟨j + 1, hjm, by go_num, by rw [HP.out], S⟩
        case measure => simp [intOf]; omega
      · have b1 : ((j : Int) != (a : Int)) = true := by simp; omega
        by_cases q2 : u = 4
        · have b2 : (u == 4) = true := by simp [q2]
          have HP := Lib.hid (show pickN (otherB a U) (j + 1) = pickN (otherB a U) j ++ [j] from pickN_yes (by unfold otherB; rw [hu]; simp [q2]; omega))
          have hlen := pickN_len (otherB a U) j
          obtain ⟨nn, hnn⟩ : ∃ nn, (pickN (otherB a U) j).length = nn := ⟨_, rfl⟩
          have HNN := Lib.hid hnn
          rw [hnn] at hlen ⊢
          clear q1 q2 hu hnn
          go_wp2
          go_roundw
          case rel => exact ⟨j + 1, hjm, by go_num, by rw [HP.out, List.length_append, HNN.out]; go_num, S⟩
          case measure => simp [intOf]; omega
        · have b2 : (u == 4) = false := by simp [q2]
          have HP := Lib.hid (show pickN (otherB a U) (j + 1) = pickN (otherB a U) j from pickN_no (by unfold otherB; rw [hu]; simp [q2]))
          clear q1 q2 hu
          go_wp2
          go_roundw
          case rel => exact ⟨j + 1, hjm, by go_num, by rw [HP.out], S⟩
          case measure => simp [intOf]; omega
    · have hjz : ¬ (j : Int) < (m : Int) := by omega
      obtain rfl : m = j := by omega
      rw [HN.out]
      have hbk := S.bk 0 rfl
      by_cases q1 : cl = 2
      · have b1 : (cl != 2) = false := by simp [q1]
        go_upto_region 11 with fail
        go_wp2_with (with_reducible refine wpList_load_rowG (by kernel_rfl) 27 (.tmp 4) rfl X (by kernel_rfl) _ _ (0, 0) _ hbk Tryd.underlying27 rfl (by kernel_rfl) ?_)
        (with_reducible refine (HC _ S.old).out.mono ?_); rintro e w6 ⟨rfl, b6⟩
        have S6 := S.below b6
        obtain ⟨ad, rfl, -, hc1, -, -⟩ := (hI.out.below S6.old) a ua HUA.out
        have hai : (a : Int) < (m : Int) := by omega
        have haz : ¬ (m : Int) ≤ (a : Int) := by omega
        by_cases q2 : ua = 4
        · have b2 : (ua != 4) = false := by simp [q2]
          obtain ⟨ad', e', -, hc2, -, -⟩ := (hI.out.below S6.old) b ub HUB.out
          cases e'
          have hbi : (b : Int) < (m : Int) := by omega
          have hbz : ¬ (m : Int) ≤ (b : Int) := by omega
          have f1 := HF1.out q1 q2
          have c0 := S6.cell 0 0 rfl rfl
          have hbit := HGB.out
          have F2 := HF2.out q1 q2
          have F3 := HF3.out q1 q2
          subst f1
          clear q1 q2 b6 hbk hj
          cases gb with
          | true =>
            have f2 := F2 rfl
            clear F2 F3
            subst f2
            go_wp2
            go_ret
            exact ⟨rfl, S6.old⟩
          | false =>
            have HF3' := Lib.hid (F3 rfl)
            clear F2 F3 HF0 HF1 HF2 HF3
            go_upto_region 15 with fail
            have f3 := HF3'.out
            clear HF3'
            by_cases r1 : (b : Int) = (a : Int)
            · have g1 : ((a : Int) != (b : Int)) = false := by simp; omega
              rw [if_neg (fun q => q.1 r1)] at f3
              have e0 : ((kl : Int) == 1) = false := by rw [f3]; decide
              have e1 : decide ((kl : Int) ≤ 1) = true := by rw [f3]; decide
              clear r1 f3
              go_wp2
              go_ret
              exact ⟨rfl, S6.old⟩
            · have g1 : ((a : Int) != (b : Int)) = true := by simp; omega
              by_cases r2 : ub = 4
              · have g2 : (ub == 4) = true := by simp [r2]
                rw [if_pos ⟨r1, r2⟩] at f3
                have e0 : ((kl : Int) == 1) = true := by rw [f3]; decide
                have e1 : decide ((kl : Int) ≤ 1) = true := by rw [f3]; decide
                clear r1 r2 f3
                go_wp2
                go_ret
                exact ⟨rfl, S6.old⟩
              · have g2 : (ub == 4) = false := by simp [r2]
                rw [if_neg (fun q => r2 q.2)] at f3
                have e0 : ((kl : Int) == 1) = false := by rw [f3]; decide
                have e1 : decide ((kl : Int) ≤ 1) = true := by rw [f3]; decide
                clear r1 r2 f3
                go_wp2
                go_ret
                exact ⟨rfl, S6.old⟩
        · have b2 : (ua != 4) = true := by simp [q2]
          obtain ⟨z1, z2⟩ := HF0.out (.inr q2)
          subst z1 z2
          clear q1 q2
          go_wp2
          go_ret
          exact ⟨rfl, S6.old⟩
      · have b1 : (cl != 2) = true := by simp [q1]
        obtain ⟨z1, z2⟩ := HF0.out (.inl q1)
        subst z1 z2
        clear q1
        go_upto_region 11 with fail
        go_wp2_with (with_reducible refine wpList_load_rowG (by kernel_rfl) 27 (.tmp 4) rfl X (by kernel_rfl) _ _ (0, 0) _ hbk Tryd.underlying27 rfl (by kernel_rfl) ?_)
        (with_reducible refine (HC _ S.old).out.mono ?_); rintro e w6 ⟨rfl, b6⟩
        have S6 := S.below b6
        go_wp2
        go_ret
        exact ⟨rfl, S6.old⟩
theorem RelayKnown_walk (t f k : Int) (A : Option Addr) (n c : Nat) (z : List Int) (inn : Int) (A2 : Option Addr) (m c2 : Nat) (z2 : List Int) (wh : Int) (w : World) (hd : Hd w) (hfr : FrIn w t f k A n c z) (hi : (Lit.int .u8 inn).wf = true) (hz2 : IsRow .i64 w A2 m c2 z2) (hwh : (Lit.int .u8 wh).wf = true) :
    Calls Tryd.prog 5 #[.agg #[.int .u64 t, .int .u64 f, .int .u16 k, .slice A n c], .int .u8 inn, .slice A2 m c2, .int .u8 wh] w fun e w' => e = .returned (.bool true) ∧ Below w.heap.size w w' := by
  obtain ⟨h0, h3, h1, h4, h2, h5, hz⟩ := hfr
  obtain ⟨l, hl, hr, hc, hm2⟩ := bytes_in hz
  obtain ⟨U, hU0, hmm, hI0⟩ := ints64_in hz2
  have hU : Hid (U.length = m) := Lib.hid hU0
  have hI := Lib.hid hI0
  have hnc := Lib.hid (none_cap hz)
  have h1' : t ≤ 18446744073709551615 := by omega
  have hf' : 0 ≤ f ∧ f ≤ 18446744073709551615 := by omega
  have hi' := bounds_u8 hi
  have hwh' := bounds_u8 hwh
  obtain ⟨x, rfl⟩ : ∃ x : Nat, inn = x := ⟨inn.toNat, by omega⟩
  obtain ⟨y, rfl⟩ : ∃ y : Nat, wh = y := ⟨wh.toNat, by omega⟩
  by_cases h : 2000 < n ∨ m = 0 ∨ 200 < m
  · exact known_long t f k x y A n c A2 m c2 hm2 hmm h w hd
  · exact known_short t f k x y A n c l A2 m c2 U hU hl hc hnc h0 h1' hf' h2 h5 (by omega) (by omega) (by omega) (by omega) (by omega) w hd (Lib.hid hr) hI

end Go.Proofs.YtbjcjeadnfckgaaDoor
