/- The law RelayPlays, walked: it answers true, whatever the frame, the ports and their states. -/
import Derived.Test.YtbjcjeadnfckgaaDoorRelayAwake
import Derived.Test.YtbjcjeadnfckgaaDoorExecLoad
import Derived.Test.YtbjcjeadnfckgaaDoorWireArg
import Derived.Deep.DeepCutAuto
import Derived.LoopTactic
import Derived.Deep.QuietTactic
import Derived.Deep.RegionHeld3
namespace Go.Proofs.YtbjcjeadnfckgaaDoor
set_option maxRecDepth 100000
open Go.ChangeShapes Go.WideShapes Go.ChangeAt Go.RowKit
set_option linter.unusedVariables false
set_option linter.unusedSimpArgs false

theorem plays_long (t f k inn wh : Int) (kn : Bool) (A : Option Addr) (n c : Nat) (A2 : Option Addr) (m c2 : Nat) (hn : n ≤ 9223372036854775807) (hm : m ≤ 9223372036854775807) (h : 2000 < n ∨ 2000 < m) (w : World) (hd : Hd w) :
    Calls Tryd.prog 3 #[.agg #[.int .u64 t, .int .u64 f, .int .u16 k, .slice A n c], .int .i64 inn, .slice A2 m c2, .int .i64 wh, .bool kn] w fun e w' => e = .returned (.bool true) ∧ Below w.heap.size w w' := by
  obtain ⟨wb, hwb, S⟩ := hs_one w 27 [.int .u64 t, .int .u64 f, .int .u16 k, .slice A n c]
  have HAW := fun W (h : Below w.heap.size w W) => Lib.hid (awake18_is W (hd.below h (Nat.le_refl _)))
  go_enter Tryd.func3, Tryd.ntmps3
  go_upto_region 1 with fail
  clear hwb
  obtain ⟨X, hX⟩ : ∃ X, w.heap.size = X := ⟨_, rfl⟩
  have HX := Lib.hid hX
  rw [hX] at S
  rw [show (Value.pointer (some ⟨w.heap.size, 0, none⟩)) = Value.pointer (some ⟨X, 0, none⟩) by rw [hX]]
  clear hX
  go_wp2_with fail
  (with_reducible refine (HAW _ S.old).out.mono ?_); rintro e w1 ⟨rfl, b1⟩
  have S1 := S.below b1
  have c3 := S1.cell 0 3 rfl rfl
  clear S b1
  by_cases h6 : 2000 < n
  · have d3 : decide (2000 < (n : Int)) = true := by simp; omega
    clear h h6
    go_wp2_with fail
    (with_reducible refine (HAW _ S1.old).out.mono ?_); rintro e w2 ⟨rfl, b2⟩
    have S2 := S1.below b2
    go_wp2
    go_ret
    exact ⟨rfl, S2.old⟩
  · have d3 : decide (2000 < (n : Int)) = false := by simp; omega
    have d4 : decide (2000 < (m : Int)) = true := by simp; omega
    clear h h6
    go_wp2_with fail
    (with_reducible refine (HAW _ S1.old).out.mono ?_); rintro e w2 ⟨rfl, b2⟩
    have S2 := S1.below b2
    go_wp2
    go_ret
    exact ⟨rfl, S2.old⟩

set_option maxRecDepth 100000 in
set_option maxHeartbeats 4000000 in
theorem plays_short (t f k inn wh : Int) (kn : Bool) (A : Option Addr) (n c : Nat) (l : List UInt8) (A2 : Option Addr) (m c2 : Nat) (U : List Int) (hU : Hid (U.length = m)) (hl : Hid (l.length = n)) (hc : n ≤ c) (hnc : Hid (A = none → c = 0)) (h0 : 0 ≤ t) (h1 : t ≤ 18446744073709551615) (hf : 0 ≤ f ∧ f ≤ 18446744073709551615) (h2 : 0 ≤ k) (h5 : k < 65536) (hi : -9223372036854775808 ≤ inn ∧ inn ≤ 9223372036854775807) (hn : n ≤ 2000) (hm : m ≤ 2000) (w : World) (hd : Hd w) (hr : Hid (RB w A 0 w.heap.size l)) (hI : Hid (IntsIn w A2 w.heap.size U)) :
    Calls Tryd.prog 3 #[.agg #[.int .u64 t, .int .u64 f, .int .u16 k, .slice A n c], .int .i64 inn, .slice A2 m c2, .int .i64 wh, .bool kn] w fun e w' => e = .returned (.bool true) ∧ Below w.heap.size w w' := by
  have HP := fun W (h : Below w.heap.size w W) => Lib.hid (pports_is t f k inn wh kn A n c l A2 m c2 U hU (by omega) hl hc hnc (by omega) h0 h1 h2 h5 hi W (hd.below h (Nat.le_refl _)) (Lib.hid ((hr.out.below h (Nat.le_refl _)).wide (Nat.le_refl _) h.size)) (Lib.hid (hI.out.wideI h)))
  have HR := fun W (h : Below w.heap.size w W) => Lib.hid (rports_is t f k inn wh kn A n c l A2 m c2 U hU (by omega) hl (by omega) h0 h1 h2 h5 hi W (Lib.hid ((hr.out.below h (Nat.le_refl _)).wide (Nat.le_refl _) h.size)) (Lib.hid (hI.out.wideI h)))
  have HC := fun W (h : Below w.heap.size w W) => Lib.hid (rpclass_is t f k A n c l hl hc hnc (by omega) h0 h1 h2 h5 W (hd.below h (Nat.le_refl _)) ((hr.out.below h (Nat.le_refl _)).wide (Nat.le_refl _) h.size))
  have HCR := fun W (h : Below w.heap.size w W) => Lib.hid (rclass_is t f k A n c l hl (by omega) h0 h1 h2 h5 W ((hr.out.below h (Nat.le_refl _)).wide (Nat.le_refl _) h.size))
  have HL := fun W (h : Below w.heap.size w W) => Lib.hid (rplearns_is t f k inn A n c l hl hc hnc (by omega) h0 h1 hf h2 h5 W (hd.below h (Nat.le_refl _)) ((hr.out.below h (Nat.le_refl _)).wide (Nat.le_refl _) h.size))
  have HLR := fun W (h : Below w.heap.size w W) => Lib.hid (rlearns_is t f k inn A n c l hl (by omega) h0 h1 hf h2 h5 W ((hr.out.below h (Nat.le_refl _)).wide (Nat.le_refl _) h.size))
  obtain ⟨I, hI0⟩ : ∃ I, pickN (throughB (classR t k l) t inn U wh kn) m = I := ⟨_, rfl⟩
  obtain ⟨cl, hcl⟩ : ∃ q, classR t k l = q := ⟨_, rfl⟩
  obtain ⟨lb, hlb⟩ : ∃ q, learnsR t f k inn l = q := ⟨_, rfl⟩
  rw [hI0] at HP HR
  rw [hcl] at HC HCR
  rw [hlb] at HL HLR
  have hIl : I.length ≤ 2000 := by rw [← hI0]; have := pickN_len (throughB (classR t k l) t inn U wh kn) m; omega
  obtain ⟨z, hz⟩ : ∃ z, I.length = z := ⟨_, rfl⟩
  have HZ := Lib.hid hz
  rw [hz] at hIl
  clear hI0 hcl hlb hz
  have d3 : decide (2000 < (n : Int)) = false := by simp; omega
  have d4 : decide (2000 < (m : Int)) = false := by simp; omega
  obtain ⟨wb, hwb, S⟩ := hs_one w 27 [.int .u64 t, .int .u64 f, .int .u16 k, .slice A n c]
  have HAW := fun W (h : Below w.heap.size w W) => Lib.hid (awake18_is W (hd.below h (Nat.le_refl _)))
  go_enter Tryd.func3, Tryd.ntmps3
  go_upto_region 1 with fail
  clear hwb
  obtain ⟨X, hX⟩ : ∃ X, w.heap.size = X := ⟨_, rfl⟩
  have HX := Lib.hid hX
  rw [hX] at S
  rw [show (Value.pointer (some ⟨w.heap.size, 0, none⟩)) = Value.pointer (some ⟨X, 0, none⟩) by rw [hX]]
  clear hX
  go_wp2_with fail
  (with_reducible refine (HAW _ S.old).out.mono ?_); rintro e w1 ⟨rfl, b1⟩
  have S1 := S.below b1
  have c3 := S1.cell 0 3 rfl rfl
  clear S b1
  go_upto_region 3 with fail
  clear c3 HAW
  refine wp_region_held_drew (S := fun W => Hs w [(X, 27, [.int .u64 t, .int .u64 f, .int .u16 k, .slice A n c])] W) (by kernel_rfl) S1.drew (fun hHeld => ?_)
  refine wpAnyH_take (i := 0) (v := _) rfl (by kernel_rfl) (by kernel_rfl) (by kernel_rfl) (fun _ _ _ h => h) (Or.inl ⟨by kernel_rfl, fun w' hSw => exec_load_row 27 _ rfl X (by kernel_rfl) _ _ (0, 0) _ (hSw.bk 0 rfl) Tryd.underlying27 rfl (by kernel_rfl)⟩) (by assumption) ?_
  try simp only [Act.put, List.getElem_toArray, List.getElem_cons_succ, List.getElem_cons_zero, List.setIfInBounds_toArray, List.set_cons_succ, List.set_cons_zero]
  refine wpAnyH_take (i := 1) (v := ?_) rfl (by kernel_rfl) (by kernel_rfl) (by kernel_rfl) (fun _ _ _ h => h) (Or.inl ⟨by kernel_rfl, ?_⟩) (by assumption) ?_
  rotate_left
  · intro w' hSw; (try dsimp only at hSw); go_simp; with_reducible rfl
  try simp only [Act.put, List.getElem_toArray, List.getElem_cons_succ, List.getElem_cons_zero, List.setIfInBounds_toArray, List.set_cons_succ, List.set_cons_zero]
  refine wpAnyH_take (i := 2) (v := ?_) rfl (by kernel_rfl) (by kernel_rfl) (by kernel_rfl) (fun _ _ _ h => h) (Or.inl ⟨by kernel_rfl, ?_⟩) (by assumption) ?_
  rotate_left
  · intro w' hSw; (try dsimp only at hSw); go_simp; with_reducible rfl
  try simp only [Act.put, List.getElem_toArray, List.getElem_cons_succ, List.getElem_cons_zero, List.setIfInBounds_toArray, List.set_cons_succ, List.set_cons_zero]
  refine wpAnyH_take (i := 3) (v := ?_) rfl (by kernel_rfl) (by kernel_rfl) (by kernel_rfl) (fun _ _ _ h => h) (Or.inl ⟨by kernel_rfl, ?_⟩) (by assumption) ?_
  rotate_left
  · intro w' hSw; (try dsimp only at hSw); go_simp; with_reducible rfl
  try simp only [Act.put, List.getElem_toArray, List.getElem_cons_succ, List.getElem_cons_zero, List.setIfInBounds_toArray, List.set_cons_succ, List.set_cons_zero]
  refine wpAnyH_take (i := 4) (v := ?_) rfl (by kernel_rfl) (by kernel_rfl) (by kernel_rfl) (fun _ _ _ h => h) (Or.inl ⟨by kernel_rfl, ?_⟩) (by assumption) ?_
  rotate_left
  · intro w' hSw; (try dsimp only at hSw); go_simp; with_reducible rfl
  try simp only [Act.put, List.getElem_toArray, List.getElem_cons_succ, List.getElem_cons_zero, List.setIfInBounds_toArray, List.set_cons_succ, List.set_cons_zero]
  refine wpAnyH_take (i := 6) (v := _) rfl (by kernel_rfl) (by kernel_rfl) (by kernel_rfl) (fun _ _ _ h => h) (Or.inl ⟨by kernel_rfl, fun w' hSw => exec_load_row 27 _ rfl X (by kernel_rfl) _ _ (0, 0) _ (hSw.bk 0 rfl) Tryd.underlying27 rfl (by kernel_rfl)⟩) (by assumption) ?_
  try simp only [Act.put, List.getElem_toArray, List.getElem_cons_succ, List.getElem_cons_zero, List.setIfInBounds_toArray, List.set_cons_succ, List.set_cons_zero]
  refine wpAnyH_take (i := 7) (v := ?_) rfl (by kernel_rfl) (by kernel_rfl) (by kernel_rfl) (fun _ _ _ h => h) (Or.inl ⟨by kernel_rfl, ?_⟩) (by assumption) ?_
  rotate_left
  · intro w' hSw; (try dsimp only at hSw); go_simp; with_reducible rfl
  try simp only [Act.put, List.getElem_toArray, List.getElem_cons_succ, List.getElem_cons_zero, List.setIfInBounds_toArray, List.set_cons_succ, List.set_cons_zero]
  refine wpAnyH_take (i := 8) (v := ?_) rfl (by kernel_rfl) (by kernel_rfl) (by kernel_rfl) (fun _ _ _ h => h) (Or.inl ⟨by kernel_rfl, ?_⟩) (by assumption) ?_
  rotate_left
  · intro w' hSw; (try dsimp only at hSw); go_simp; with_reducible rfl
  try simp only [Act.put, List.getElem_toArray, List.getElem_cons_succ, List.getElem_cons_zero, List.setIfInBounds_toArray, List.set_cons_succ, List.set_cons_zero]
  refine wpAnyH_take (i := 9) (v := ?_) rfl (by kernel_rfl) (by kernel_rfl) (by kernel_rfl) (fun _ _ _ h => h) (Or.inl ⟨by kernel_rfl, ?_⟩) (by assumption) ?_
  rotate_left
  · intro w' hSw; (try dsimp only at hSw); go_simp; with_reducible rfl
  try simp only [Act.put, List.getElem_toArray, List.getElem_cons_succ, List.getElem_cons_zero, List.setIfInBounds_toArray, List.set_cons_succ, List.set_cons_zero]
  refine wpAnyH_take (i := 10) (v := ?_) rfl (by kernel_rfl) (by kernel_rfl) (by kernel_rfl) (fun _ _ _ h => h) (Or.inl ⟨by kernel_rfl, ?_⟩) (by assumption) ?_
  rotate_left
  · intro w' hSw; (try dsimp only at hSw); go_simp; with_reducible rfl
  try simp only [Act.put, List.getElem_toArray, List.getElem_cons_succ, List.getElem_cons_zero, List.setIfInBounds_toArray, List.set_cons_succ, List.set_cons_zero]
  refine wpAnyH_ready (rs := [5]) (by kernel_rfl) (by simp) ?_
  refine AllReadyH.cons rfl (fun K hK => ?_) AllReadyH.nil
  go_simp
  (with_reducible refine (HP _ S1.drew.old).out.mono ?_); rintro e w2 ⟨v1, rfl, R1, b2⟩
  have S2 := S1.drew.below b2
  refine hK.out _ _ (S2) (fun hHeld => ?_)
  clear hK K
  try simp only [Act.put, List.getElem_toArray, List.getElem_cons_succ, List.getElem_cons_zero, List.setIfInBounds_toArray, List.set_cons_succ, List.set_cons_zero]
  refine wpAnyH_ready (rs := [11]) (by kernel_rfl) (by simp) ?_
  refine AllReadyH.cons rfl (fun K hK => ?_) AllReadyH.nil
  go_simp
  (with_reducible refine (HR _ S2.old).out.mono ?_); rintro e w3 ⟨v2, rfl, R2, b3⟩
  have S3 := S2.below b3
  have R1' := R1.below b3
  refine hK.out _ _ (S3) (fun hHeld => ?_)
  clear hK K
  try simp only [Act.put, List.getElem_toArray, List.getElem_cons_succ, List.getElem_cons_zero, List.setIfInBounds_toArray, List.set_cons_succ, List.set_cons_zero]
  refine wpAnyH_take (i := 12) (v := ?_) rfl (by kernel_rfl) (by kernel_rfl) (by kernel_rfl) (fun _ _ _ h => h) (Or.inl ⟨by kernel_rfl, ?_⟩) (by assumption) ?_
  rotate_left
  · intro w' hSw; (try dsimp only at hSw); go_simp; with_reducible rfl
  try simp only [Act.put, List.getElem_toArray, List.getElem_cons_succ, List.getElem_cons_zero, List.setIfInBounds_toArray, List.set_cons_succ, List.set_cons_zero]
  refine wpAnyH_take (i := 13) (v := ?_) rfl (by kernel_rfl) (by kernel_rfl) (by kernel_rfl) (fun _ _ _ h => h) (Or.inl ⟨by kernel_rfl, ?_⟩) (by assumption) ?_
  rotate_left
  · intro w' hSw; (try dsimp only at hSw); go_simp; with_reducible rfl
  try simp only [Act.put, List.getElem_toArray, List.getElem_cons_succ, List.getElem_cons_zero, List.setIfInBounds_toArray, List.set_cons_succ, List.set_cons_zero]
  refine wpAnyH_done (by kernel_rfl) ?_ _
  obtain ⟨D1, k1, rfl⟩ := OwnL.shape R1'
  obtain ⟨D2, k2, rfl⟩ := OwnL.shape R2
  have hzz := HZ.out
  rw [hzz]
  have S1o := S1.drew.old.size
  have S2o := S2.old.size
  clear S1 S2 R1 b2 b3 hHeld HP HR HX hzz
  go_upto_region 4 with fail
  refine wp_region_held_drew (S := fun W => Hs w [(X, 27, [.int .u64 t, .int .u64 f, .int .u16 k, .slice A n c])] W) (by kernel_rfl) S3.drew (fun hHeld => ?_)
  refine wpAnyH_take (i := 0) (v := _) rfl (by kernel_rfl) (by kernel_rfl) (by kernel_rfl) (fun _ _ _ h => h) (Or.inl ⟨by kernel_rfl, fun w' hSw => exec_load_row 27 _ rfl X (by kernel_rfl) _ _ (0, 0) _ (hSw.bk 0 rfl) Tryd.underlying27 rfl (by kernel_rfl)⟩) (by assumption) ?_
  try simp only [Act.put, List.getElem_toArray, List.getElem_cons_succ, List.getElem_cons_zero, List.setIfInBounds_toArray, List.set_cons_succ, List.set_cons_zero]
  refine wpAnyH_take (i := 2) (v := _) rfl (by kernel_rfl) (by kernel_rfl) (by kernel_rfl) (fun _ _ _ h => h) (Or.inl ⟨by kernel_rfl, fun w' hSw => exec_load_row 27 _ rfl X (by kernel_rfl) _ _ (0, 0) _ (hSw.bk 0 rfl) Tryd.underlying27 rfl (by kernel_rfl)⟩) (by assumption) ?_
  try simp only [Act.put, List.getElem_toArray, List.getElem_cons_succ, List.getElem_cons_zero, List.setIfInBounds_toArray, List.set_cons_succ, List.set_cons_zero]
  refine wpAnyH_ready (rs := [1]) (by kernel_rfl) (by simp) ?_
  refine AllReadyH.cons rfl (fun K hK => ?_) AllReadyH.nil
  go_simp
  (with_reducible refine (HC _ S3.drew.old).out.mono ?_); rintro e w4 ⟨rfl, b4⟩
  have S4 := S3.drew.below b4
  have R4 := R1'.drew.below b4
  have Q4 := R2.drew.below b4
  refine hK.out _ _ (S4) (fun hHeld => ?_)
  clear hK K
  try simp only [Act.put, List.getElem_toArray, List.getElem_cons_succ, List.getElem_cons_zero, List.setIfInBounds_toArray, List.set_cons_succ, List.set_cons_zero]
  refine wpAnyH_ready (rs := [3]) (by kernel_rfl) (by simp) ?_
  refine AllReadyH.cons rfl (fun K hK => ?_) AllReadyH.nil
  go_simp
  (with_reducible refine (HCR _ S4.old).out.mono ?_); rintro e w5 ⟨rfl, b5⟩
  have S5 := S4.below b5
  have R5 := R4.below b5
  have Q5 := Q4.below b5
  refine hK.out _ _ (S5) (fun hHeld => ?_)
  clear hK K
  try simp only [Act.put, List.getElem_toArray, List.getElem_cons_succ, List.getElem_cons_zero, List.setIfInBounds_toArray, List.set_cons_succ, List.set_cons_zero]
  refine wpAnyH_take (i := 4) (v := ?_) rfl (by kernel_rfl) (by kernel_rfl) (by kernel_rfl) (fun _ _ _ h => h) (Or.inl ⟨by kernel_rfl, ?_⟩) (by assumption) ?_
  rotate_left
  · intro w' hSw; (try dsimp only at hSw); go_simp; with_reducible rfl
  try simp only [Act.put, List.getElem_toArray, List.getElem_cons_succ, List.getElem_cons_zero, List.setIfInBounds_toArray, List.set_cons_succ, List.set_cons_zero]
  refine wpAnyH_take (i := 5) (v := ?_) rfl (by kernel_rfl) (by kernel_rfl) (by kernel_rfl) (fun _ _ _ h => h) (Or.inl ⟨by kernel_rfl, ?_⟩) (by assumption) ?_
  rotate_left
  · intro w' hSw; (try dsimp only at hSw); go_simp; with_reducible rfl
  try simp only [Act.put, List.getElem_toArray, List.getElem_cons_succ, List.getElem_cons_zero, List.setIfInBounds_toArray, List.set_cons_succ, List.set_cons_zero]
  refine wpAnyH_take (i := 6) (v := ?_) rfl (by kernel_rfl) (by kernel_rfl) (by kernel_rfl) (fun _ _ _ h => h) (Or.inl ⟨by kernel_rfl, ?_⟩) (by assumption) ?_
  rotate_left
  · intro w' hSw; (try dsimp only at hSw); go_simp; with_reducible rfl
  try simp only [Act.put, List.getElem_toArray, List.getElem_cons_succ, List.getElem_cons_zero, List.setIfInBounds_toArray, List.set_cons_succ, List.set_cons_zero]
  refine wpAnyH_take (i := 7) (v := ?_) rfl (by kernel_rfl) (by kernel_rfl) (by kernel_rfl) (fun _ _ _ h => h) (Or.inl ⟨by kernel_rfl, ?_⟩) (by assumption) ?_
  rotate_left
  · intro w' hSw; (try dsimp only at hSw); go_simp; with_reducible rfl
  try simp only [Act.put, List.getElem_toArray, List.getElem_cons_succ, List.getElem_cons_zero, List.setIfInBounds_toArray, List.set_cons_succ, List.set_cons_zero]
  refine wpAnyH_take (i := 8) (v := ?_) rfl (by kernel_rfl) (by kernel_rfl) (by kernel_rfl) (fun _ _ _ h => h) (Or.inl ⟨by kernel_rfl, ?_⟩) (by assumption) ?_
  rotate_left
  · intro w' hSw; (try dsimp only at hSw); go_simp; with_reducible rfl
  try simp only [Act.put, List.getElem_toArray, List.getElem_cons_succ, List.getElem_cons_zero, List.setIfInBounds_toArray, List.set_cons_succ, List.set_cons_zero]
  refine wpAnyH_take (i := 9) (v := ?_) rfl (by kernel_rfl) (by kernel_rfl) (by kernel_rfl) (fun _ _ _ h => h) (Or.inl ⟨by kernel_rfl, ?_⟩) (by assumption) ?_
  rotate_left
  · intro w' hSw; (try dsimp only at hSw); go_simp; with_reducible rfl
  try simp only [Act.put, List.getElem_toArray, List.getElem_cons_succ, List.getElem_cons_zero, List.setIfInBounds_toArray, List.set_cons_succ, List.set_cons_zero]
  refine wpAnyH_take (i := 10) (v := ?_) rfl (by kernel_rfl) (by kernel_rfl) (by kernel_rfl) (fun _ _ _ h => h) (Or.inl ⟨by kernel_rfl, ?_⟩) (by assumption) ?_
  rotate_left
  · intro w' hSw; (try dsimp only at hSw); go_simp; with_reducible rfl
  try simp only [Act.put, List.getElem_toArray, List.getElem_cons_succ, List.getElem_cons_zero, List.setIfInBounds_toArray, List.set_cons_succ, List.set_cons_zero]
  refine wpAnyH_take (i := 11) (v := ?_) rfl (by kernel_rfl) (by kernel_rfl) (by kernel_rfl) (fun _ _ _ h => h) (Or.inl ⟨by kernel_rfl, ?_⟩) (by assumption) ?_
  rotate_left
  · intro w' hSw; (try dsimp only at hSw); go_simp; with_reducible rfl
  try simp only [Act.put, List.getElem_toArray, List.getElem_cons_succ, List.getElem_cons_zero, List.setIfInBounds_toArray, List.set_cons_succ, List.set_cons_zero]
  refine wpAnyH_take (i := 12) (v := ?_) rfl (by kernel_rfl) (by kernel_rfl) (by kernel_rfl) (fun _ _ _ h => h) (Or.inl ⟨by kernel_rfl, ?_⟩) (by assumption) ?_
  rotate_left
  · intro w' hSw; (try dsimp only at hSw); go_simp; with_reducible rfl
  try simp only [Act.put, List.getElem_toArray, List.getElem_cons_succ, List.getElem_cons_zero, List.setIfInBounds_toArray, List.set_cons_succ, List.set_cons_zero]
  refine wpAnyH_take (i := 13) (v := _) rfl (by kernel_rfl) (by kernel_rfl) (by kernel_rfl) (fun _ _ _ h => h) (Or.inl ⟨by kernel_rfl, fun w' hSw => exec_load_row 27 _ rfl X (by kernel_rfl) _ _ (0, 0) _ (hSw.bk 0 rfl) Tryd.underlying27 rfl (by kernel_rfl)⟩) (by assumption) ?_
  try simp only [Act.put, List.getElem_toArray, List.getElem_cons_succ, List.getElem_cons_zero, List.setIfInBounds_toArray, List.set_cons_succ, List.set_cons_zero]
  refine wpAnyH_take (i := 14) (v := ?_) rfl (by kernel_rfl) (by kernel_rfl) (by kernel_rfl) (fun _ _ _ h => h) (Or.inl ⟨by kernel_rfl, ?_⟩) (by assumption) ?_
  rotate_left
  · intro w' hSw; (try dsimp only at hSw); go_simp; with_reducible rfl
  try simp only [Act.put, List.getElem_toArray, List.getElem_cons_succ, List.getElem_cons_zero, List.setIfInBounds_toArray, List.set_cons_succ, List.set_cons_zero]
  refine wpAnyH_take (i := 16) (v := _) rfl (by kernel_rfl) (by kernel_rfl) (by kernel_rfl) (fun _ _ _ h => h) (Or.inl ⟨by kernel_rfl, fun w' hSw => exec_load_row 27 _ rfl X (by kernel_rfl) _ _ (0, 0) _ (hSw.bk 0 rfl) Tryd.underlying27 rfl (by kernel_rfl)⟩) (by assumption) ?_
  try simp only [Act.put, List.getElem_toArray, List.getElem_cons_succ, List.getElem_cons_zero, List.setIfInBounds_toArray, List.set_cons_succ, List.set_cons_zero]
  refine wpAnyH_take (i := 17) (v := ?_) rfl (by kernel_rfl) (by kernel_rfl) (by kernel_rfl) (fun _ _ _ h => h) (Or.inl ⟨by kernel_rfl, ?_⟩) (by assumption) ?_
  rotate_left
  · intro w' hSw; (try dsimp only at hSw); go_simp; with_reducible rfl
  try simp only [Act.put, List.getElem_toArray, List.getElem_cons_succ, List.getElem_cons_zero, List.setIfInBounds_toArray, List.set_cons_succ, List.set_cons_zero]
  refine wpAnyH_ready (rs := [15]) (by kernel_rfl) (by simp) ?_
  refine AllReadyH.cons rfl (fun K hK => ?_) AllReadyH.nil
  go_simp
  (with_reducible refine (HL _ S5.old).out.mono ?_); rintro e w6 ⟨rfl, b6⟩
  have S6 := S5.below b6
  have R6 := R5.below b6
  have Q6 := Q5.below b6
  refine hK.out _ _ (S6) (fun hHeld => ?_)
  clear hK K
  try simp only [Act.put, List.getElem_toArray, List.getElem_cons_succ, List.getElem_cons_zero, List.setIfInBounds_toArray, List.set_cons_succ, List.set_cons_zero]
  refine wpAnyH_ready (rs := [18]) (by kernel_rfl) (by simp) ?_
  refine AllReadyH.cons rfl (fun K hK => ?_) AllReadyH.nil
  go_simp
  (with_reducible refine (HLR _ S6.old).out.mono ?_); rintro e w7 ⟨rfl, b7⟩
  have S7 := S6.below b7
  have R7 := R6.below b7
  have Q7 := Q6.below b7
  refine hK.out _ _ (S7) (fun hHeld => ?_)
  clear hK K
  try simp only [Act.put, List.getElem_toArray, List.getElem_cons_succ, List.getElem_cons_zero, List.setIfInBounds_toArray, List.set_cons_succ, List.set_cons_zero]
  refine wpAnyH_take (i := 19) (v := ?_) rfl (by kernel_rfl) (by kernel_rfl) (by kernel_rfl) (fun _ _ _ h => h) (Or.inl ⟨by kernel_rfl, ?_⟩) (by assumption) ?_
  rotate_left
  · intro w' hSw; (try dsimp only at hSw); go_simp; with_reducible rfl
  try simp only [Act.put, List.getElem_toArray, List.getElem_cons_succ, List.getElem_cons_zero, List.setIfInBounds_toArray, List.set_cons_succ, List.set_cons_zero]
  refine wpAnyH_take (i := 20) (v := ?_) rfl (by kernel_rfl) (by kernel_rfl) (by kernel_rfl) (fun _ _ _ h => h) (Or.inl ⟨by kernel_rfl, ?_⟩) (by assumption) ?_
  rotate_left
  · intro w' hSw; (try dsimp only at hSw); go_simp; with_reducible rfl
  try simp only [Act.put, List.getElem_toArray, List.getElem_cons_succ, List.getElem_cons_zero, List.setIfInBounds_toArray, List.set_cons_succ, List.set_cons_zero]
  refine wpAnyH_done (by kernel_rfl) ?_ _
  clear hHeld S3 S4 S5 S6 R1' R2 R4 R5 R6 Q4 Q5 Q6 b4 b5 b6 b7 HC HCR HL HLR
  go_wp2
  go_loopw [13] (fun i wr => ∃ j : Nat, j ≤ z ∧ i = .int .i64 j ∧ Hs w [(X, 27, [.int .u64 t, .int .u64 f, .int .u16 k, .slice A n c])] wr ∧ IntsR wr w.heap.size (.slice D1 I.length k1) I ∧ IntsR wr w.heap.size (.slice D2 I.length k2) I) (fun i _ => z - (intOf i).toNat)
  case atStart => exact ⟨0, Nat.zero_le _, rfl, S7, R7.mono S1o, Q7.mono S2o⟩
  case round =>
    clear S7 R7 Q7
    obtain ⟨j, hj, rfl, S, R, Q⟩ := hrel
    by_cases hjm : j < z
    · have hji : (j : Int) < (z : Int) := by omega
      have hjz : ¬ (z : Int) ≤ (j : Int) := by omega
      obtain ⟨x, hx⟩ : ∃ x, I[j]? = some x := ⟨_, List.getElem?_eq_getElem (by rw [HZ.out]; exact hjm)⟩
      obtain ⟨g1, rfl, -, e1⟩ := R.cell hx
      obtain ⟨g2, rfl, -, e2⟩ := Q.cell hx
      clear hx
      go_wp2_with fail
      go_quiet (fail)
      go_wp2
      go_roundw
      case rel => exact ⟨j + 1, hjm, by go_num, S.below (below_drewN (Below.refl _ _) _), IntsR.below R (below_drewN (Below.refl _ _) _), IntsR.below Q (below_drewN (Below.refl _ _) _)⟩
      case measure => simp [intOf]; omega
    · have hjz : ¬ (j : Int) < (z : Int) := by omega
      go_wp2
      go_ret
      exact ⟨rfl, S.old⟩
theorem RelayPlays_walk (t f k : Int) (A : Option Addr) (n c : Nat) (z : List Int) (inn : Int) (A2 : Option Addr) (m c2 : Nat) (z2 : List Int) (wh : Int) (kn : Bool) (w : World) (hd : Hd w) (hfr : FrIn w t f k A n c z) (hi : (Lit.int .i64 inn).wf = true) (hz2 : IsRow .i64 w A2 m c2 z2) (hwh : (Lit.int .i64 wh).wf = true) :
    Calls Tryd.prog 3 #[.agg #[.int .u64 t, .int .u64 f, .int .u16 k, .slice A n c], .int .i64 inn, .slice A2 m c2, .int .i64 wh, .bool kn] w fun e w' => e = .returned (.bool true) ∧ Below w.heap.size w w' := by
  obtain ⟨h0, h3, h1, h4, h2, h5, hz⟩ := hfr
  obtain ⟨l, hl, hr, hc, hm2⟩ := bytes_in hz
  obtain ⟨U, hU0, hmm, hI0⟩ := ints64_in hz2
  have hU : Hid (U.length = m) := Lib.hid hU0
  have hI := Lib.hid hI0
  have hnc := Lib.hid (none_cap hz)
  have h1' : t ≤ 18446744073709551615 := by omega
  have hf' : 0 ≤ f ∧ f ≤ 18446744073709551615 := by omega
  have hi' := bounds_i64 hi
  by_cases h : 2000 < n ∨ 2000 < m
  · exact plays_long t f k inn wh kn A n c A2 m c2 hm2 hmm h w hd
  · exact plays_short t f k inn wh kn A n c l A2 m c2 U hU hl hc hnc h0 h1' hf' h2 h5 ⟨hi'.1, by omega⟩ (by omega) (by omega) w hd (Lib.hid hr) hI

end Go.Proofs.YtbjcjeadnfckgaaDoor
