/- The law RelayTurned, walked: it answers true, whatever the frame, the ports and their states. -/
import Derived.Test.YtbjcjeadnfckgaaDoorRelayAppend
import Derived.Test.YtbjcjeadnfckgaaDoorExecLoad
import Derived.Test.YtbjcjeadnfckgaaDoorWireArg
import Derived.Test.YtbjcjeadnfckgaaDoorLater
import Derived.Deep.DeepCutAuto
import Derived.LoopTactic
import Derived.Deep.QuietTactic
import Derived.Deep.RegionHeld3
namespace Go.Proofs.YtbjcjeadnfckgaaDoor
set_option maxRecDepth 100000
open Go.ChangeShapes Go.WideShapes Go.ChangeAt Go.RowKit
set_option linter.unusedVariables false
set_option linter.unusedSimpArgs false

theorem turned_long (t f k inn wh : Int) (kn : Bool) (x : Nat) (A : Option Addr) (n c : Nat) (A2 : Option Addr) (m c2 : Nat) (hn : n ≤ 9223372036854775807) (hm : m ≤ 9223372036854775807) (h : 2000 < n ∨ 2000 < m ∨ (m : Int) ≤ wh ∨ (m : Int) ≤ inn) (w : World) (hd : Hd w) :
    Calls Tryd.prog 6 #[.agg #[.int .u64 t, .int .u64 f, .int .u16 k, .slice A n c], .int .i64 inn, .slice A2 m c2, .int .i64 wh, .bool kn, .int .u8 x] w fun e w' => e = .returned (.bool true) ∧ Below w.heap.size w w' := by
  obtain ⟨wb, hwb, S⟩ := hs_one w 27 [.int .u64 t, .int .u64 f, .int .u16 k, .slice A n c]
  have HAW := fun W (h : Below w.heap.size w W) => Lib.hid (awake18_is W (hd.below h (Nat.le_refl _)))
  go_enter Tryd.func6, Tryd.ntmps6
  go_upto_region 1 with fail
  clear hwb
  obtain ⟨X, hX⟩ : ∃ X, w.heap.size = X := ⟨_, rfl⟩
  have HX := Lib.hid hX
  rw [hX] at S
  rw [show (Value.pointer (some ⟨w.heap.size, 0, none⟩)) = Value.pointer (some ⟨X, 0, none⟩) by rw [hX]]
  clear hX
  go_wp2_with fail
  (with_reducible refine (HAW _ S.old).out.mono ?_); rintro e w1 ⟨rfl, b1⟩
  have S1 := S.below b1
  have c3 := S1.cell 0 3 rfl rfl
  clear S b1
  by_cases h6 : 2000 < n
  · have d3 : decide (2000 < (n : Int)) = true := by simp; omega
    clear h h6
    go_wp2_with fail
    (with_reducible refine (HAW _ S1.old).out.mono ?_); rintro e w2 ⟨rfl, b2⟩
    have S2 := S1.below b2
    go_wp2
    go_ret
    exact ⟨rfl, S2.old⟩
  have d3 : decide (2000 < (n : Int)) = false := by simp; omega
  by_cases h7 : 2000 < m
  · have d4 : decide (2000 < (m : Int)) = true := by simp; omega
    clear h h6 h7
    go_wp2_with fail
    (with_reducible refine (HAW _ S1.old).out.mono ?_); rintro e w2 ⟨rfl, b2⟩
    have S2 := S1.below b2
    go_wp2
    go_ret
    exact ⟨rfl, S2.old⟩
  have d4 : decide (2000 < (m : Int)) = false := by simp; omega
  by_cases h8 : (m : Int) ≤ wh
  · have d5 : decide ((m : Int) ≤ wh) = true := by simp; omega
    clear h h6 h7 h8
    go_wp2_with fail
    (with_reducible refine (HAW _ S1.old).out.mono ?_); rintro e w2 ⟨rfl, b2⟩
    have S2 := S1.below b2
    go_wp2
    go_ret
    exact ⟨rfl, S2.old⟩
  · have d5 : decide ((m : Int) ≤ wh) = false := by simp; omega
    have d6 : decide ((m : Int) ≤ inn) = true := by simp; omega
    clear h h6 h7 h8
    go_wp2_with fail
    (with_reducible refine (HAW _ S1.old).out.mono ?_); rintro e w2 ⟨rfl, b2⟩
    have S2 := S1.below b2
    go_wp2
    go_ret
    exact ⟨rfl, S2.old⟩

set_option maxRecDepth 100000 in
set_option maxHeartbeats 4000000 in
theorem turned_short (t f k inn wh : Int) (kn : Bool) (x : Nat) (A : Option Addr) (n c : Nat) (l : List UInt8) (A2 : Option Addr) (m c2 : Nat) (U : List Int) (hU : Hid (U.length = m)) (hl : Hid (l.length = n)) (hc : n ≤ c) (hnc : Hid (A = none → c = 0)) (h0 : 0 ≤ t) (h1 : t ≤ 18446744073709551615) (hf : 0 ≤ f ∧ f ≤ 18446744073709551615) (h2 : 0 ≤ k) (h5 : k < 65536) (hi : -9223372036854775808 ≤ inn ∧ inn ≤ 9223372036854775807) (hx : x ≤ 255) (hn : n ≤ 2000) (hm : m ≤ 2000) (hnc2 : Hid (A2 = none → c2 = 0)) (hiw : wh < m) (hii : inn < m) (w : World) (hd : Hd w) (hr : Hid (RB w A 0 w.heap.size l)) (hI : Hid (IntsIn w A2 w.heap.size U)) :
    Calls Tryd.prog 6 #[.agg #[.int .u64 t, .int .u64 f, .int .u16 k, .slice A n c], .int .i64 inn, .slice A2 m c2, .int .i64 wh, .bool kn, .int .u8 x] w fun e w' => e = .returned (.bool true) ∧ Below w.heap.size w w' := by
  obtain ⟨r, hr4⟩ : ∃ r, x % 4 = r := ⟨_, rfl⟩
  have hr4' : r < 4 := by omega
  have wx : IntKind.i64.wrap (x : Int) = (x : Int) := IntWalk.i64_in _ (by omega)
  have rr : (x : Int).tmod 4 = (r : Int) := by rw [Int.tmod_eq_emod_of_nonneg (by omega), ← hr4]; simp
  have HP := fun W (h : Below w.heap.size w W) => Lib.hid (pports_is t f k inn wh kn A n c l A2 m c2 U hU (by omega) hl hc hnc (by omega) h0 h1 h2 h5 hi W (hd.below h (Nat.le_refl _)) (Lib.hid ((hr.out.below h (Nat.le_refl _)).wide (Nat.le_refl _) h.size)) (Lib.hid (hI.out.wideI h)))
  have HPB := fun W g cap (h : Below w.heap.size w W) (h9 : IntsIn W (some ⟨g, 0, none⟩) W.heap.size (U ++ [(r : Int)])) => Lib.hid (pports_is t f k inn wh kn A n c l (some ⟨g, 0, none⟩) (m + 1) cap (U ++ [(r : Int)]) (Lib.hid (by rw [List.length_append, hU.out]; rfl)) (by omega) hl hc hnc (by omega) h0 h1 h2 h5 hi W (hd.below h (Nat.le_refl _)) (Lib.hid ((hr.out.below h (Nat.le_refl _)).wide (Nat.le_refl _) h.size)) (Lib.hid h9))
  rw [through_more hU.out hii (by omega)] at HPB
  obtain ⟨I, hI0⟩ : ∃ I, pickN (throughB (classR t k l) t inn U wh kn) m = I := ⟨_, rfl⟩
  rw [hI0] at HP HPB
  have hIl : I.length ≤ 2000 := by rw [← hI0]; have := pickN_len (throughB (classR t k l) t inn U wh kn) m; omega
  obtain ⟨z, hz⟩ : ∃ z, I.length = z := ⟨_, rfl⟩
  have HZ := Lib.hid hz
  rw [hz] at hIl
  clear hI0 hz hr4
  have d3 : decide (2000 < (n : Int)) = false := by simp; omega
  have d4 : decide (2000 < (m : Int)) = false := by simp; omega
  have d5 : decide ((m : Int) ≤ wh) = false := by simp; omega
  have d6 : decide ((m : Int) ≤ inn) = false := by simp; omega
  obtain ⟨wb, hwb, S⟩ := hs_one w 27 [.int .u64 t, .int .u64 f, .int .u16 k, .slice A n c]
  have HAW := fun W (h : Below w.heap.size w W) => Lib.hid (awake18_is W (hd.below h (Nat.le_refl _)))
  go_enter Tryd.func6, Tryd.ntmps6
  go_upto_region 1 with fail
  clear hwb
  obtain ⟨X, hX⟩ : ∃ X, w.heap.size = X := ⟨_, rfl⟩
  have HX := Lib.hid hX
  rw [hX] at S
  rw [show (Value.pointer (some ⟨w.heap.size, 0, none⟩)) = Value.pointer (some ⟨X, 0, none⟩) by rw [hX]]
  clear hX
  go_wp2_with fail
  (with_reducible refine (HAW _ S.old).out.mono ?_); rintro e w1 ⟨rfl, b1⟩
  have S1 := S.below b1
  have c3 := S1.cell 0 3 rfl rfl
  clear S b1
  go_upto_region 3 with fail
  clear c3 HAW
  have hbk := S1.bk 0 rfl
  go_wp2_with (with_reducible refine wpList_load_rowG (by kernel_rfl) 27 (.tmp 6) rfl X (by kernel_rfl) _ _ (0, 0) _ hbk Tryd.underlying27 rfl (by kernel_rfl) ?_)
  (with_reducible refine (HP _ S1.old).out.mono ?_); rintro e w2 ⟨v1, rfl, R1, b2⟩
  have S2 := S1.below b2
  have S1o := S1.old.size
  obtain ⟨D1, k1, rfl⟩ := OwnL.shape R1
  have R2 := R1.mono S1o
  have hzz := HZ.out
  rw [hzz]
  clear S1 R1 b2 HP hzz hbk
  go_upto_region 4 with fail
  obtain ⟨n2, hn2⟩ : ∃ q, w2.heap.size = q := ⟨_, rfl⟩
  have hbu := (hI.out.below S2.old)
  have hub : ∀ u ∈ U ++ [(r : Int)], -9223372036854775808 ≤ u ∧ u ≤ 9223372036854775807 := by
    intro u hu
    rcases List.mem_append.1 hu with hu | hu
    · obtain ⟨j, hj⟩ := List.getElem?_of_mem hu
      obtain ⟨-, -, -, -, q⟩ := hbu j u hj
      exact q
    · obtain rfl := List.mem_singleton.1 hu
      omega
  have HUB := Lib.hid hub
  have hw2 : w.heap.size ≤ n2 := by rw [← hn2]; exact S2.old.size
  clear hbu hub
  go_cut [14] (fun u wx => ∃ D2 k2, u = .slice D2 z k2 ∧ Hs w [(X, 27, [.int .u64 t, .int .u64 f, .int .u16 k, .slice A n c])] wx ∧ IntsR wx w.heap.size (.slice D1 I.length k1) I ∧ IntsR wx w.heap.size (.slice D2 I.length k2) I)
  case first =>
    refine wp_region_held_drew (S := fun W => Below n2 w2 W) (by kernel_rfl) ((Below.refl _ _).drew) (fun hHeld => ?_)
    refine wpAnyH_take (i := 0) (v := _) rfl (by kernel_rfl) (by kernel_rfl) (by kernel_rfl) (fun _ _ _ h => h) (Or.inl ⟨by kernel_rfl, fun w' hSw => exec_load_row 27 _ rfl X (by kernel_rfl) _ _ (0, 0) _ ((S2.below (hn2 ▸ hSw)).bk 0 rfl) Tryd.underlying27 rfl (by kernel_rfl)⟩) (by assumption) ?_
    try simp only [Act.put, List.getElem_toArray, List.getElem_cons_succ, List.getElem_cons_zero, List.setIfInBounds_toArray, List.set_cons_succ, List.set_cons_zero]
    refine wpAnyH_take (i := 1) (v := ?_) rfl (by kernel_rfl) (by kernel_rfl) (by kernel_rfl) (fun _ _ _ h => h) (Or.inl ⟨by kernel_rfl, ?_⟩) (by assumption) ?_
    rotate_left
    · intro w' hSw; (try dsimp only at hSw); go_simp; with_reducible rfl
    try simp only [Act.put, List.getElem_toArray, List.getElem_cons_succ, List.getElem_cons_zero, List.setIfInBounds_toArray, List.set_cons_succ, List.set_cons_zero]
    refine wpAnyH_take (i := 3) (v := ?_) rfl (by kernel_rfl) (by kernel_rfl) (by kernel_rfl) (fun _ _ _ h => h) (Or.inl ⟨by kernel_rfl, ?_⟩) (by assumption) ?_
    rotate_left
    · intro w' hSw; (try dsimp only at hSw); go_simp; with_reducible rfl
    try simp only [Act.put, List.getElem_toArray, List.getElem_cons_succ, List.getElem_cons_zero, List.setIfInBounds_toArray, List.set_cons_succ, List.set_cons_zero]
    refine wpAnyH_take (i := 5) (v := ?_) rfl (by kernel_rfl) (by kernel_rfl) (by kernel_rfl) (fun _ _ _ h => h) (Or.inl ⟨by kernel_rfl, ?_⟩) (by assumption) ?_
    rotate_left
    · intro w' hSw; (try dsimp only at hSw); go_simp; with_reducible rfl
    try simp only [Act.put, List.getElem_toArray, List.getElem_cons_succ, List.getElem_cons_zero, List.setIfInBounds_toArray, List.set_cons_succ, List.set_cons_zero]
    refine wpAnyH_take (i := 6) (v := ?_) rfl (by kernel_rfl) (by kernel_rfl) (by kernel_rfl) (fun _ _ _ h => h) (Or.inl ⟨by kernel_rfl, ?_⟩) (by assumption) ?_
    rotate_left
    · intro w' hSw; (try dsimp only at hSw); go_simp; with_reducible rfl
    try simp only [Act.put, List.getElem_toArray, List.getElem_cons_succ, List.getElem_cons_zero, List.setIfInBounds_toArray, List.set_cons_succ, List.set_cons_zero]
    refine wpAnyH_take (i := 7) (v := ?_) rfl (by kernel_rfl) (by kernel_rfl) (by kernel_rfl) (fun _ _ _ h => h) (Or.inl ⟨by kernel_rfl, ?_⟩) (by assumption) ?_
    rotate_left
    · intro w' hSw; (try dsimp only at hSw); go_simp; with_reducible rfl
    try simp only [Act.put, List.getElem_toArray, List.getElem_cons_succ, List.getElem_cons_zero, List.setIfInBounds_toArray, List.set_cons_succ, List.set_cons_zero]
    refine wpAnyH_take (i := 10) (v := ?_) rfl (by kernel_rfl) (by kernel_rfl) (by kernel_rfl) (fun _ _ _ h => h) (Or.inl ⟨by kernel_rfl, ?_⟩) (by assumption) ?_
    rotate_left
    · intro w' hSw; (try dsimp only at hSw); go_simp; with_reducible rfl
    try simp only [Act.put, List.getElem_toArray, List.getElem_cons_succ, List.getElem_cons_zero, List.setIfInBounds_toArray, List.set_cons_succ, List.set_cons_zero]
    refine wpAnyH_take (i := 11) (v := ?_) rfl (by kernel_rfl) (by kernel_rfl) (by kernel_rfl) (fun _ _ _ h => h) (Or.inl ⟨by kernel_rfl, ?_⟩) (by assumption) ?_
    rotate_left
    · intro w' hSw; (try dsimp only at hSw); go_simp; with_reducible rfl
    try simp only [Act.put, List.getElem_toArray, List.getElem_cons_succ, List.getElem_cons_zero, List.setIfInBounds_toArray, List.set_cons_succ, List.set_cons_zero]
    obtain ⟨wd, hwd⟩ : ∃ v, w2.drew = v := ⟨_, rfl⟩
    rw [hwd] at hHeld ⊢
    have hswd : n2 ≤ wd.heap.size := by rw [← hwd, ← hn2]; exact Nat.le_refl _
    clear hwd
    refine wpAnyH_ready (rs := [2, 8]) (by kernel_rfl) (by simp) ?_
    refine AllReadyH.cons rfl (fun K hK => ?_) (AllReadyH.cons rfl (fun K hK => ?_) AllReadyH.nil)
    · go_simp
      obtain ⟨v1, hv1⟩ : ∃ q, wd.alloc (.cells #[] 3) = q := ⟨_, rfl⟩
      rw [hv1]
      have Bv1 : Below n2 w2 v1 := by rw [← hv1]; exact hHeld.alloc hswd _
      have hsv1 : n2 ≤ v1.heap.size := by rw [← hv1]; simp; omega
      obtain ⟨g, hv1g⟩ : ∃ q, wd.heap.size = q := ⟨_, rfl⟩
      have Ov1 := intsO_new hswd hv1
      rw [hv1g] at Ov1 ⊢
      have hg0 : n2 ≤ g := by omega
      refine hK.out _ _ Bv1 (fun hHeld => ?_)
      clear hK K
      try simp only [Act.put, List.getElem_toArray, List.getElem_cons_succ, List.getElem_cons_zero, List.setIfInBounds_toArray, List.set_cons_succ, List.set_cons_zero]
      refine wpAnyH_ready (rs := [4, 8]) (by kernel_rfl) (by simp) ?_
      refine AllReadyH.cons rfl (fun K hK => ?_) (AllReadyH.cons rfl (fun K hK => ?_) AllReadyH.nil)
      · refine step_append_all rfl (.tmp 50) (.tmp 51) (by kernel_rfl) n2 g (by kernel_rfl) Ov1 hg0 A2 m c2 (by kernel_rfl) U hU.out hnc2.out w.heap.size (hI.out.below (S2.old.trans ((hn2 ▸ hHeld).mono (hn2 ▸ hw2)))) (by omega) hsv1 ?_
        intro g4 cap4 v4 hg4 Ov4 gr
        have Bv4 : Below n2 w2 v4 := hHeld.grown gr hsv1 (fun q e => by cases e; omega)
        have hsv4 : n2 ≤ v4.heap.size := Nat.le_trans hsv1 gr.size
        refine hK.out _ _ Bv4 (fun hHeld => ?_)
        clear hK K
        try simp only [Act.put, List.getElem_toArray, List.getElem_cons_succ, List.getElem_cons_zero, List.setIfInBounds_toArray, List.set_cons_succ, List.set_cons_zero]
        refine wpAnyH_ready (rs := [8]) (by kernel_rfl) (by simp) ?_
        refine AllReadyH.cons rfl (fun K hK => ?_) AllReadyH.nil
        go_simp
        obtain ⟨v5, hv5⟩ : ∃ q, v4.alloc (.cells #[.int .i64 r] 3) = q := ⟨_, rfl⟩
        rw [hv5]
        have Bv5 : Below n2 w2 v5 := by rw [← hv5]; exact hHeld.alloc hsv4 _
        have hsv5 : n2 ≤ v5.heap.size := by rw [← hv5]; simp; omega
        have Ov5 : IntsO v5 n2 (.slice (some ⟨g4, 0, none⟩) m cap4) U := by rw [← hv5]; exact OwnL.below Ov4 (new_below v4 _)
        obtain ⟨N, hv5g⟩ : ∃ q, v4.heap.size = q := ⟨_, rfl⟩
        have kv5 : Bk v5 N 3 [.int .i64 (r : Int)] := by rw [← hv5, ← hv5g]; exact heap_alloc_new v4 _
        rw [hv5g]
        have hNg : N ≠ g4 := by have h9 : g4 < v4.heap.size := (World.ownsRow.lt Ov4 g4 rfl).2; omega
        refine hK.out _ _ Bv5 (fun hHeld => ?_)
        clear hK K
        try simp only [Act.put, List.getElem_toArray, List.getElem_cons_succ, List.getElem_cons_zero, List.setIfInBounds_toArray, List.set_cons_succ, List.set_cons_zero]
        refine wpAnyH_ready (rs := [9]) (by kernel_rfl) (by simp) ?_
        refine AllReadyH.cons rfl (fun K hK => ?_) AllReadyH.nil
        refine step_append_int rfl (.tmp 52) (.tmp 56) (by kernel_rfl) n2 g4 m cap4 U hU.out (by kernel_rfl) Ov5 N (r : Int) (by kernel_rfl) kv5 (by omega) hsv5 ?_
        intro g9 cap9 w9 hg9 O9 gr9
        have B9 : Below n2 w2 w9 := hHeld.grown gr9 hsv5 (fun q e => by cases e; omega)
        refine hK.out _ _ B9 (fun hHeld => ?_)
        clear hK K
        try simp only [Act.put, List.getElem_toArray, List.getElem_cons_succ, List.getElem_cons_zero, List.setIfInBounds_toArray, List.set_cons_succ, List.set_cons_zero]
        have S9 := S2.below (hn2 ▸ B9)
        have I9 := IntsO.into O9 HUB.out
        refine wpAnyH_ready (rs := [12]) (by kernel_rfl) (by simp) ?_
        refine AllReadyH.cons rfl (fun K hK => ?_) AllReadyH.nil
        go_simp
        (with_reducible refine (HPB w9 g9 cap9 S9.old I9).out.mono ?_); rintro e w10 ⟨v2, rfl, Q10, b10⟩
        have S10 := S9.below b10
        have B10 := B9.trans (b10.mono (Nat.le_trans (by omega) B9.size))
        have R10 := R2.below (hn2 ▸ B10)
        have Q10 := Q10.mono S9.old.size
        refine hK.out _ _ (B10) (fun hHeld => ?_)
        clear hK K
        try simp only [Act.put, List.getElem_toArray, List.getElem_cons_succ, List.getElem_cons_zero, List.setIfInBounds_toArray, List.set_cons_succ, List.set_cons_zero]
        refine wpAnyH_take (i := 13) (v := ?_) rfl (by kernel_rfl) (by kernel_rfl) (by kernel_rfl) (fun _ _ _ h => h) (Or.inl ⟨by kernel_rfl, ?_⟩) (by assumption) ?_
        rotate_left
        · intro w' hSw; (try dsimp only at hSw); go_simp; with_reducible rfl
        try simp only [Act.put, List.getElem_toArray, List.getElem_cons_succ, List.getElem_cons_zero, List.setIfInBounds_toArray, List.set_cons_succ, List.set_cons_zero]
        refine wpAnyH_done (by kernel_rfl) ?_ _
        obtain ⟨D2, k2, rfl⟩ := OwnL.shape Q10
        rw [HZ.out]
        go_wp2
        go_meet
        exact ⟨D2, k2, rfl, S10, R10, Q10⟩
      · go_simp
        obtain ⟨v2, hv2⟩ : ∃ q, v1.alloc (.cells #[.int .i64 r] 3) = q := ⟨_, rfl⟩
        rw [hv2]
        have Bv2 : Below n2 w2 v2 := by rw [← hv2]; exact hHeld.alloc hsv1 _
        have hsv2 : n2 ≤ v2.heap.size := by rw [← hv2]; simp; omega
        have Ov2 : IntsO v2 n2 (.slice (some ⟨g, 0, none⟩) 0 0) [] := by rw [← hv2]; exact OwnL.below Ov1 (new_below v1 _)
        obtain ⟨N, hv2g⟩ : ∃ q, v1.heap.size = q := ⟨_, rfl⟩
        have kv2 : Bk v2 N 3 [.int .i64 (r : Int)] := by rw [← hv2, ← hv2g]; exact heap_alloc_new v1 _
        rw [hv2g]
        have hNg : N ≠ g := by have h9 : g < v1.heap.size := (World.ownsRow.lt Ov1 g rfl).2; omega
        refine hK.out _ _ Bv2 (fun hHeld => ?_)
        clear hK K
        try simp only [Act.put, List.getElem_toArray, List.getElem_cons_succ, List.getElem_cons_zero, List.setIfInBounds_toArray, List.set_cons_succ, List.set_cons_zero]
        refine wpAnyH_ready (rs := [4]) (by kernel_rfl) (by simp) ?_
        refine AllReadyH.cons rfl (fun K hK => ?_) AllReadyH.nil
        refine step_append_all rfl (.tmp 50) (.tmp 51) (by kernel_rfl) n2 g (by kernel_rfl) Ov2 hg0 A2 m c2 (by kernel_rfl) U hU.out hnc2.out w.heap.size (hI.out.below (S2.old.trans ((hn2 ▸ hHeld).mono (hn2 ▸ hw2)))) (by omega) hsv2 ?_
        intro g4 cap4 v3 hg4 Ov3 gr
        have Bv3 : Below n2 w2 v3 := hHeld.grown gr hsv2 (fun q e => by cases e; omega)
        have hsv3 : n2 ≤ v3.heap.size := Nat.le_trans hsv2 gr.size
        have kv3 : Bk v3 N 3 [.int .i64 (r : Int)] := (gr.block N (Bk.lt kv2) (fun e => hNg (by cases e; rfl))).trans kv2
        refine hK.out _ _ Bv3 (fun hHeld => ?_)
        clear hK K
        try simp only [Act.put, List.getElem_toArray, List.getElem_cons_succ, List.getElem_cons_zero, List.setIfInBounds_toArray, List.set_cons_succ, List.set_cons_zero]
        refine wpAnyH_ready (rs := [9]) (by kernel_rfl) (by simp) ?_
        refine AllReadyH.cons rfl (fun K hK => ?_) AllReadyH.nil
        refine step_append_int rfl (.tmp 52) (.tmp 56) (by kernel_rfl) n2 g4 m cap4 U hU.out (by kernel_rfl) Ov3 N (r : Int) (by kernel_rfl) kv3 (by omega) hsv3 ?_
        intro g9 cap9 w9 hg9 O9 gr9
        have B9 : Below n2 w2 w9 := hHeld.grown gr9 hsv3 (fun q e => by cases e; omega)
        refine hK.out _ _ B9 (fun hHeld => ?_)
        clear hK K
        try simp only [Act.put, List.getElem_toArray, List.getElem_cons_succ, List.getElem_cons_zero, List.setIfInBounds_toArray, List.set_cons_succ, List.set_cons_zero]
        have S9 := S2.below (hn2 ▸ B9)
        have I9 := IntsO.into O9 HUB.out
        refine wpAnyH_ready (rs := [12]) (by kernel_rfl) (by simp) ?_
        refine AllReadyH.cons rfl (fun K hK => ?_) AllReadyH.nil
        go_simp
        (with_reducible refine (HPB w9 g9 cap9 S9.old I9).out.mono ?_); rintro e w10 ⟨v2, rfl, Q10, b10⟩
        have S10 := S9.below b10
        have B10 := B9.trans (b10.mono (Nat.le_trans (by omega) B9.size))
        have R10 := R2.below (hn2 ▸ B10)
        have Q10 := Q10.mono S9.old.size
        refine hK.out _ _ (B10) (fun hHeld => ?_)
        clear hK K
        try simp only [Act.put, List.getElem_toArray, List.getElem_cons_succ, List.getElem_cons_zero, List.setIfInBounds_toArray, List.set_cons_succ, List.set_cons_zero]
        refine wpAnyH_take (i := 13) (v := ?_) rfl (by kernel_rfl) (by kernel_rfl) (by kernel_rfl) (fun _ _ _ h => h) (Or.inl ⟨by kernel_rfl, ?_⟩) (by assumption) ?_
        rotate_left
        · intro w' hSw; (try dsimp only at hSw); go_simp; with_reducible rfl
        try simp only [Act.put, List.getElem_toArray, List.getElem_cons_succ, List.getElem_cons_zero, List.setIfInBounds_toArray, List.set_cons_succ, List.set_cons_zero]
        refine wpAnyH_done (by kernel_rfl) ?_ _
        obtain ⟨D2, k2, rfl⟩ := OwnL.shape Q10
        rw [HZ.out]
        go_wp2
        go_meet
        exact ⟨D2, k2, rfl, S10, R10, Q10⟩
    · go_simp
      obtain ⟨v6, hv6⟩ : ∃ q, wd.alloc (.cells #[.int .i64 r] 3) = q := ⟨_, rfl⟩
      rw [hv6]
      have Bv6 : Below n2 w2 v6 := by rw [← hv6]; exact hHeld.alloc hswd _
      have hsv6 : n2 ≤ v6.heap.size := by rw [← hv6]; simp; omega
      obtain ⟨N, hv6g⟩ : ∃ q, wd.heap.size = q := ⟨_, rfl⟩
      have kv6 : Bk v6 N 3 [.int .i64 (r : Int)] := by rw [← hv6, ← hv6g]; exact heap_alloc_new wd _
      rw [hv6g]
      refine hK.out _ _ Bv6 (fun hHeld => ?_)
      clear hK K
      try simp only [Act.put, List.getElem_toArray, List.getElem_cons_succ, List.getElem_cons_zero, List.setIfInBounds_toArray, List.set_cons_succ, List.set_cons_zero]
      refine wpAnyH_ready (rs := [2]) (by kernel_rfl) (by simp) ?_
      refine AllReadyH.cons rfl (fun K hK => ?_) AllReadyH.nil
      go_simp
      obtain ⟨v7, hv7⟩ : ∃ q, v6.alloc (.cells #[] 3) = q := ⟨_, rfl⟩
      rw [hv7]
      have Bv7 : Below n2 w2 v7 := by rw [← hv7]; exact hHeld.alloc hsv6 _
      have hsv7 : n2 ≤ v7.heap.size := by rw [← hv7]; simp; omega
      have kv7 : Bk v7 N 3 [.int .i64 (r : Int)] := by rw [← hv7]; exact Bk.below kv6 (new_below v6 _) (Bk.lt kv6)
      obtain ⟨g, hv7g⟩ : ∃ q, v6.heap.size = q := ⟨_, rfl⟩
      have Ov7 := intsO_new hsv6 hv7
      rw [hv7g] at Ov7 ⊢
      have hg0 : n2 ≤ g := by omega
      have hNg : N ≠ g := by have := Bk.lt kv6; omega
      refine hK.out _ _ Bv7 (fun hHeld => ?_)
      clear hK K
      try simp only [Act.put, List.getElem_toArray, List.getElem_cons_succ, List.getElem_cons_zero, List.setIfInBounds_toArray, List.set_cons_succ, List.set_cons_zero]
      refine wpAnyH_ready (rs := [4]) (by kernel_rfl) (by simp) ?_
      refine AllReadyH.cons rfl (fun K hK => ?_) AllReadyH.nil
      refine step_append_all rfl (.tmp 50) (.tmp 51) (by kernel_rfl) n2 g (by kernel_rfl) Ov7 hg0 A2 m c2 (by kernel_rfl) U hU.out hnc2.out w.heap.size (hI.out.below (S2.old.trans ((hn2 ▸ hHeld).mono (hn2 ▸ hw2)))) (by omega) hsv7 ?_
      intro g4 cap4 v8 hg4 Ov8 gr
      have Bv8 : Below n2 w2 v8 := hHeld.grown gr hsv7 (fun q e => by cases e; omega)
      have hsv8 : n2 ≤ v8.heap.size := Nat.le_trans hsv7 gr.size
      have kv8 : Bk v8 N 3 [.int .i64 (r : Int)] := (gr.block N (Bk.lt kv7) (fun e => hNg (by cases e; rfl))).trans kv7
      refine hK.out _ _ Bv8 (fun hHeld => ?_)
      clear hK K
      try simp only [Act.put, List.getElem_toArray, List.getElem_cons_succ, List.getElem_cons_zero, List.setIfInBounds_toArray, List.set_cons_succ, List.set_cons_zero]
      refine wpAnyH_ready (rs := [9]) (by kernel_rfl) (by simp) ?_
      refine AllReadyH.cons rfl (fun K hK => ?_) AllReadyH.nil
      refine step_append_int rfl (.tmp 52) (.tmp 56) (by kernel_rfl) n2 g4 m cap4 U hU.out (by kernel_rfl) Ov8 N (r : Int) (by kernel_rfl) kv8 (by omega) hsv8 ?_
      intro g9 cap9 w9 hg9 O9 gr9
      have B9 : Below n2 w2 w9 := hHeld.grown gr9 hsv8 (fun q e => by cases e; omega)
      refine hK.out _ _ B9 (fun hHeld => ?_)
      clear hK K
      try simp only [Act.put, List.getElem_toArray, List.getElem_cons_succ, List.getElem_cons_zero, List.setIfInBounds_toArray, List.set_cons_succ, List.set_cons_zero]
      have S9 := S2.below (hn2 ▸ B9)
      have I9 := IntsO.into O9 HUB.out
      refine wpAnyH_ready (rs := [12]) (by kernel_rfl) (by simp) ?_
      refine AllReadyH.cons rfl (fun K hK => ?_) AllReadyH.nil
      go_simp
      (with_reducible refine (HPB w9 g9 cap9 S9.old I9).out.mono ?_); rintro e w10 ⟨v2, rfl, Q10, b10⟩
      have S10 := S9.below b10
      have B10 := B9.trans (b10.mono (Nat.le_trans (by omega) B9.size))
      have R10 := R2.below (hn2 ▸ B10)
      have Q10 := Q10.mono S9.old.size
      refine hK.out _ _ (B10) (fun hHeld => ?_)
      clear hK K
      try simp only [Act.put, List.getElem_toArray, List.getElem_cons_succ, List.getElem_cons_zero, List.setIfInBounds_toArray, List.set_cons_succ, List.set_cons_zero]
      refine wpAnyH_take (i := 13) (v := ?_) rfl (by kernel_rfl) (by kernel_rfl) (by kernel_rfl) (fun _ _ _ h => h) (Or.inl ⟨by kernel_rfl, ?_⟩) (by assumption) ?_
      rotate_left
      · intro w' hSw; (try dsimp only at hSw); go_simp; with_reducible rfl
      try simp only [Act.put, List.getElem_toArray, List.getElem_cons_succ, List.getElem_cons_zero, List.setIfInBounds_toArray, List.set_cons_succ, List.set_cons_zero]
      refine wpAnyH_done (by kernel_rfl) ?_ _
      obtain ⟨D2, k2, rfl⟩ := OwnL.shape Q10
      rw [HZ.out]
      go_wp2
      go_meet
      exact ⟨D2, k2, rfl, S10, R10, Q10⟩
  case rest =>
    obtain ⟨D2, k2, rfl, S7, R7, Q7⟩ := hcut
    clear S2 R2 HPB hn2 hw2 HUB
    go_wp2
    go_loopw [15] (fun i wr => ∃ j : Nat, j ≤ z ∧ i = .int .i64 j ∧ Hs w [(X, 27, [.int .u64 t, .int .u64 f, .int .u16 k, .slice A n c])] wr ∧ IntsR wr w.heap.size (.slice D1 I.length k1) I ∧ IntsR wr w.heap.size (.slice D2 I.length k2) I) (fun i _ => z - (intOf i).toNat)
    case atStart => exact ⟨0, Nat.zero_le _, rfl, S7, R7, Q7⟩
    case round =>
      clear S7 R7 Q7
      obtain ⟨j, hj, rfl, S, R, Q⟩ := hrel
      by_cases hjm : j < z
      · have hji : (j : Int) < (z : Int) := by omega
        have hjz : ¬ (z : Int) ≤ (j : Int) := by omega
        obtain ⟨y, hy⟩ : ∃ y, I[j]? = some y := ⟨_, List.getElem?_eq_getElem (by rw [HZ.out]; exact hjm)⟩
        obtain ⟨g1, rfl, -, e1⟩ := R.cell hy
        obtain ⟨g2, rfl, -, e2⟩ := Q.cell hy
        clear hy
        go_wp2_with fail
        go_quiet (fail)
        go_wp2
        go_roundw
        case rel => exact ⟨j + 1, hjm, by go_num, S.below (below_drewN (Below.refl _ _) _), IntsR.below R (below_drewN (Below.refl _ _) _), IntsR.below Q (below_drewN (Below.refl _ _) _)⟩
        case measure => simp [intOf]; omega
      · have hjz : ¬ (j : Int) < (z : Int) := by omega
        go_wp2
        go_ret
        exact ⟨rfl, S.old⟩
theorem RelayTurned_walk (t f k : Int) (A : Option Addr) (n c : Nat) (z : List Int) (inn : Int) (A2 : Option Addr) (m c2 : Nat) (z2 : List Int) (wh : Int) (kn : Bool) (x : Int) (w : World) (hd : Hd w) (hfr : FrIn w t f k A n c z) (hi : (Lit.int .i64 inn).wf = true) (hz2 : IsRow .i64 w A2 m c2 z2) (hwh : (Lit.int .i64 wh).wf = true) (hx : (Lit.int .u8 x).wf = true) :
    Calls Tryd.prog 6 #[.agg #[.int .u64 t, .int .u64 f, .int .u16 k, .slice A n c], .int .i64 inn, .slice A2 m c2, .int .i64 wh, .bool kn, .int .u8 x] w fun e w' => e = .returned (.bool true) ∧ Below w.heap.size w w' := by
  obtain ⟨h0, h3, h1, h4, h2, h5, hz⟩ := hfr
  obtain ⟨l, hl, hr, hc, hm2⟩ := bytes_in hz
  obtain ⟨U, hU0, hmm, hI0⟩ := ints64_in hz2
  have hU : Hid (U.length = m) := Lib.hid hU0
  have hI := Lib.hid hI0
  have hnc := Lib.hid (none_cap hz)
  have h1' : t ≤ 18446744073709551615 := by omega
  have hf' : 0 ≤ f ∧ f ≤ 18446744073709551615 := by omega
  have hi' := bounds_i64 hi
  have hx' := bounds_u8 hx
  obtain ⟨x, rfl⟩ : ∃ q : Nat, x = q := ⟨x.toNat, by omega⟩
  by_cases h : 2000 < n ∨ 2000 < m ∨ (m : Int) ≤ wh ∨ (m : Int) ≤ inn
  · exact turned_long t f k inn wh kn x A n c A2 m c2 hm2 hmm h w hd
  · exact turned_short t f k inn wh kn x A n c l A2 m c2 U hU hl hc hnc h0 h1' hf' h2 h5 ⟨hi'.1, by omega⟩ (by omega) (by omega) (by omega) (Lib.hid (none_cap hz2)) (by omega) (by omega) w hd (Lib.hid hr) hI

end Go.Proofs.YtbjcjeadnfckgaaDoor
