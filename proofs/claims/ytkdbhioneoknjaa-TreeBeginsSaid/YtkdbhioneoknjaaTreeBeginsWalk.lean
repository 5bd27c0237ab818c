/- The law TreeBegins, walked. -/
import Derived.Test.YtkdbhioneoknjaaTreeBegin
import Derived.Test.YtkdbhioneoknjaaTreeAwake
import Derived.Test.YtkdbhioneoknjaaTreeRefSame
import Derived.Test.YtkdbhioneoknjaaTreeSame
namespace Go.Proofs.Ytkdbhioneoknjaa
open Go.ChangeShapes Go.WideShapes Go.ChangeAt Go.RowKit
set_option linter.unusedVariables false
set_option linter.unusedSimpArgs false

theorem few_row (c : Cf) (hn : c.n ≤ 9223372036854775807) (w : World) : Calls Try.prog 18 #[.agg (lC c).toArray] w fun e w' => e = .returned (.bool (decide (c.n ≤ 200))) ∧ Below w.heap.size w w' := few_is c hn w
theorem rcheck_row (c : Cf) (L : List PV) (hL : L.length = c.n) (hf : c.n ≤ 200) (hb : CB c) (w : World) (hp : PortsIn w c.A w.heap.size L) :
    Calls Try.prog 19 #[.agg (lC c).toArray] w fun e w' => e = .returned (.int .i64 (checkI c L)) ∧ Below w.heap.size w w' := rcheck_is c L hL hf hb w hp
theorem check_zero {c : Cf} {L : List PV} (h : checkI c L = 0) : timesB c = true ∧ c.n ≤ 4 := by
  unfold checkI at h
  cases ht : timesB c with
  | false => exfalso; simp [ht] at h; split at h <;> omega
  | true =>
    refine ⟨rfl, ?_⟩
    by_cases hn : c.n ≤ 4
    · exact hn
    · exfalso
      have e1 : ¬ c.n = 0 := by omega
      have e2 : 4 < c.n := by omega
      simp only [e1, e2, if_true, if_false] at h
      repeat (split at h; first | omega | skip)
      all_goals omega

set_option maxRecDepth 100000 in
set_option maxHeartbeats 1000000 in
theorem TreeBegins_walk (c : Cf) (L : List PV) (w : World) (hb : CB c) (hL : L.length = c.n) (hz : c.A = none → c.cap = 0) (hp : PortsIn w c.A w.heap.size L) :
    Calls Try.prog 4 #[.agg #[.int .u64 c.ad, .int .u16 c.pr, .int .i64 c.ma, .int .i64 c.he, .int .i64 c.de, .int .i64 c.ag, .int .i64 c.tb, .slice c.A c.n c.cap]] w fun e w' => e = .returned (.bool true) ∧ Below w.heap.size w w' := by
  have HA := fun W => Lib.hid (awake_is W)
  have HB := Lib.hid hb
  have HL := Lib.hid hL
  have HP := Lib.hid hp
  have HF := fun W => Lib.hid (few_row c hb.2.2.2.2.2.2.2 W)
  clear hb hL hz hp
  obtain ⟨q, hq⟩ : ∃ q, decide (c.n ≤ 200) = q := ⟨_, rfl⟩
  rw [hq] at HF
  have HQ := Lib.hid hq
  clear hq
  obtain ⟨wb, hwb, S⟩ := hs_one w 44 (lC c)
  have hwb' : w.alloc (.cells #[.int .u64 c.ad, .int .u16 c.pr, .int .i64 c.ma, .int .i64 c.he, .int .i64 c.de, .int .i64 c.ag, .int .i64 c.tb, .slice c.A c.n c.cap] 44) = wb := hwb
  go_enter Try.func4, Try.ntmps4
  go_upto_region 1 with fail
  clear hwb hwb'
  obtain ⟨X, hX⟩ : ∃ X, w.heap.size = X := ⟨_, rfl⟩
  rw [hX] at S
  rw [hX]
  clear hX
  go_wp2_with fail
  (with_reducible refine (HA _).out.mono ?_); rintro e w1 ⟨rfl, b1⟩
  have S1 := S.below b1
  clear S b1
  have hx := S1.bk 0 rfl
  go_wp2_with (with_reducible refine wpList_load_rowG (by kernel_rfl) 44 (.tmp 1) rfl X (by kernel_rfl) _ _ (0, 0) _ hx Try.underlying44 rfl (by kernel_rfl) ?_)
  (with_reducible refine (HF _).out.mono ?_); rintro e w2 ⟨rfl, b2⟩
  have S2 := S1.below b2
  clear S1 hx HF b2
  cases q with
  | false =>
    go_wp2_with fail
    (with_reducible refine (HA _).out.mono ?_); rintro e w3 ⟨rfl, b3⟩
    have S3 := S2.below b3
    clear S2 b3
    go_wp2
    go_ret
    exact ⟨rfl, S3.old⟩
  | true =>
    have hn2 : c.n ≤ 200 := of_decide_eq_true HQ.out
    have HC := fun W (h : Below w.heap.size w W) => Lib.hid (rcheck_row c L HL.out hn2 HB.out W ((HP.out.below h (Nat.le_refl _)).wide h.size))
    obtain ⟨z, hz⟩ : ∃ z, checkI c L = z := ⟨_, rfl⟩
    rw [hz] at HC
    have HZ := Lib.hid hz
    clear hz hn2
    go_upto_region 3 with fail
    have hx := S2.bk 0 rfl
    go_wp2_with (with_reducible refine wpList_load_row rfl 44 (.tmp 1) rfl X (by kernel_rfl) _ _ (0, 0) _ hx Try.underlying44 rfl (by kernel_rfl) ?_)
    (with_reducible refine (HC _ S2.old).out.mono ?_); rintro e w3 ⟨rfl, b3⟩
    have S3 := S2.below b3
    clear S2 hx HC b3
    by_cases h0 : z = 0
    · subst h0
      obtain ⟨ht, hn4⟩ := check_zero HZ.out
      have HNW := fun W (h : Below w.heap.size w W) => Lib.hid (tnew_is c L HL (Lib.hid hn4) HB W (Lib.hid ((HP.out.below h (Nat.le_refl _)).wide h.size)))
      have HBG := fun W (h : Below w.heap.size w W) => Lib.hid (begin_is c L HL (Lib.hid hn4) HB (Lib.hid ht) W (Lib.hid ((HP.out.below h (Nat.le_refl _)).wide h.size)))
      have HN4 := Lib.hid hn4
      clear ht hn4
      have S2 := S3
      clear S3
      go_upto_region 5 with fail
      refine wp_region_held_drew (S := (fun w' => Below w3.heap.size w3 w')) (by kernel_rfl) ((Below.refl _ _).drew) (fun hHeld => ?_)
      refine wpAnyH_take (i := 0) (v := _) rfl (by kernel_rfl) (by kernel_rfl) (by kernel_rfl) (fun _ _ _ h => h) (Or.inl ⟨by kernel_rfl, fun w' hSw => exec_load_row 44 _ rfl X (by kernel_rfl) _ _ (0, 0) _ (((S2.below hSw).bk 0 rfl)) Try.underlying44 rfl (by kernel_rfl)⟩) (by assumption) ?_
      try simp only [Act.put, List.setIfInBounds_toArray, List.set_cons_succ]
      refine wpAnyH_take (i := 2) (v := _) rfl (by kernel_rfl) (by kernel_rfl) (by kernel_rfl) (fun _ _ _ h => h) (Or.inl ⟨by kernel_rfl, fun w' hSw => exec_load_row 44 _ rfl X (by kernel_rfl) _ _ (0, 0) _ (((S2.below hSw).bk 0 rfl)) Try.underlying44 rfl (by kernel_rfl)⟩) (by assumption) ?_
      try simp only [Act.put, List.setIfInBounds_toArray, List.set_cons_succ]
      refine wpAnyH_by4 17 19 3 4 (fun f z1 z2 z3 z4 w' => CallF f 1 (newT c) c.n (newL c L) w' z1 ∧ CallF f 3 (newT c) c.n (newL c L) w' z2 ∧ BoxF f 4 6 31 19 w3.heap.size w' z3 z1 ∧ BoxF f 5 7 31 19 w3.heap.size w' z4 z2 ∧ (f 4 = true → f 5 = true → z3 ≠ z4) ∧ (∀ s ∈ ([6, 7] : List Nat), f s = true → ∀ c ∈ ([1, 3, 4, 5] : List Nat), f c = true) ∧ (f 3 = true → f 1 = true)) (by kernel_rfl) [1, 3, 4, 5, 6, 7] (by kernel_rfl) (by kernel_rfl) (by kernel_rfl) (by kernel_rfl) hHeld ⟨(off_imp rfl), (off_imp rfl), (BoxF.off rfl), (BoxF.off rfl), (off_imp rfl), (by intro s hs e; simp only [List.mem_cons, List.not_mem_nil, or_false] at hs; rcases hs with rfl | rfl <;> cases e), (off_imp rfl)⟩ ?_ ?_
      rotate_left
      refine StepsI.cons4 rfl (fun f z1 z2 z3 z4 w5 h1 h2 hS hJ => ?_) ?_
      · have c0 := hJ.1
        have c1 := hJ.2.1
        have b0 := hJ.2.2.1
        have b1 := hJ.2.2.2.1
        have q01 := hJ.2.2.2.2.1
        have hn := hJ.2.2.2.2.2.1
        have r1 := hJ.2.2.2.2.2.2
        clear hJ
        intro K hK
        try simp only [puts4]
        try simp only [Act.put, List.getElem_toArray, List.getElem_cons_succ, List.getElem_cons_zero, List.setIfInBounds_toArray, List.set_cons_succ, List.set_cons_zero]
        go_simp
        (with_reducible refine (HNW _ (S2.old.trans (hS.mono S2.old.size))).out.mono ?_); rintro e w6 ⟨D, cap', rfl, hz, k6⟩
        have b6 := k6.old
        refine hK.out (.agg (lT (newT c) D c.n cap' : List Value).toArray) z2 z3 z4 _ w6 ?_ (by kernel_rfl) ?_
        · exact hS.trans (b6.mono hS.size)
        refine ⟨?_, ?_, ?_, ?_, ?_, ?_, ?_⟩
        · exact CallF.new hz (TS.rowT k6)
        · exact (c1.up (by decide)).below b6
        · exact ((BoxF.val b0 (no_store hn (by decide) h1 6 (by decide))).up (by decide) (by decide)).below b6
        · exact (b1.up (by decide) (by decide)).below b6
        · exact fun e => upB_imp (upB_imp q01 (by decide) e) (by decide)
        · exact store_up hn (by decide) h1 (by decide)
        · exact fun _ => upB_self _ _
      refine StepsI.cons4 rfl (fun f z1 z2 z3 z4 w5 h1 h2 hS hJ => ?_) ?_
      · have c0 := hJ.1
        have c1 := hJ.2.1
        have b0 := hJ.2.2.1
        have b1 := hJ.2.2.2.1
        have q01 := hJ.2.2.2.2.1
        have hn := hJ.2.2.2.2.2.1
        have r1 := hJ.2.2.2.2.2.2
        clear hJ
        intro K hK
        try simp only [puts4]
        try simp only [Act.put, List.getElem_toArray, List.getElem_cons_succ, List.getElem_cons_zero, List.setIfInBounds_toArray, List.set_cons_succ, List.set_cons_zero]
        go_simp
        (with_reducible refine (HBG _ (S2.old.trans (hS.mono S2.old.size))).out.mono ?_); rintro e w6 ⟨D, cap', rfl, hz, k6⟩
        have b6 := k6.old
        refine hK.out z1 (.agg (lT (newT c) D c.n cap' : List Value).toArray) z3 z4 _ w6 ?_ (by kernel_rfl) ?_
        · exact hS.trans (b6.mono hS.size)
        refine ⟨?_, ?_, ?_, ?_, ?_, ?_, ?_⟩
        · exact (c0.up (by decide)).below b6
        · exact CallF.new hz (TS.rowT k6)
        · exact (b0.up (by decide) (by decide)).below b6
        · exact ((BoxF.val b1 (no_store hn (by decide) h1 7 (by decide))).up (by decide) (by decide)).below b6
        · exact fun e => upB_imp (upB_imp q01 (by decide) e) (by decide)
        · exact store_up hn (by decide) h1 (by decide)
        · exact fun _ => by rw [upB_ne _ (by decide)]; exact after_at h2 1 (by kernel_rfl)
      refine StepsI.cons4 rfl (fun f z1 z2 z3 z4 w5 h1 h2 hS hJ => ?_) ?_
      · have c0 := hJ.1
        have c1 := hJ.2.1
        have b0 := hJ.2.2.1
        have b1 := hJ.2.2.2.1
        have q01 := hJ.2.2.2.2.1
        have hn := hJ.2.2.2.2.2.1
        have r1 := hJ.2.2.2.2.2.2
        clear hJ
        intro K hK
        try simp only [puts4]
        try simp only [Act.put, List.getElem_toArray, List.getElem_cons_succ, List.getElem_cons_zero, List.setIfInBounds_toArray, List.set_cons_succ, List.set_cons_zero]
        go_simp
        have b6 := new_below w5 (.cells ([.int .u64 0, .int .u64 0, .int .u32 0, .int .i64 0, .int .i64 0, .int .i64 0, .int .i64 0, .int .i64 0, .int .i64 0, .int .i64 0, .bool false, .bool false, .bool false, .int .i64 0, .bool false, .int .i64 0, .bool false, .int .i64 0, .slice none 0 0] : List Value).toArray 31)
        refine hK.out z1 z2 (.pointer (some ⟨w5.heap.size, 0, none⟩)) z4 _ (w5.alloc (.cells ([.int .u64 0, .int .u64 0, .int .u32 0, .int .i64 0, .int .i64 0, .int .i64 0, .int .i64 0, .int .i64 0, .int .i64 0, .int .i64 0, .bool false, .bool false, .bool false, .int .i64 0, .bool false, .int .i64 0, .bool false, .int .i64 0, .slice none 0 0] : List Value).toArray 31)) ?_ (by kernel_rfl) ?_
        · exact hS.trans (b6.mono hS.size)
        refine ⟨?_, ?_, ?_, ?_, ?_, ?_, ?_⟩
        · exact (c0.up (by decide)).below b6
        · exact (c1.up (by decide)).below b6
        · exact BoxF.new (j := 4) (s := 6) (no_store hn (by decide) h1 6 (by decide)) (by decide) hS.size [.int .u64 0, .int .u64 0, .int .u32 0, .int .i64 0, .int .i64 0, .int .i64 0, .int .i64 0, .int .i64 0, .int .i64 0, .int .i64 0, .bool false, .bool false, .bool false, .int .i64 0, .bool false, .int .i64 0, .bool false, .int .i64 0, .slice none 0 0] rfl
        · exact (b1.up (by decide) (by decide)).below b6
        · exact fun _ e => (b1.ne (by rwa [upB_ne _ (by decide)] at e)).symm
        · exact store_up hn (by decide) h1 (by decide)
        · exact fun e => by rw [upB_ne _ (by decide)] at e ⊢; exact r1 e
      refine StepsI.cons4 rfl (fun f z1 z2 z3 z4 w5 h1 h2 hS hJ => ?_) ?_
      · have c0 := hJ.1
        have c1 := hJ.2.1
        have b0 := hJ.2.2.1
        have b1 := hJ.2.2.2.1
        have q01 := hJ.2.2.2.2.1
        have hn := hJ.2.2.2.2.2.1
        have r1 := hJ.2.2.2.2.2.2
        clear hJ
        intro K hK
        try simp only [puts4]
        try simp only [Act.put, List.getElem_toArray, List.getElem_cons_succ, List.getElem_cons_zero, List.setIfInBounds_toArray, List.set_cons_succ, List.set_cons_zero]
        go_simp
        have b6 := new_below w5 (.cells ([.int .u64 0, .int .u64 0, .int .u32 0, .int .i64 0, .int .i64 0, .int .i64 0, .int .i64 0, .int .i64 0, .int .i64 0, .int .i64 0, .bool false, .bool false, .bool false, .int .i64 0, .bool false, .int .i64 0, .bool false, .int .i64 0, .slice none 0 0] : List Value).toArray 31)
        refine hK.out z1 z2 z3 (.pointer (some ⟨w5.heap.size, 0, none⟩)) _ (w5.alloc (.cells ([.int .u64 0, .int .u64 0, .int .u32 0, .int .i64 0, .int .i64 0, .int .i64 0, .int .i64 0, .int .i64 0, .int .i64 0, .int .i64 0, .bool false, .bool false, .bool false, .int .i64 0, .bool false, .int .i64 0, .bool false, .int .i64 0, .slice none 0 0] : List Value).toArray 31)) ?_ (by kernel_rfl) ?_
        · exact hS.trans (b6.mono hS.size)
        refine ⟨?_, ?_, ?_, ?_, ?_, ?_, ?_⟩
        · exact (c0.up (by decide)).below b6
        · exact (c1.up (by decide)).below b6
        · exact (b0.up (by decide) (by decide)).below b6
        · exact BoxF.new (j := 5) (s := 7) (no_store hn (by decide) h1 7 (by decide)) (by decide) hS.size [.int .u64 0, .int .u64 0, .int .u32 0, .int .i64 0, .int .i64 0, .int .i64 0, .int .i64 0, .int .i64 0, .int .i64 0, .int .i64 0, .bool false, .bool false, .bool false, .int .i64 0, .bool false, .int .i64 0, .bool false, .int .i64 0, .slice none 0 0] rfl
        · exact fun e _ => b0.ne (by rwa [upB_ne _ (by decide)] at e)
        · exact store_up hn (by decide) h1 (by decide)
        · exact fun e => by rw [upB_ne _ (by decide)] at e ⊢; exact r1 e
      refine StepsI.store4 rfl 31 (.tmp 3) (.tmp 17) (by kernel_rfl) (by kernel_rfl) (by kernel_rfl) (fun f z1 z2 z3 z4 w5 h1 h2 hS hJ => ?_) ?_
      · have c0 := hJ.1
        have c1 := hJ.2.1
        have b0 := hJ.2.2.1
        have b1 := hJ.2.2.2.1
        have q01 := hJ.2.2.2.2.1
        have hn := hJ.2.2.2.2.2.1
        have r1 := hJ.2.2.2.2.2.2
        clear hJ
        have hall : ∀ c ∈ ([1, 3, 4, 5] : List Nat), f c = true := by
          intro c hc
          simp only [List.mem_cons, List.not_mem_nil, or_false] at hc
          rcases hc with rfl | rfl | rfl | rfl
          · exact (r1 (after_at h2 3 (by kernel_rfl)))
          · exact (after_at h2 3 (by kernel_rfl))
          · exact after_at h2 4 (by kernel_rfl)
          · exact after_at h2 5 (by kernel_rfl)
        obtain ⟨g, cs, hg1, hg2, hg3, hg4, -⟩ := b0 (hall 4 (by decide))
        obtain ⟨D, cap', hv, hz, hr⟩ := c0 (hall 1 (by decide))
        subst hv
        subst hg1
        refine ⟨g, lT (newT c) D c.n cap', cs, by kernel_rfl, by kernel_rfl, hg3, hg4.trans rfl, by kernel_rfl, by kernel_rfl, below_setRow hS hg2 _, ?_⟩
        refine ⟨?_, ?_, ?_, ?_, ?_, ?_, ?_⟩
        · exact (c0.up (by decide)).row hg3
        · exact (c1.up (by decide)).row hg3
        · exact BoxF.fill hg2 hg3 rfl rfl
        · exact (b1.up (by decide) (by decide)).far (fun e => q01 (hall 4 (by decide)) (hall 5 (by decide)) e.symm)
        · exact fun e => upB_imp (upB_imp q01 (by decide) e) (by decide)
        · exact store_at hall (by decide)
        · exact fun e => by rw [upB_ne _ (by decide)] at e ⊢; exact r1 e
      refine StepsI.store4 rfl 31 (.tmp 4) (.tmp 19) (by kernel_rfl) (by kernel_rfl) (by kernel_rfl) (fun f z1 z2 z3 z4 w5 h1 h2 hS hJ => ?_) ?_
      · have c0 := hJ.1
        have c1 := hJ.2.1
        have b0 := hJ.2.2.1
        have b1 := hJ.2.2.2.1
        have q01 := hJ.2.2.2.2.1
        have hn := hJ.2.2.2.2.2.1
        have r1 := hJ.2.2.2.2.2.2
        clear hJ
        have hall : ∀ c ∈ ([1, 3, 4, 5] : List Nat), f c = true := by
          exact hn 6 (by decide) (after_at h2 6 (by kernel_rfl))
        obtain ⟨g, cs, hg1, hg2, hg3, hg4, -⟩ := b1 (hall 5 (by decide))
        obtain ⟨D, cap', hv, hz, hr⟩ := c1 (hall 3 (by decide))
        subst hv
        subst hg1
        refine ⟨g, lT (newT c) D c.n cap', cs, by kernel_rfl, by kernel_rfl, hg3, hg4.trans rfl, by kernel_rfl, by kernel_rfl, below_setRow hS hg2 _, ?_⟩
        refine ⟨?_, ?_, ?_, ?_, ?_, ?_, ?_⟩
        · exact (c0.up (by decide)).row hg3
        · exact (c1.up (by decide)).row hg3
        · exact (b0.up (by decide) (by decide)).far (q01 (hall 4 (by decide)) (hall 5 (by decide)))
        · exact BoxF.fill hg2 hg3 rfl rfl
        · exact fun e => upB_imp (upB_imp q01 (by decide) e) (by decide)
        · exact store_at hall (by decide)
        · exact fun e => by rw [upB_ne _ (by decide)] at e ⊢; exact r1 e
      exact StepsI.nil
      intro f z1 z2 z3 z4 w5 hall hS hJ
      obtain ⟨c0, c1, b0, b1, q01, hn, r1⟩ := hJ
      obtain ⟨D0, cap0, hv0, hz0, hr0⟩ := c0 (hall 1 (Nat.le_of_ble_eq_true (by kernel_rfl)))
      obtain ⟨g0, cs0, hp0, hB0, hk0, -, hf0⟩ := b0 (hall 4 (Nat.le_of_ble_eq_true (by kernel_rfl)))
      have hf0 := hf0 (hall 6 (Nat.le_of_ble_eq_true (by kernel_rfl)))
      rw [hv0] at hf0
      obtain rfl : cs0 = lT (newT c) D0 c.n cap0 := by injection hf0 with q; injection q with q; exact q.symm
      obtain ⟨D1, cap1, hv1, hz1, hr1⟩ := c1 (hall 3 (Nat.le_of_ble_eq_true (by kernel_rfl)))
      obtain ⟨g1, cs1, hp1, hB1, hk1, -, hf1⟩ := b1 (hall 5 (Nat.le_of_ble_eq_true (by kernel_rfl)))
      have hf1 := hf1 (hall 7 (Nat.le_of_ble_eq_true (by kernel_rfl)))
      rw [hv1] at hf1
      obtain rfl : cs1 = lT (newT c) D1 c.n cap1 := by injection hf1 with q; injection q with q; exact q.symm
      have hn01 : g0 ≠ g1 := fun e => q01 (hall 4 (Nat.le_of_ble_eq_true (by kernel_rfl))) (hall 5 (Nat.le_of_ble_eq_true (by kernel_rfl))) (by rw [hp0, hp1, e])
      subst hp0 hv0 hp1 hv1
      clear c0 b0 hf0 c1 b1 hf1 q01 hn r1 hall hHeld

      have S5 : Hs w ([(g0, 31, lT (newT c) D0 c.n cap0), (g1, 31, lT (newT c) D1 c.n cap1)] ++ _) w5 := S2.join (hs_box2 hS hk0 hB0 hk1 hB1 hn01)
      simp only [List.cons_append, List.nil_append] at S5
      have P0 := Lib.hid hr0
      have P1 := Lib.hid hr1
      simp only [puts4, Act.put, List.getElem_toArray, List.getElem_cons_succ, List.getElem_cons_zero, List.setIfInBounds_toArray, List.set_cons_succ, List.set_cons_zero]
      clear S2 hS hk0 hk1 hB0 hB1 hr0 hr1 hn01 HNW HBG
      have hnl : (newL c L).length = c.n := by rw [newL, List.length_mapIdx, HL.out]
      have HSR := fun W (b : Below w5.heap.size w5 W) => Lib.hid (rsame_alike (newT c) D0 D1 c.n cap0 cap1 (newL c L) (Lib.hid hnl) (by have := HN4.out; omega) W (Lib.hid (P0.out.below b).ports) (Lib.hid (P1.out.below b).ports))
      have HSM := fun W (b : Below w5.heap.size w5 W) => Lib.hid (same_alike (newT c) D0 D1 c.n cap0 cap1 (newL c L) (Lib.hid hnl) (by have := HN4.out; omega) W (Lib.hid (P0.out.below b).ports) (Lib.hid (P1.out.below b).ports))
      clear hnl
      go_upto_region 6 with fail
      have hx := S5.bk 0 rfl
      have hy := S5.bk 1 rfl
      go_wp2_with (first | (with_reducible refine wpList_load_row rfl 31 (.tmp 3) rfl g0 (by kernel_rfl) _ _ (0, 0) _ hx Try.underlying31 rfl (by kernel_rfl) ?_) | (with_reducible refine wpList_load_row rfl 31 (.tmp 4) rfl g1 (by kernel_rfl) _ _ (0, 0) _ hy Try.underlying31 rfl (by kernel_rfl) ?_))
      (with_reducible refine (HSR _ (Below.refl _ _)).out.mono ?_); rintro e w6 ⟨rfl, b6⟩
      have S6 := S5.below b6
      have B6 := Lib.hid b6
      clear S5 hx hy HSR b6
      have hx := S6.bk 0 rfl
      have hy := S6.bk 1 rfl
      go_wp2_with (first | (with_reducible refine wpList_load_rowG (by kernel_rfl) 31 (.tmp 3) rfl g0 (by kernel_rfl) _ _ (0, 0) _ hx Try.underlying31 rfl (by kernel_rfl) ?_) | (with_reducible refine wpList_load_rowG (by kernel_rfl) 31 (.tmp 4) rfl g1 (by kernel_rfl) _ _ (0, 0) _ hy Try.underlying31 rfl (by kernel_rfl) ?_))
      (with_reducible refine (HSM _ B6.out).out.mono ?_); rintro e w7 ⟨rfl, b7⟩
      have S7 := S6.below b7
      clear S6 hx hy HSM b7 B6
      go_wp2
      go_ret
      exact ⟨rfl, S7.old⟩
    · have hzz : (z != 0) = true := by simp [h0]
      go_wp2
      go_ret
      exact ⟨rfl, S3.old⟩

end Go.Proofs.Ytkdbhioneoknjaa
