/- The law TreeSelects, walked. -/
import Derived.Test.YtkdbhioneoknjaaTreeAwake
import Derived.Test.YtkdbhioneoknjaaTreeFit
import Derived.Test.YtkdbhioneoknjaaTreeUpdate
import Derived.Test.YtkdbhioneoknjaaTreeRefDes
import Derived.Test.YtkdbhioneoknjaaTreeRefSame
namespace Go.Proofs.Ytkdbhioneoknjaa
open Go.ChangeShapes Go.WideShapes Go.ChangeAt Go.RowKit
set_option linter.unusedVariables false
set_option linter.unusedSimpArgs false

set_option maxRecDepth 100000 in
set_option maxHeartbeats 2000000 in
theorem TreeSelects_walk (t : Th) (A : Option Addr) (n cap : Nat) (L : List Po) (w : World) (ht : ThB t) (hL : L.length = n) (hn : n ≤ 9223372036854775807) (hz : A = none → cap = 0) (hb : ∀ x ∈ L, PoB x) (hp : PoAt w A w.heap.size L) :
    Calls Try.prog 3 #[.agg (lT t A n cap).toArray] w fun e w' => e = .returned (.bool true) ∧ Below w.heap.size w w' := by
  have HA := fun W => Lib.hid (awake_is W)
  have HB := Lib.hid hb
  have HTB := Lib.hid ht
  have HL := Lib.hid hL
  have HP := Lib.hid hp
  have HCZ := Lib.hid hz
  have HF := fun W (h : Below w.heap.size w W) => Lib.hid (fit_is t A n cap L HL hn W (Lib.hid ((HP.out.below h (Nat.le_refl _)).wide h.size)))
  clear hb hL hz hp ht hn
  obtain ⟨wb, hwb, S⟩ := hs_one w 31 (lT t A n cap)
  go_enter Try.func3, Try.ntmps3
  go_upto_region 1 with fail
  clear hwb
  obtain ⟨X, hX⟩ : ∃ X, w.heap.size = X := ⟨_, rfl⟩
  rw [hX] at S
  rw [hX]
  clear hX
  go_wp2_with fail
  (with_reducible refine (HA _).out.mono ?_); rintro e w1 ⟨rfl, b1⟩
  have S1 := S.below b1
  clear S b1
  have hx := S1.bk 0 rfl
  go_wp2_with (with_reducible refine wpList_load_rowG (by kernel_rfl) 31 (.tmp 1) rfl X (by kernel_rfl) _ _ (0, 0) _ hx Try.underlying31 rfl (by kernel_rfl) ?_)
  (with_reducible refine (HF _ S1.old).out.mono ?_); rintro e w2 ⟨q, rfl, hq, b2⟩
  have S2 := S1.below b2
  have HQ := Lib.hid hq
  clear S1 hx HF b2 hq
  cases q with
  | false =>
    go_wp2_with fail
    (with_reducible refine (HA _).out.mono ?_); rintro e w3 ⟨rfl, b3⟩
    have S3 := S2.below b3
    clear S2 b3
    go_wp2
    go_ret
    exact ⟨rfl, S3.old⟩
  | true =>
    have HN := Lib.hid (HQ.out rfl).1
    have HU := Lib.hid (HQ.out rfl).2
    clear HQ HA

    have hn2 : n ≤ 200 := by have := HN.out; omega
    have HS1 := fun W (h : Below w.heap.size w W) => Lib.hid (select_is t A n cap L HL hn2 HB HCZ W (Lib.hid ((HP.out.below h (Nat.le_refl _)).wide h.size)))
    have HS2 := fun W (h : Below w.heap.size w W) => Lib.hid (desig_all t A n cap L HL hn2 HCZ W (Lib.hid ((HP.out.below h (Nat.le_refl _)).wide h.size)))
    have HS3 := fun W (h : Below w.heap.size w W) => Lib.hid (show Calls _ _ _ W (TOut W (selectT t L) n (desL (selectT t L) L)) from update_is t A n cap L HL hn2 HB HCZ W (Lib.hid ((HP.out.below h (Nat.le_refl _)).wide h.size)))
    go_upto_region 3 with fail
    refine wp_region_held_drew (S := (fun w' => Below w2.heap.size w2 w')) (by kernel_rfl) ((Below.refl _ _).drew) (fun hHeld => ?_)
    refine wpAnyH_take (i := 0) (v := _) rfl (by kernel_rfl) (by kernel_rfl) (by kernel_rfl) (fun _ _ _ h => h) (Or.inl ⟨by kernel_rfl, fun w' hSw => exec_load_row 31 _ rfl X (by kernel_rfl) _ _ (0, 0) _ (((S2.below hSw).bk 0 rfl)) Try.underlying31 rfl (by kernel_rfl)⟩) (by assumption) ?_
    try simp only [Act.put, List.setIfInBounds_toArray, List.set_cons_succ]
    refine wpAnyH_take (i := 2) (v := _) rfl (by kernel_rfl) (by kernel_rfl) (by kernel_rfl) (fun _ _ _ h => h) (Or.inl ⟨by kernel_rfl, fun w' hSw => exec_load_row 31 _ rfl X (by kernel_rfl) _ _ (0, 0) _ (((S2.below hSw).bk 0 rfl)) Try.underlying31 rfl (by kernel_rfl)⟩) (by assumption) ?_
    try simp only [Act.put, List.setIfInBounds_toArray, List.set_cons_succ]
    refine wpAnyH_take (i := 4) (v := _) rfl (by kernel_rfl) (by kernel_rfl) (by kernel_rfl) (fun _ _ _ h => h) (Or.inl ⟨by kernel_rfl, fun w' hSw => exec_load_row 31 _ rfl X (by kernel_rfl) _ _ (0, 0) _ (((S2.below hSw).bk 0 rfl)) Try.underlying31 rfl (by kernel_rfl)⟩) (by assumption) ?_
    try simp only [Act.put, List.setIfInBounds_toArray, List.set_cons_succ]
    refine wpAnyH_by6 15 17 19 3 4 5 (fun f z1 z2 z3 z4 z5 z6 w' => CallF f 1 (selectT t L) n (L) w' z1 ∧ CallF f 3 (t) n (desL t L) w' z2 ∧ CallF f 5 (selectT t L) n (desL (selectT t L) L) w' z3 ∧ BoxF f 6 9 31 19 w2.heap.size w' z4 z1 ∧ BoxF f 7 10 31 19 w2.heap.size w' z5 z2 ∧ BoxF f 8 11 31 19 w2.heap.size w' z6 z3 ∧ (f 6 = true → f 7 = true → z4 ≠ z5) ∧ (f 6 = true → f 8 = true → z4 ≠ z6) ∧ (f 7 = true → f 8 = true → z5 ≠ z6) ∧ (∀ s ∈ ([9, 10, 11] : List Nat), f s = true → ∀ c ∈ ([1, 3, 5, 6, 7, 8] : List Nat), f c = true) ∧ (f 3 = true → f 1 = true) ∧ (f 5 = true → f 3 = true)) (by kernel_rfl) [1, 3, 5, 6, 7, 8, 9, 10, 11] (by kernel_rfl) (by kernel_rfl) (by kernel_rfl) (by kernel_rfl) hHeld ⟨(off_imp rfl), (off_imp rfl), (off_imp rfl), (BoxF.off rfl), (BoxF.off rfl), (BoxF.off rfl), (off_imp rfl), (off_imp rfl), (off_imp rfl), (by intro s hs e; simp only [List.mem_cons, List.not_mem_nil, or_false] at hs; rcases hs with rfl | rfl | rfl <;> cases e), (off_imp rfl), (off_imp rfl)⟩ ?_ ?_
    rotate_left
    refine StepsI.cons6 rfl (fun f z1 z2 z3 z4 z5 z6 w5 h1 h2 hS hJ => ?_) ?_
    · have c0 := hJ.1
      have c1 := hJ.2.1
      have c2 := hJ.2.2.1
      have b0 := hJ.2.2.2.1
      have b1 := hJ.2.2.2.2.1
      have b2 := hJ.2.2.2.2.2.1
      have q01 := hJ.2.2.2.2.2.2.1
      have q02 := hJ.2.2.2.2.2.2.2.1
      have q12 := hJ.2.2.2.2.2.2.2.2.1
      have hn := hJ.2.2.2.2.2.2.2.2.2.1
      have r1 := hJ.2.2.2.2.2.2.2.2.2.2.1
      have r2 := hJ.2.2.2.2.2.2.2.2.2.2.2
      clear hJ
      intro K hK
      try simp only [puts6]
      try simp only [Act.put, List.getElem_toArray, List.getElem_cons_succ, List.getElem_cons_zero, List.setIfInBounds_toArray, List.set_cons_succ, List.set_cons_zero]
      go_simp
      (with_reducible refine (HS1 _ (S2.old.trans (hS.mono S2.old.size))).out.mono ?_); rintro e w6 ⟨D, cap', rfl, hz, k6⟩
      have b6 := k6.old
      refine hK.out (.agg (lT (selectT t L) D n cap' : List Value).toArray) z2 z3 z4 z5 z6 _ w6 ?_ (by kernel_rfl) ?_
      · exact hS.trans (b6.mono hS.size)
      refine ⟨?_, ?_, ?_, ?_, ?_, ?_, ?_, ?_, ?_, ?_, ?_, ?_⟩
      · exact CallF.new hz (TS.rowT k6)
      · exact (c1.up (by decide)).below b6
      · exact (c2.up (by decide)).below b6
      · exact ((BoxF.val b0 (no_store hn (by decide) h1 9 (by decide))).up (by decide) (by decide)).below b6
      · exact (b1.up (by decide) (by decide)).below b6
      · exact (b2.up (by decide) (by decide)).below b6
      · exact fun e => upB_imp (upB_imp q01 (by decide) e) (by decide)
      · exact fun e => upB_imp (upB_imp q02 (by decide) e) (by decide)
      · exact fun e => upB_imp (upB_imp q12 (by decide) e) (by decide)
      · exact store_up hn (by decide) h1 (by decide)
      · exact fun _ => upB_self _ _
      · exact fun e => by rw [upB_ne _ (by decide)] at e ⊢; exact r2 e
    refine StepsI.cons6 rfl (fun f z1 z2 z3 z4 z5 z6 w5 h1 h2 hS hJ => ?_) ?_
    · have c0 := hJ.1
      have c1 := hJ.2.1
      have c2 := hJ.2.2.1
      have b0 := hJ.2.2.2.1
      have b1 := hJ.2.2.2.2.1
      have b2 := hJ.2.2.2.2.2.1
      have q01 := hJ.2.2.2.2.2.2.1
      have q02 := hJ.2.2.2.2.2.2.2.1
      have q12 := hJ.2.2.2.2.2.2.2.2.1
      have hn := hJ.2.2.2.2.2.2.2.2.2.1
      have r1 := hJ.2.2.2.2.2.2.2.2.2.2.1
      have r2 := hJ.2.2.2.2.2.2.2.2.2.2.2
      clear hJ
      intro K hK
      try simp only [puts6]
      try simp only [Act.put, List.getElem_toArray, List.getElem_cons_succ, List.getElem_cons_zero, List.setIfInBounds_toArray, List.set_cons_succ, List.set_cons_zero]
      go_simp
      (with_reducible refine (HS2 _ (S2.old.trans (hS.mono S2.old.size))).out.mono ?_); rintro e w6 ⟨D, cap', rfl, hz, k6⟩
      have b6 := k6.old
      refine hK.out z1 (.agg (lT (t) D n cap' : List Value).toArray) z3 z4 z5 z6 _ w6 ?_ (by kernel_rfl) ?_
      · exact hS.trans (b6.mono hS.size)
      refine ⟨?_, ?_, ?_, ?_, ?_, ?_, ?_, ?_, ?_, ?_, ?_, ?_⟩
      · exact (c0.up (by decide)).below b6
      · exact CallF.new hz (TS.rowT k6)
      · exact (c2.up (by decide)).below b6
      · exact (b0.up (by decide) (by decide)).below b6
      · exact ((BoxF.val b1 (no_store hn (by decide) h1 10 (by decide))).up (by decide) (by decide)).below b6
      · exact (b2.up (by decide) (by decide)).below b6
      · exact fun e => upB_imp (upB_imp q01 (by decide) e) (by decide)
      · exact fun e => upB_imp (upB_imp q02 (by decide) e) (by decide)
      · exact fun e => upB_imp (upB_imp q12 (by decide) e) (by decide)
      · exact store_up hn (by decide) h1 (by decide)
      · exact fun _ => by rw [upB_ne _ (by decide)]; exact after_at h2 1 (by kernel_rfl)
      · exact fun _ => upB_self _ _
    refine StepsI.cons6 rfl (fun f z1 z2 z3 z4 z5 z6 w5 h1 h2 hS hJ => ?_) ?_
    · have c0 := hJ.1
      have c1 := hJ.2.1
      have c2 := hJ.2.2.1
      have b0 := hJ.2.2.2.1
      have b1 := hJ.2.2.2.2.1
      have b2 := hJ.2.2.2.2.2.1
      have q01 := hJ.2.2.2.2.2.2.1
      have q02 := hJ.2.2.2.2.2.2.2.1
      have q12 := hJ.2.2.2.2.2.2.2.2.1
      have hn := hJ.2.2.2.2.2.2.2.2.2.1
      have r1 := hJ.2.2.2.2.2.2.2.2.2.2.1
      have r2 := hJ.2.2.2.2.2.2.2.2.2.2.2
      clear hJ
      intro K hK
      try simp only [puts6]
      try simp only [Act.put, List.getElem_toArray, List.getElem_cons_succ, List.getElem_cons_zero, List.setIfInBounds_toArray, List.set_cons_succ, List.set_cons_zero]
      go_simp
      (with_reducible refine (HS3 _ (S2.old.trans (hS.mono S2.old.size))).out.mono ?_); rintro e w6 ⟨D, cap', rfl, hz, k6⟩
      have b6 := k6.old
      refine hK.out z1 z2 (.agg (lT (selectT t L) D n cap' : List Value).toArray) z4 z5 z6 _ w6 ?_ (by kernel_rfl) ?_
      · exact hS.trans (b6.mono hS.size)
      refine ⟨?_, ?_, ?_, ?_, ?_, ?_, ?_, ?_, ?_, ?_, ?_, ?_⟩
      · exact (c0.up (by decide)).below b6
      · exact (c1.up (by decide)).below b6
      · exact CallF.new hz (TS.rowT k6)
      · exact (b0.up (by decide) (by decide)).below b6
      · exact (b1.up (by decide) (by decide)).below b6
      · exact ((BoxF.val b2 (no_store hn (by decide) h1 11 (by decide))).up (by decide) (by decide)).below b6
      · exact fun e => upB_imp (upB_imp q01 (by decide) e) (by decide)
      · exact fun e => upB_imp (upB_imp q02 (by decide) e) (by decide)
      · exact fun e => upB_imp (upB_imp q12 (by decide) e) (by decide)
      · exact store_up hn (by decide) h1 (by decide)
      · exact fun e => by rw [upB_ne _ (by decide)] at e ⊢; exact r1 e
      · exact fun _ => by rw [upB_ne _ (by decide)]; exact after_at h2 3 (by kernel_rfl)
    refine StepsI.cons6 rfl (fun f z1 z2 z3 z4 z5 z6 w5 h1 h2 hS hJ => ?_) ?_
    · have c0 := hJ.1
      have c1 := hJ.2.1
      have c2 := hJ.2.2.1
      have b0 := hJ.2.2.2.1
      have b1 := hJ.2.2.2.2.1
      have b2 := hJ.2.2.2.2.2.1
      have q01 := hJ.2.2.2.2.2.2.1
      have q02 := hJ.2.2.2.2.2.2.2.1
      have q12 := hJ.2.2.2.2.2.2.2.2.1
      have hn := hJ.2.2.2.2.2.2.2.2.2.1
      have r1 := hJ.2.2.2.2.2.2.2.2.2.2.1
      have r2 := hJ.2.2.2.2.2.2.2.2.2.2.2
      clear hJ
      intro K hK
      try simp only [puts6]
      try simp only [Act.put, List.getElem_toArray, List.getElem_cons_succ, List.getElem_cons_zero, List.setIfInBounds_toArray, List.set_cons_succ, List.set_cons_zero]
      go_simp
      have b6 := new_below w5 (.cells ([.int .u64 0, .int .u64 0, .int .u32 0, .int .i64 0, .int .i64 0, .int .i64 0, .int .i64 0, .int .i64 0, .int .i64 0, .int .i64 0, .bool false, .bool false, .bool false, .int .i64 0, .bool false, .int .i64 0, .bool false, .int .i64 0, .slice none 0 0] : List Value).toArray 31)
      refine hK.out z1 z2 z3 (.pointer (some ⟨w5.heap.size, 0, none⟩)) z5 z6 _ (w5.alloc (.cells ([.int .u64 0, .int .u64 0, .int .u32 0, .int .i64 0, .int .i64 0, .int .i64 0, .int .i64 0, .int .i64 0, .int .i64 0, .int .i64 0, .bool false, .bool false, .bool false, .int .i64 0, .bool false, .int .i64 0, .bool false, .int .i64 0, .slice none 0 0] : List Value).toArray 31)) ?_ (by kernel_rfl) ?_
      · exact hS.trans (b6.mono hS.size)
      refine ⟨?_, ?_, ?_, ?_, ?_, ?_, ?_, ?_, ?_, ?_, ?_, ?_⟩
      · exact (c0.up (by decide)).below b6
      · exact (c1.up (by decide)).below b6
      · exact (c2.up (by decide)).below b6
      · exact BoxF.new (j := 6) (s := 9) (no_store hn (by decide) h1 9 (by decide)) (by decide) hS.size [.int .u64 0, .int .u64 0, .int .u32 0, .int .i64 0, .int .i64 0, .int .i64 0, .int .i64 0, .int .i64 0, .int .i64 0, .int .i64 0, .bool false, .bool false, .bool false, .int .i64 0, .bool false, .int .i64 0, .bool false, .int .i64 0, .slice none 0 0] rfl
      · exact (b1.up (by decide) (by decide)).below b6
      · exact (b2.up (by decide) (by decide)).below b6
      · exact fun _ e => (b1.ne (by rwa [upB_ne _ (by decide)] at e)).symm
      · exact fun _ e => (b2.ne (by rwa [upB_ne _ (by decide)] at e)).symm
      · exact fun e => upB_imp (upB_imp q12 (by decide) e) (by decide)
      · exact store_up hn (by decide) h1 (by decide)
      · exact fun e => by rw [upB_ne _ (by decide)] at e ⊢; exact r1 e
      · exact fun e => by rw [upB_ne _ (by decide)] at e ⊢; exact r2 e
    refine StepsI.cons6 rfl (fun f z1 z2 z3 z4 z5 z6 w5 h1 h2 hS hJ => ?_) ?_
    · have c0 := hJ.1
      have c1 := hJ.2.1
      have c2 := hJ.2.2.1
      have b0 := hJ.2.2.2.1
      have b1 := hJ.2.2.2.2.1
      have b2 := hJ.2.2.2.2.2.1
      have q01 := hJ.2.2.2.2.2.2.1
      have q02 := hJ.2.2.2.2.2.2.2.1
      have q12 := hJ.2.2.2.2.2.2.2.2.1
      have hn := hJ.2.2.2.2.2.2.2.2.2.1
      have r1 := hJ.2.2.2.2.2.2.2.2.2.2.1
      have r2 := hJ.2.2.2.2.2.2.2.2.2.2.2
      clear hJ
      intro K hK
      try simp only [puts6]
      try simp only [Act.put, List.getElem_toArray, List.getElem_cons_succ, List.getElem_cons_zero, List.setIfInBounds_toArray, List.set_cons_succ, List.set_cons_zero]
      go_simp
      have b6 := new_below w5 (.cells ([.int .u64 0, .int .u64 0, .int .u32 0, .int .i64 0, .int .i64 0, .int .i64 0, .int .i64 0, .int .i64 0, .int .i64 0, .int .i64 0, .bool false, .bool false, .bool false, .int .i64 0, .bool false, .int .i64 0, .bool false, .int .i64 0, .slice none 0 0] : List Value).toArray 31)
      refine hK.out z1 z2 z3 z4 (.pointer (some ⟨w5.heap.size, 0, none⟩)) z6 _ (w5.alloc (.cells ([.int .u64 0, .int .u64 0, .int .u32 0, .int .i64 0, .int .i64 0, .int .i64 0, .int .i64 0, .int .i64 0, .int .i64 0, .int .i64 0, .bool false, .bool false, .bool false, .int .i64 0, .bool false, .int .i64 0, .bool false, .int .i64 0, .slice none 0 0] : List Value).toArray 31)) ?_ (by kernel_rfl) ?_
      · exact hS.trans (b6.mono hS.size)
      refine ⟨?_, ?_, ?_, ?_, ?_, ?_, ?_, ?_, ?_, ?_, ?_, ?_⟩
      · exact (c0.up (by decide)).below b6
      · exact (c1.up (by decide)).below b6
      · exact (c2.up (by decide)).below b6
      · exact (b0.up (by decide) (by decide)).below b6
      · exact BoxF.new (j := 7) (s := 10) (no_store hn (by decide) h1 10 (by decide)) (by decide) hS.size [.int .u64 0, .int .u64 0, .int .u32 0, .int .i64 0, .int .i64 0, .int .i64 0, .int .i64 0, .int .i64 0, .int .i64 0, .int .i64 0, .bool false, .bool false, .bool false, .int .i64 0, .bool false, .int .i64 0, .bool false, .int .i64 0, .slice none 0 0] rfl
      · exact (b2.up (by decide) (by decide)).below b6
      · exact fun e _ => b0.ne (by rwa [upB_ne _ (by decide)] at e)
      · exact fun e => upB_imp (upB_imp q02 (by decide) e) (by decide)
      · exact fun _ e => (b2.ne (by rwa [upB_ne _ (by decide)] at e)).symm
      · exact store_up hn (by decide) h1 (by decide)
      · exact fun e => by rw [upB_ne _ (by decide)] at e ⊢; exact r1 e
      · exact fun e => by rw [upB_ne _ (by decide)] at e ⊢; exact r2 e
    refine StepsI.cons6 rfl (fun f z1 z2 z3 z4 z5 z6 w5 h1 h2 hS hJ => ?_) ?_
    · have c0 := hJ.1
      have c1 := hJ.2.1
      have c2 := hJ.2.2.1
      have b0 := hJ.2.2.2.1
      have b1 := hJ.2.2.2.2.1
      have b2 := hJ.2.2.2.2.2.1
      have q01 := hJ.2.2.2.2.2.2.1
      have q02 := hJ.2.2.2.2.2.2.2.1
      have q12 := hJ.2.2.2.2.2.2.2.2.1
      have hn := hJ.2.2.2.2.2.2.2.2.2.1
      have r1 := hJ.2.2.2.2.2.2.2.2.2.2.1
      have r2 := hJ.2.2.2.2.2.2.2.2.2.2.2
      clear hJ
      intro K hK
      try simp only [puts6]
      try simp only [Act.put, List.getElem_toArray, List.getElem_cons_succ, List.getElem_cons_zero, List.setIfInBounds_toArray, List.set_cons_succ, List.set_cons_zero]
      go_simp
      have b6 := new_below w5 (.cells ([.int .u64 0, .int .u64 0, .int .u32 0, .int .i64 0, .int .i64 0, .int .i64 0, .int .i64 0, .int .i64 0, .int .i64 0, .int .i64 0, .bool false, .bool false, .bool false, .int .i64 0, .bool false, .int .i64 0, .bool false, .int .i64 0, .slice none 0 0] : List Value).toArray 31)
      refine hK.out z1 z2 z3 z4 z5 (.pointer (some ⟨w5.heap.size, 0, none⟩)) _ (w5.alloc (.cells ([.int .u64 0, .int .u64 0, .int .u32 0, .int .i64 0, .int .i64 0, .int .i64 0, .int .i64 0, .int .i64 0, .int .i64 0, .int .i64 0, .bool false, .bool false, .bool false, .int .i64 0, .bool false, .int .i64 0, .bool false, .int .i64 0, .slice none 0 0] : List Value).toArray 31)) ?_ (by kernel_rfl) ?_
      · exact hS.trans (b6.mono hS.size)
      refine ⟨?_, ?_, ?_, ?_, ?_, ?_, ?_, ?_, ?_, ?_, ?_, ?_⟩
      · exact (c0.up (by decide)).below b6
      · exact (c1.up (by decide)).below b6
      · exact (c2.up (by decide)).below b6
      · exact (b0.up (by decide) (by decide)).below b6
      · exact (b1.up (by decide) (by decide)).below b6
      · exact BoxF.new (j := 8) (s := 11) (no_store hn (by decide) h1 11 (by decide)) (by decide) hS.size [.int .u64 0, .int .u64 0, .int .u32 0, .int .i64 0, .int .i64 0, .int .i64 0, .int .i64 0, .int .i64 0, .int .i64 0, .int .i64 0, .bool false, .bool false, .bool false, .int .i64 0, .bool false, .int .i64 0, .bool false, .int .i64 0, .slice none 0 0] rfl
      · exact fun e => upB_imp (upB_imp q01 (by decide) e) (by decide)
      · exact fun e _ => b0.ne (by rwa [upB_ne _ (by decide)] at e)
      · exact fun e _ => b1.ne (by rwa [upB_ne _ (by decide)] at e)
      · exact store_up hn (by decide) h1 (by decide)
      · exact fun e => by rw [upB_ne _ (by decide)] at e ⊢; exact r1 e
      · exact fun e => by rw [upB_ne _ (by decide)] at e ⊢; exact r2 e
    refine StepsI.store6 rfl 31 (.tmp 3) (.tmp 15) (by kernel_rfl) (by kernel_rfl) (by kernel_rfl) (fun f z1 z2 z3 z4 z5 z6 w5 h1 h2 hS hJ => ?_) ?_
    · have c0 := hJ.1
      have c1 := hJ.2.1
      have c2 := hJ.2.2.1
      have b0 := hJ.2.2.2.1
      have b1 := hJ.2.2.2.2.1
      have b2 := hJ.2.2.2.2.2.1
      have q01 := hJ.2.2.2.2.2.2.1
      have q02 := hJ.2.2.2.2.2.2.2.1
      have q12 := hJ.2.2.2.2.2.2.2.2.1
      have hn := hJ.2.2.2.2.2.2.2.2.2.1
      have r1 := hJ.2.2.2.2.2.2.2.2.2.2.1
      have r2 := hJ.2.2.2.2.2.2.2.2.2.2.2
      clear hJ
      have hall : ∀ c ∈ ([1, 3, 5, 6, 7, 8] : List Nat), f c = true := by
        intro c hc
        simp only [List.mem_cons, List.not_mem_nil, or_false] at hc
        rcases hc with rfl | rfl | rfl | rfl | rfl | rfl
        · exact (r1 (r2 (after_at h2 5 (by kernel_rfl))))
        · exact (r2 (after_at h2 5 (by kernel_rfl)))
        · exact (after_at h2 5 (by kernel_rfl))
        · exact after_at h2 6 (by kernel_rfl)
        · exact after_at h2 7 (by kernel_rfl)
        · exact after_at h2 8 (by kernel_rfl)
      obtain ⟨g, cs, hg1, hg2, hg3, hg4, -⟩ := b0 (hall 6 (by decide))
      obtain ⟨D, cap', hv, hz, hr⟩ := c0 (hall 1 (by decide))
      subst hv
      subst hg1
      refine ⟨g, lT (selectT t L) D n cap', cs, by kernel_rfl, by kernel_rfl, hg3, hg4.trans rfl, by kernel_rfl, by kernel_rfl, below_setRow hS hg2 _, ?_⟩
      refine ⟨?_, ?_, ?_, ?_, ?_, ?_, ?_, ?_, ?_, ?_, ?_, ?_⟩
      · exact (c0.up (by decide)).row hg3
      · exact (c1.up (by decide)).row hg3
      · exact (c2.up (by decide)).row hg3
      · exact BoxF.fill hg2 hg3 rfl rfl
      · exact (b1.up (by decide) (by decide)).far (fun e => q01 (hall 6 (by decide)) (hall 7 (by decide)) e.symm)
      · exact (b2.up (by decide) (by decide)).far (fun e => q02 (hall 6 (by decide)) (hall 8 (by decide)) e.symm)
      · exact fun e => upB_imp (upB_imp q01 (by decide) e) (by decide)
      · exact fun e => upB_imp (upB_imp q02 (by decide) e) (by decide)
      · exact fun e => upB_imp (upB_imp q12 (by decide) e) (by decide)
      · exact store_at hall (by decide)
      · exact fun e => by rw [upB_ne _ (by decide)] at e ⊢; exact r1 e
      · exact fun e => by rw [upB_ne _ (by decide)] at e ⊢; exact r2 e
    refine StepsI.store6 rfl 31 (.tmp 4) (.tmp 17) (by kernel_rfl) (by kernel_rfl) (by kernel_rfl) (fun f z1 z2 z3 z4 z5 z6 w5 h1 h2 hS hJ => ?_) ?_
    · have c0 := hJ.1
      have c1 := hJ.2.1
      have c2 := hJ.2.2.1
      have b0 := hJ.2.2.2.1
      have b1 := hJ.2.2.2.2.1
      have b2 := hJ.2.2.2.2.2.1
      have q01 := hJ.2.2.2.2.2.2.1
      have q02 := hJ.2.2.2.2.2.2.2.1
      have q12 := hJ.2.2.2.2.2.2.2.2.1
      have hn := hJ.2.2.2.2.2.2.2.2.2.1
      have r1 := hJ.2.2.2.2.2.2.2.2.2.2.1
      have r2 := hJ.2.2.2.2.2.2.2.2.2.2.2
      clear hJ
      have hall : ∀ c ∈ ([1, 3, 5, 6, 7, 8] : List Nat), f c = true := by
        exact hn 9 (by decide) (after_at h2 9 (by kernel_rfl))
      obtain ⟨g, cs, hg1, hg2, hg3, hg4, -⟩ := b1 (hall 7 (by decide))
      obtain ⟨D, cap', hv, hz, hr⟩ := c1 (hall 3 (by decide))
      subst hv
      subst hg1
      refine ⟨g, lT (t) D n cap', cs, by kernel_rfl, by kernel_rfl, hg3, hg4.trans rfl, by kernel_rfl, by kernel_rfl, below_setRow hS hg2 _, ?_⟩
      refine ⟨?_, ?_, ?_, ?_, ?_, ?_, ?_, ?_, ?_, ?_, ?_, ?_⟩
      · exact (c0.up (by decide)).row hg3
      · exact (c1.up (by decide)).row hg3
      · exact (c2.up (by decide)).row hg3
      · exact (b0.up (by decide) (by decide)).far (q01 (hall 6 (by decide)) (hall 7 (by decide)))
      · exact BoxF.fill hg2 hg3 rfl rfl
      · exact (b2.up (by decide) (by decide)).far (fun e => q12 (hall 7 (by decide)) (hall 8 (by decide)) e.symm)
      · exact fun e => upB_imp (upB_imp q01 (by decide) e) (by decide)
      · exact fun e => upB_imp (upB_imp q02 (by decide) e) (by decide)
      · exact fun e => upB_imp (upB_imp q12 (by decide) e) (by decide)
      · exact store_at hall (by decide)
      · exact fun e => by rw [upB_ne _ (by decide)] at e ⊢; exact r1 e
      · exact fun e => by rw [upB_ne _ (by decide)] at e ⊢; exact r2 e
    refine StepsI.store6 rfl 31 (.tmp 5) (.tmp 19) (by kernel_rfl) (by kernel_rfl) (by kernel_rfl) (fun f z1 z2 z3 z4 z5 z6 w5 h1 h2 hS hJ => ?_) ?_
    · have c0 := hJ.1
      have c1 := hJ.2.1
      have c2 := hJ.2.2.1
      have b0 := hJ.2.2.2.1
      have b1 := hJ.2.2.2.2.1
      have b2 := hJ.2.2.2.2.2.1
      have q01 := hJ.2.2.2.2.2.2.1
      have q02 := hJ.2.2.2.2.2.2.2.1
      have q12 := hJ.2.2.2.2.2.2.2.2.1
      have hn := hJ.2.2.2.2.2.2.2.2.2.1
      have r1 := hJ.2.2.2.2.2.2.2.2.2.2.1
      have r2 := hJ.2.2.2.2.2.2.2.2.2.2.2
      clear hJ
      have hall : ∀ c ∈ ([1, 3, 5, 6, 7, 8] : List Nat), f c = true := by
        exact hn 10 (by decide) (after_at h2 10 (by kernel_rfl))
      obtain ⟨g, cs, hg1, hg2, hg3, hg4, -⟩ := b2 (hall 8 (by decide))
      obtain ⟨D, cap', hv, hz, hr⟩ := c2 (hall 5 (by decide))
      subst hv
      subst hg1
      refine ⟨g, lT (selectT t L) D n cap', cs, by kernel_rfl, by kernel_rfl, hg3, hg4.trans rfl, by kernel_rfl, by kernel_rfl, below_setRow hS hg2 _, ?_⟩
      refine ⟨?_, ?_, ?_, ?_, ?_, ?_, ?_, ?_, ?_, ?_, ?_, ?_⟩
      · exact (c0.up (by decide)).row hg3
      · exact (c1.up (by decide)).row hg3
      · exact (c2.up (by decide)).row hg3
      · exact (b0.up (by decide) (by decide)).far (q02 (hall 6 (by decide)) (hall 8 (by decide)))
      · exact (b1.up (by decide) (by decide)).far (q12 (hall 7 (by decide)) (hall 8 (by decide)))
      · exact BoxF.fill hg2 hg3 rfl rfl
      · exact fun e => upB_imp (upB_imp q01 (by decide) e) (by decide)
      · exact fun e => upB_imp (upB_imp q02 (by decide) e) (by decide)
      · exact fun e => upB_imp (upB_imp q12 (by decide) e) (by decide)
      · exact store_at hall (by decide)
      · exact fun e => by rw [upB_ne _ (by decide)] at e ⊢; exact r1 e
      · exact fun e => by rw [upB_ne _ (by decide)] at e ⊢; exact r2 e
    exact StepsI.nil
    intro f z1 z2 z3 z4 z5 z6 w5 hall hS hJ
    obtain ⟨c0, c1, c2, b0, b1, b2, q01, q02, q12, hn, r1, r2⟩ := hJ
    obtain ⟨D0, cap0, hv0, hz0, hr0⟩ := c0 (hall 1 (Nat.le_of_ble_eq_true (by kernel_rfl)))
    obtain ⟨g0, cs0, hp0, hB0, hk0, -, hf0⟩ := b0 (hall 6 (Nat.le_of_ble_eq_true (by kernel_rfl)))
    have hf0 := hf0 (hall 9 (Nat.le_of_ble_eq_true (by kernel_rfl)))
    rw [hv0] at hf0
    obtain rfl : cs0 = lT (selectT t L) D0 n cap0 := by injection hf0 with q; injection q with q; exact q.symm
    obtain ⟨D1, cap1, hv1, hz1, hr1⟩ := c1 (hall 3 (Nat.le_of_ble_eq_true (by kernel_rfl)))
    obtain ⟨g1, cs1, hp1, hB1, hk1, -, hf1⟩ := b1 (hall 7 (Nat.le_of_ble_eq_true (by kernel_rfl)))
    have hf1 := hf1 (hall 10 (Nat.le_of_ble_eq_true (by kernel_rfl)))
    rw [hv1] at hf1
    obtain rfl : cs1 = lT (t) D1 n cap1 := by injection hf1 with q; injection q with q; exact q.symm
    obtain ⟨D2, cap2, hv2, hz2, hr2⟩ := c2 (hall 5 (Nat.le_of_ble_eq_true (by kernel_rfl)))
    obtain ⟨g2, cs2, hp2, hB2, hk2, -, hf2⟩ := b2 (hall 8 (Nat.le_of_ble_eq_true (by kernel_rfl)))
    have hf2 := hf2 (hall 11 (Nat.le_of_ble_eq_true (by kernel_rfl)))
    rw [hv2] at hf2
    obtain rfl : cs2 = lT (selectT t L) D2 n cap2 := by injection hf2 with q; injection q with q; exact q.symm
    have hn01 : g0 ≠ g1 := fun e => q01 (hall 6 (Nat.le_of_ble_eq_true (by kernel_rfl))) (hall 7 (Nat.le_of_ble_eq_true (by kernel_rfl))) (by rw [hp0, hp1, e])
    have hn02 : g0 ≠ g2 := fun e => q02 (hall 6 (Nat.le_of_ble_eq_true (by kernel_rfl))) (hall 8 (Nat.le_of_ble_eq_true (by kernel_rfl))) (by rw [hp0, hp2, e])
    have hn12 : g1 ≠ g2 := fun e => q12 (hall 7 (Nat.le_of_ble_eq_true (by kernel_rfl))) (hall 8 (Nat.le_of_ble_eq_true (by kernel_rfl))) (by rw [hp1, hp2, e])
    subst hp0 hv0 hp1 hv1 hp2 hv2
    clear c0 b0 hf0 c1 b1 hf1 c2 b2 hf2 q01 q02 q12 hn r1 r2 hall hHeld

    have S5 : Hs w ([(g0, 31, lT (selectT t L) D0 n cap0), (g1, 31, lT t D1 n cap1), (g2, 31, lT (selectT t L) D2 n cap2)] ++ _) w5 := S2.join (hs_box3 hS hk0 hB0 hk1 hB1 hk2 hB2 hn01 hn02 hn12)
    simp only [List.cons_append, List.nil_append] at S5
    have P0 := Lib.hid hr0
    have P1 := Lib.hid hr1
    have P2 := Lib.hid hr2
    simp only [puts6, Act.put, List.getElem_toArray, List.getElem_cons_succ, List.getElem_cons_zero, List.setIfInBounds_toArray, List.set_cons_succ, List.set_cons_zero]
    clear S2 hS hk0 hk1 hk2 hB0 hB1 hB2 hr0 hr1 hr2 hn01 hn02 hn12 HS1 HS2 HS3 hz0 hz1 hz2
    have hld : ∀ t' : Th, (desL t' L).length = n := fun t' => by rw [desL_len, HL.out]
    have HR1 := fun W (h : Below w.heap.size w W) => Lib.hid (rselect_is t A n cap L HL hn2 HB HU HCZ W (Lib.hid ((HP.out.below h (Nat.le_refl _)).wide h.size)))
    have HR2 := fun W (h : Below w.heap.size w W) => Lib.hid (rdesig_all t A n cap L HL hn2 HCZ W (Lib.hid ((HP.out.below h (Nat.le_refl _)).wide h.size)))
    have HR3 := fun D c' (hz : Hid (D = none → c' = 0)) W (h : RowT W D L) => Lib.hid (rdesig_all (selectT t L) D n c' L HL hn2 hz W (Lib.hid h.ports))
    have HM1 := fun D c' W (b : Below w5.heap.size w5 W) (h : RowT W D L) => Lib.hid (rsame_alike (selectT t L) D0 D n cap0 c' L HL hn2 W (Lib.hid (P0.out.below b).ports) (Lib.hid h.ports))
    have HM2 := fun D c' W (b : Below w5.heap.size w5 W) (h : RowT W D (desL t L)) => Lib.hid (rsame_alike t D1 D n cap1 c' (desL t L) (Lib.hid (hld _)) hn2 W (Lib.hid (P1.out.below b).ports) (Lib.hid h.ports))
    have HM3 := fun D c' W (b : Below w5.heap.size w5 W) (h : RowT W D (desL (selectT t L) L)) => Lib.hid (rsame_alike (selectT t L) D2 D n cap2 c' (desL (selectT t L) L) (Lib.hid (hld _)) hn2 W (Lib.hid (P2.out.below b).ports) (Lib.hid h.ports))
    obtain ⟨q, hq⟩ : ∃ q, decide (t.ro = t.ow) = q := ⟨_, rfl⟩
    have hq2 : (t.ro == t.ow) = q := by rw [← hq]; exact Bool.eq_iff_iff.2 (by simp)
    have HI := fun W => Lib.hid (isroot_is t A n cap q (Lib.hid hq) W)
    have HT := fun W => Lib.hid (telling_is t A n cap W)
    have HE := fun W => vec_eq t.ro t.co t.ow 0 t.ro t.co t.ow 0 true (by simp) W
    clear hq hld
    go_upto_region 4 with fail
    refine wp_region_held_drew (S := (fun w' => Below w5.heap.size w5 w')) (by kernel_rfl) ((Below.refl _ _).drew) (fun hHeld => ?_)
    refine wpAnyH_take (i := 0) (v := _) rfl (by kernel_rfl) (by kernel_rfl) (by kernel_rfl) (fun _ _ _ h => h) (Or.inl ⟨by kernel_rfl, fun w' hSw => exec_load_row 31 _ rfl g0 (by kernel_rfl) _ _ (0, 0) _ (((S5.below hSw).bk 0 rfl)) Try.underlying31 rfl (by kernel_rfl)⟩) (by assumption) ?_
    try simp only [Act.put, List.setIfInBounds_toArray, List.set_cons_succ]
    refine wpAnyH_take (i := 1) (v := _) rfl (by kernel_rfl) (by kernel_rfl) (by kernel_rfl) (fun _ _ _ h => h) (Or.inl ⟨by kernel_rfl, fun w' hSw => exec_load_row 31 _ rfl X (by kernel_rfl) _ _ (0, 0) _ (((S5.below hSw).bk 3 rfl)) Try.underlying31 rfl (by kernel_rfl)⟩) (by assumption) ?_
    try simp only [Act.put, List.setIfInBounds_toArray, List.set_cons_succ]
    refine wpAnyH_ready (rs := [2]) (by kernel_rfl) (by simp) ?_
    refine AllReadyH.cons rfl (fun K hK => ?_) AllReadyH.nil
    go_simp
    (with_reducible refine (HR1 _ (S5.old.trans (hHeld.mono S5.old.size))).out.mono ?_); rintro e v3 ⟨E3, ec3, rfl, ez3, ek3⟩
    have Q3 := ek3.rowT
    refine hK.out _ _ (hHeld.trans ((ek3.old).mono hHeld.size)) (fun hHeld => ?_)
    clear hK K
    try simp only [Act.put, List.getElem_toArray, List.getElem_cons_succ, List.getElem_cons_zero, List.setIfInBounds_toArray, List.set_cons_succ, List.set_cons_zero]
    refine wpAnyH_ready (rs := [3]) (by kernel_rfl) (by simp) ?_
    refine AllReadyH.cons rfl (fun K hK => ?_) AllReadyH.nil
    go_simp
    (with_reducible refine (HM1 E3 ec3 _ (hHeld) Q3).out.mono ?_); rintro e v4 ⟨rfl, b4⟩
    refine hK.out _ _ (hHeld.trans ((b4).mono hHeld.size)) (fun hHeld => ?_)
    clear hK K
    try simp only [Act.put, List.getElem_toArray, List.getElem_cons_succ, List.getElem_cons_zero, List.setIfInBounds_toArray, List.set_cons_succ, List.set_cons_zero]
    refine wpAnyH_take (i := 4) (v := ?_) rfl (by kernel_rfl) (by kernel_rfl) (by kernel_rfl) (fun _ _ _ h => h) (Or.inl ⟨by kernel_rfl, ?_⟩) (by assumption) ?_
    rotate_left
    · intro w' hSw; (try dsimp only at hSw); go_simp; with_reducible rfl
    try simp only [Act.put, List.setIfInBounds_toArray, List.set_cons_succ]
    refine wpAnyH_take (i := 5) (v := _) rfl (by kernel_rfl) (by kernel_rfl) (by kernel_rfl) (fun _ _ _ h => h) (Or.inl ⟨by kernel_rfl, fun w' hSw => exec_load_row 31 _ rfl g1 (by kernel_rfl) _ _ (0, 0) _ (((S5.below hSw).bk 1 rfl)) Try.underlying31 rfl (by kernel_rfl)⟩) (by assumption) ?_
    try simp only [Act.put, List.setIfInBounds_toArray, List.set_cons_succ]
    refine wpAnyH_take (i := 6) (v := _) rfl (by kernel_rfl) (by kernel_rfl) (by kernel_rfl) (fun _ _ _ h => h) (Or.inl ⟨by kernel_rfl, fun w' hSw => exec_load_row 31 _ rfl X (by kernel_rfl) _ _ (0, 0) _ (((S5.below hSw).bk 3 rfl)) Try.underlying31 rfl (by kernel_rfl)⟩) (by assumption) ?_
    try simp only [Act.put, List.setIfInBounds_toArray, List.set_cons_succ]
    refine wpAnyH_ready (rs := [7]) (by kernel_rfl) (by simp) ?_
    refine AllReadyH.cons rfl (fun K hK => ?_) AllReadyH.nil
    go_simp
    (with_reducible refine (HR2 _ (S5.old.trans (hHeld.mono S5.old.size))).out.mono ?_); rintro e v5 ⟨E5, ec5, rfl, ez5, ek5⟩
    have Q5 := ek5.rowT
    refine hK.out _ _ (hHeld.trans ((ek5.old).mono hHeld.size)) (fun hHeld => ?_)
    clear hK K
    try simp only [Act.put, List.getElem_toArray, List.getElem_cons_succ, List.getElem_cons_zero, List.setIfInBounds_toArray, List.set_cons_succ, List.set_cons_zero]
    refine wpAnyH_ready (rs := [8]) (by kernel_rfl) (by simp) ?_
    refine AllReadyH.cons rfl (fun K hK => ?_) AllReadyH.nil
    go_simp
    (with_reducible refine (HM2 E5 ec5 _ (hHeld) Q5).out.mono ?_); rintro e v6 ⟨rfl, b6⟩
    refine hK.out _ _ (hHeld.trans ((b6).mono hHeld.size)) (fun hHeld => ?_)
    clear hK K
    try simp only [Act.put, List.getElem_toArray, List.getElem_cons_succ, List.getElem_cons_zero, List.setIfInBounds_toArray, List.set_cons_succ, List.set_cons_zero]
    refine wpAnyH_take (i := 9) (v := ?_) rfl (by kernel_rfl) (by kernel_rfl) (by kernel_rfl) (fun _ _ _ h => h) (Or.inl ⟨by kernel_rfl, ?_⟩) (by assumption) ?_
    rotate_left
    · intro w' hSw; (try dsimp only at hSw); go_simp; with_reducible rfl
    try simp only [Act.put, List.setIfInBounds_toArray, List.set_cons_succ]
    refine wpAnyH_take (i := 10) (v := ?_) rfl (by kernel_rfl) (by kernel_rfl) (by kernel_rfl) (fun _ _ _ h => h) (Or.inl ⟨by kernel_rfl, ?_⟩) (by assumption) ?_
    rotate_left
    · intro w' hSw; (try dsimp only at hSw); go_simp; with_reducible rfl
    try simp only [Act.put, List.getElem_toArray, List.getElem_cons_succ, List.getElem_cons_zero, List.setIfInBounds_toArray, List.set_cons_succ]
    refine wpAnyH_take (i := 11) (v := _) rfl (by kernel_rfl) (by kernel_rfl) (by kernel_rfl) (fun _ _ _ h => h) (Or.inl ⟨by kernel_rfl, fun w' hSw => exec_load_row 31 _ rfl g2 (by kernel_rfl) _ _ (0, 0) _ (((S5.below hSw).bk 2 rfl)) Try.underlying31 rfl (by kernel_rfl)⟩) (by assumption) ?_
    try simp only [Act.put, List.getElem_toArray, List.getElem_cons_succ, List.getElem_cons_zero, List.setIfInBounds_toArray, List.set_cons_succ]
    refine wpAnyH_take (i := 12) (v := _) rfl (by kernel_rfl) (by kernel_rfl) (by kernel_rfl) (fun _ _ _ h => h) (Or.inl ⟨by kernel_rfl, fun w' hSw => exec_load_row 31 _ rfl X (by kernel_rfl) _ _ (0, 0) _ (((S5.below hSw).bk 3 rfl)) Try.underlying31 rfl (by kernel_rfl)⟩) (by assumption) ?_
    try simp only [Act.put, List.getElem_toArray, List.getElem_cons_succ, List.getElem_cons_zero, List.setIfInBounds_toArray, List.set_cons_succ]
    refine wpAnyH_ready (rs := [13]) (by kernel_rfl) (by simp) ?_
    refine AllReadyH.cons rfl (fun K hK => ?_) AllReadyH.nil
    go_simp
    (with_reducible refine (HR1 _ (S5.old.trans (hHeld.mono S5.old.size))).out.mono ?_); rintro e v7 ⟨E7, ec7, rfl, ez7, ek7⟩
    have Q7 := ek7.rowT
    refine hK.out _ _ (hHeld.trans ((ek7.old).mono hHeld.size)) (fun hHeld => ?_)
    clear hK K
    try simp only [Act.put, List.getElem_toArray, List.getElem_cons_succ, List.getElem_cons_zero, List.setIfInBounds_toArray, List.set_cons_succ, List.set_cons_zero]
    refine wpAnyH_ready (rs := [14]) (by kernel_rfl) (by simp) ?_
    refine AllReadyH.cons rfl (fun K hK => ?_) AllReadyH.nil
    go_simp
    (with_reducible refine (HR3 E7 ec7 (Lib.hid ez7) _ Q7).out.mono ?_); rintro e v8 ⟨E8, ec8, rfl, ez8, ek8⟩
    have Q8 := ek8.rowT
    refine hK.out _ _ (hHeld.trans ((ek8.old).mono hHeld.size)) (fun hHeld => ?_)
    clear hK K
    try simp only [Act.put, List.getElem_toArray, List.getElem_cons_succ, List.getElem_cons_zero, List.setIfInBounds_toArray, List.set_cons_succ, List.set_cons_zero]
    refine wpAnyH_ready (rs := [15]) (by kernel_rfl) (by simp) ?_
    refine AllReadyH.cons rfl (fun K hK => ?_) AllReadyH.nil
    go_simp
    (with_reducible refine (HM3 E8 ec8 _ (hHeld) Q8).out.mono ?_); rintro e v9 ⟨rfl, b9⟩
    refine hK.out _ _ (hHeld.trans ((b9).mono hHeld.size)) (fun hHeld => ?_)
    clear hK K
    try simp only [Act.put, List.getElem_toArray, List.getElem_cons_succ, List.getElem_cons_zero, List.setIfInBounds_toArray, List.set_cons_succ, List.set_cons_zero]
    refine wpAnyH_take (i := 16) (v := ?_) rfl (by kernel_rfl) (by kernel_rfl) (by kernel_rfl) (fun _ _ _ h => h) (Or.inl ⟨by kernel_rfl, ?_⟩) (by assumption) ?_
    rotate_left
    · intro w' hSw; (try dsimp only at hSw); go_simp; with_reducible rfl
    try simp only [Act.put, List.getElem_toArray, List.getElem_cons_succ, List.getElem_cons_zero, List.setIfInBounds_toArray, List.set_cons_succ]
    refine wpAnyH_take (i := 17) (v := ?_) rfl (by kernel_rfl) (by kernel_rfl) (by kernel_rfl) (fun _ _ _ h => h) (Or.inl ⟨by kernel_rfl, ?_⟩) (by assumption) ?_
    rotate_left
    · intro w' hSw; (try dsimp only at hSw); go_simp; with_reducible rfl
    try simp only [Act.put, List.getElem_toArray, List.getElem_cons_succ, List.getElem_cons_zero, List.setIfInBounds_toArray, List.set_cons_succ]
    refine wpAnyH_take (i := 18) (v := _) rfl (by kernel_rfl) (by kernel_rfl) (by kernel_rfl) (fun _ _ _ h => h) (Or.inl ⟨by kernel_rfl, fun w' hSw => exec_load_row 31 _ rfl X (by kernel_rfl) _ _ (0, 0) _ (((S5.below hSw).bk 3 rfl)) Try.underlying31 rfl (by kernel_rfl)⟩) (by assumption) ?_
    try simp only [Act.put, List.getElem_toArray, List.getElem_cons_succ, List.getElem_cons_zero, List.setIfInBounds_toArray, List.set_cons_succ]
    refine wpAnyH_take (i := 20) (v := ?_) rfl (by kernel_rfl) (by kernel_rfl) (by kernel_rfl) (fun _ _ _ h => h) (Or.inl ⟨by kernel_rfl, ?_⟩) (by assumption) ?_
    rotate_left
    · intro w' hSw; (try dsimp only at hSw); go_simp; with_reducible rfl
    try simp only [Act.put, List.getElem_toArray, List.getElem_cons_succ, List.getElem_cons_zero, List.setIfInBounds_toArray, List.set_cons_succ]
    refine wpAnyH_take (i := 21) (v := ?_) rfl (by kernel_rfl) (by kernel_rfl) (by kernel_rfl) (fun _ _ _ h => h) (Or.inl ⟨by kernel_rfl, ?_⟩) (by assumption) ?_
    rotate_left
    · intro w' hSw; (try dsimp only at hSw); have c0 := (S5.below hSw).cell 3 1 rfl rfl; go_simp; with_reducible rfl
    try simp only [Act.put, List.getElem_toArray, List.getElem_cons_succ, List.getElem_cons_zero, List.setIfInBounds_toArray, List.set_cons_succ]
    refine wpAnyH_take (i := 22) (v := ?_) rfl (by kernel_rfl) (by kernel_rfl) (by kernel_rfl) (fun _ _ _ h => h) (Or.inl ⟨by kernel_rfl, ?_⟩) (by assumption) ?_
    rotate_left
    · intro w' hSw; (try dsimp only at hSw); go_simp; with_reducible rfl
    try simp only [Act.put, List.getElem_toArray, List.getElem_cons_succ, List.getElem_cons_zero, List.setIfInBounds_toArray, List.set_cons_succ]
    refine wpAnyH_take (i := 23) (v := ?_) rfl (by kernel_rfl) (by kernel_rfl) (by kernel_rfl) (fun _ _ _ h => h) (Or.inl ⟨by kernel_rfl, ?_⟩) (by assumption) ?_
    rotate_left
    · intro w' hSw; (try dsimp only at hSw); have c0 := (S5.below hSw).cell 3 0 rfl rfl; go_simp; with_reducible rfl
    try simp only [Act.put, List.getElem_toArray, List.getElem_cons_succ, List.getElem_cons_zero, List.setIfInBounds_toArray, List.set_cons_succ]
    refine wpAnyH_take (i := 24) (v := ?_) rfl (by kernel_rfl) (by kernel_rfl) (by kernel_rfl) (fun _ _ _ h => h) (Or.inl ⟨by kernel_rfl, ?_⟩) (by assumption) ?_
    rotate_left
    · intro w' hSw; (try dsimp only at hSw); go_simp; with_reducible rfl
    try simp only [Act.put, List.getElem_toArray, List.getElem_cons_succ, List.getElem_cons_zero, List.setIfInBounds_toArray, List.set_cons_succ]
    refine wpAnyH_ready (rs := [19]) (by kernel_rfl) (by simp) ?_
    refine AllReadyH.cons rfl (fun K hK => ?_) AllReadyH.nil
    go_simp
    (with_reducible refine (HI _).out.mono ?_); rintro e v10 ⟨rfl, b10⟩
    refine hK.out _ _ (hHeld.trans ((b10).mono hHeld.size)) (fun hHeld => ?_)
    clear hK K
    try simp only [Act.put, List.getElem_toArray, List.getElem_cons_succ, List.getElem_cons_zero, List.setIfInBounds_toArray, List.set_cons_succ, List.set_cons_zero]
    refine wpAnyH_take (i := 25) (v := ?_) rfl (by kernel_rfl) (by kernel_rfl) (by kernel_rfl) (fun _ _ _ h => h) (Or.inl ⟨by kernel_rfl, ?_⟩) (by assumption) ?_
    rotate_left
    · intro w' hSw; (try dsimp only at hSw); go_simp; with_reducible rfl
    try simp only [Act.put, List.getElem_toArray, List.getElem_cons_succ, List.getElem_cons_zero, List.setIfInBounds_toArray, List.set_cons_succ]
    refine wpAnyH_take (i := 26) (v := ?_) rfl (by kernel_rfl) (by kernel_rfl) (by kernel_rfl) (fun _ _ _ h => h) (Or.inl ⟨by kernel_rfl, ?_⟩) (by assumption) ?_
    rotate_left
    · intro w' hSw; (try dsimp only at hSw); go_simp; with_reducible rfl
    try simp only [Act.put, List.getElem_toArray, List.getElem_cons_succ, List.getElem_cons_zero, List.setIfInBounds_toArray, List.set_cons_succ]
    refine wpAnyH_take (i := 27) (v := ?_) rfl (by kernel_rfl) (by kernel_rfl) (by kernel_rfl) (fun _ _ _ h => h) (Or.inl ⟨by kernel_rfl, ?_⟩) (by assumption) ?_
    rotate_left
    · intro w' hSw; (try dsimp only at hSw); go_simp; with_reducible rfl
    try simp only [Act.put, List.getElem_toArray, List.getElem_cons_succ, List.getElem_cons_zero, List.setIfInBounds_toArray, List.set_cons_succ]
    refine wpAnyH_take (i := 28) (v := _) rfl (by kernel_rfl) (by kernel_rfl) (by kernel_rfl) (fun _ _ _ h => h) (Or.inl ⟨by kernel_rfl, fun w' hSw => exec_load_row 31 _ rfl X (by kernel_rfl) _ _ (0, 0) _ (((S5.below hSw).bk 3 rfl)) Try.underlying31 rfl (by kernel_rfl)⟩) (by assumption) ?_
    try simp only [Act.put, List.getElem_toArray, List.getElem_cons_succ, List.getElem_cons_zero, List.setIfInBounds_toArray, List.set_cons_succ]
    refine wpAnyH_take (i := 30) (v := ?_) rfl (by kernel_rfl) (by kernel_rfl) (by kernel_rfl) (fun _ _ _ h => h) (Or.inl ⟨by kernel_rfl, ?_⟩) (by assumption) ?_
    rotate_left
    · intro w' hSw; (try dsimp only at hSw); go_simp; with_reducible rfl
    try simp only [Act.put, List.getElem_toArray, List.getElem_cons_succ, List.getElem_cons_zero, List.setIfInBounds_toArray, List.set_cons_succ]
    refine wpAnyH_take (i := 31) (v := ?_) rfl (by kernel_rfl) (by kernel_rfl) (by kernel_rfl) (fun _ _ _ h => h) (Or.inl ⟨by kernel_rfl, ?_⟩) (by assumption) ?_
    rotate_left
    · intro w' hSw; (try dsimp only at hSw); have c0 := (S5.below hSw).cell 3 1 rfl rfl; go_simp; with_reducible rfl
    try simp only [Act.put, List.getElem_toArray, List.getElem_cons_succ, List.getElem_cons_zero, List.setIfInBounds_toArray, List.set_cons_succ]
    refine wpAnyH_take (i := 32) (v := ?_) rfl (by kernel_rfl) (by kernel_rfl) (by kernel_rfl) (fun _ _ _ h => h) (Or.inl ⟨by kernel_rfl, ?_⟩) (by assumption) ?_
    rotate_left
    · intro w' hSw; (try dsimp only at hSw); go_simp; with_reducible rfl
    try simp only [Act.put, List.getElem_toArray, List.getElem_cons_succ, List.getElem_cons_zero, List.setIfInBounds_toArray, List.set_cons_succ]
    refine wpAnyH_take (i := 33) (v := ?_) rfl (by kernel_rfl) (by kernel_rfl) (by kernel_rfl) (fun _ _ _ h => h) (Or.inl ⟨by kernel_rfl, ?_⟩) (by assumption) ?_
    rotate_left
    · intro w' hSw; (try dsimp only at hSw); have c0 := (S5.below hSw).cell 3 2 rfl rfl; go_simp; with_reducible rfl
    try simp only [Act.put, List.getElem_toArray, List.getElem_cons_succ, List.getElem_cons_zero, List.setIfInBounds_toArray, List.set_cons_succ]
    refine wpAnyH_take (i := 34) (v := ?_) rfl (by kernel_rfl) (by kernel_rfl) (by kernel_rfl) (fun _ _ _ h => h) (Or.inl ⟨by kernel_rfl, ?_⟩) (by assumption) ?_
    rotate_left
    · intro w' hSw; (try dsimp only at hSw); go_simp; with_reducible rfl
    try simp only [Act.put, List.getElem_toArray, List.getElem_cons_succ, List.getElem_cons_zero, List.setIfInBounds_toArray, List.set_cons_succ]
    refine wpAnyH_take (i := 35) (v := ?_) rfl (by kernel_rfl) (by kernel_rfl) (by kernel_rfl) (fun _ _ _ h => h) (Or.inl ⟨by kernel_rfl, ?_⟩) (by assumption) ?_
    rotate_left
    · intro w' hSw; (try dsimp only at hSw); have c0 := (S5.below hSw).cell 3 0 rfl rfl; go_simp; with_reducible rfl
    try simp only [Act.put, List.getElem_toArray, List.getElem_cons_succ, List.getElem_cons_zero, List.setIfInBounds_toArray, List.set_cons_succ]
    refine wpAnyH_take (i := 36) (v := ?_) rfl (by kernel_rfl) (by kernel_rfl) (by kernel_rfl) (fun _ _ _ h => h) (Or.inl ⟨by kernel_rfl, ?_⟩) (by assumption) ?_
    rotate_left
    · intro w' hSw; (try dsimp only at hSw); go_simp; with_reducible rfl
    try simp only [Act.put, List.getElem_toArray, List.getElem_cons_succ, List.getElem_cons_zero, List.setIfInBounds_toArray, List.set_cons_succ]
    refine wpAnyH_ready (rs := [29]) (by kernel_rfl) (by simp) ?_
    refine AllReadyH.cons rfl (fun K hK => ?_) AllReadyH.nil
    go_simp
    (with_reducible refine (HT _).out.mono ?_); rintro e v11 ⟨rfl, b11⟩
    refine hK.out _ _ (hHeld.trans ((b11).mono hHeld.size)) (fun hHeld => ?_)
    clear hK K
    try simp only [Act.put, List.getElem_toArray, List.getElem_cons_succ, List.getElem_cons_zero, List.setIfInBounds_toArray, List.set_cons_succ, List.set_cons_zero]
    refine wpAnyH_take (i := 37) (v := ?_) rfl (by kernel_rfl) (by kernel_rfl) (by kernel_rfl) (fun _ _ _ h => h) (Or.inl ⟨by kernel_rfl, ?_⟩) (by assumption) ?_
    rotate_left
    · intro w' hSw; (try dsimp only at hSw); have c0 := HE w'; go_simp; with_reducible rfl
    try simp only [Act.put, List.getElem_toArray, List.getElem_cons_succ, List.getElem_cons_zero, List.setIfInBounds_toArray, List.set_cons_succ]
    refine wpAnyH_take (i := 38) (v := ?_) rfl (by kernel_rfl) (by kernel_rfl) (by kernel_rfl) (fun _ _ _ h => h) (Or.inl ⟨by kernel_rfl, ?_⟩) (by assumption) ?_
    rotate_left
    · intro w' hSw; (try dsimp only at hSw); go_simp; with_reducible rfl
    try simp only [Act.put, List.getElem_toArray, List.getElem_cons_succ, List.getElem_cons_zero, List.setIfInBounds_toArray, List.set_cons_succ]
    refine wpAnyH_take (i := 39) (v := ?_) rfl (by kernel_rfl) (by kernel_rfl) (by kernel_rfl) (fun _ _ _ h => h) (Or.inl ⟨by kernel_rfl, ?_⟩) (by assumption) ?_
    rotate_left
    · intro w' hSw; (try dsimp only at hSw); go_simp; with_reducible rfl
    try simp only [Act.put, List.getElem_toArray, List.getElem_cons_succ, List.getElem_cons_zero, List.setIfInBounds_toArray, List.set_cons_succ]

    refine wpAnyH_done (by kernel_rfl) ?_ _
    have S9 := S5.below hHeld
    go_wp2
    go_ret
    exact ⟨rfl, S9.old⟩

end Go.Proofs.Ytkdbhioneoknjaa
