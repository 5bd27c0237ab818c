/- The law TreeCopies, walked. -/
import Derived.Test.YtkdbhioneoknjaaTreeAwake
import Derived.Test.YtkdbhioneoknjaaTreeFit
import Derived.Test.YtkdbhioneoknjaaTreeUpdate
import Derived.Test.YtkdbhioneoknjaaTreeStates
import Derived.Test.YtkdbhioneoknjaaTreeSame
import Derived.Test.YtkdbhioneoknjaaTreeRefSame
import Derived.LoopTactic
namespace Go.Proofs.Ytkdbhioneoknjaa
open Go.ChangeShapes Go.WideShapes Go.ChangeAt Go.RowKit
set_option linter.unusedVariables false
set_option linter.unusedSimpArgs false

set_option maxRecDepth 100000 in
set_option maxHeartbeats 2000000 in
theorem TreeCopies_walk (t : Th) (A : Option Addr) (n cap : Nat) (L : List Po) (w : World) (ht : ThB t) (hL : L.length = n) (hn : n ≤ 9223372036854775807) (hz : A = none → cap = 0) (hb : ∀ x ∈ L, PoB x) (hp : PoAt w A w.heap.size L) :
    Calls Try.prog 7 #[.agg (lT t A n cap).toArray] w fun e w' => e = .returned (.bool true) ∧ Below w.heap.size w w' := by
  have HA := fun W => Lib.hid (awake_is W)
  have HB := Lib.hid hb
  have HTB := Lib.hid ht
  have HL := Lib.hid hL
  have HP := Lib.hid hp
  have HCZ := Lib.hid hz
  have HF := fun W (h : Below w.heap.size w W) => Lib.hid (fit_is t A n cap L HL hn W (Lib.hid ((HP.out.below h (Nat.le_refl _)).wide h.size)))
  clear hb hL hz hp ht hn
  obtain ⟨wb, hwb, S⟩ := hs_one w 31 (lT t A n cap)
  go_enter Try.func7, Try.ntmps7
  go_upto_region 1 with fail
  clear hwb
  obtain ⟨X, hX⟩ : ∃ X, w.heap.size = X := ⟨_, rfl⟩
  rw [hX] at S
  rw [hX]
  clear hX
  go_wp2_with fail
  (with_reducible refine (HA _).out.mono ?_); rintro e w1 ⟨rfl, b1⟩
  have S1 := S.below b1
  clear S b1
  have hx := S1.bk 0 rfl
  go_wp2_with (with_reducible refine wpList_load_rowG (by kernel_rfl) 31 (.tmp 1) rfl X (by kernel_rfl) _ _ (0, 0) _ hx Try.underlying31 rfl (by kernel_rfl) ?_)
  (with_reducible refine (HF _ S1.old).out.mono ?_); rintro e w2 ⟨q, rfl, hq, b2⟩
  have S2 := S1.below b2
  have HQ := Lib.hid hq
  clear S1 hx HF b2 hq
  cases q with
  | false =>
    go_wp2_with fail
    (with_reducible refine (HA _).out.mono ?_); rintro e w3 ⟨rfl, b3⟩
    have S3 := S2.below b3
    clear S2 b3
    go_wp2
    go_ret
    exact ⟨rfl, S3.old⟩
  | true =>
    have HN := Lib.hid (HQ.out rfl).1
    have HU := Lib.hid (HQ.out rfl).2
    clear HQ HA

    have hn2 : n ≤ 200 := by have := HN.out; omega
    have hx := S2.bk 0 rfl
    go_upto_region 4 with (first | (with_reducible refine wpList_load_row rfl 31 (.tmp 1) rfl X (by kernel_rfl) _ _ (0, 0) _ hx Try.underlying31 rfl (by kernel_rfl) ?_) | (refine wpList_store_row rfl 31 _ _ rfl _ _ rfl rfl _ _ (heap_alloc_new _ _) (by kernel_rfl) (by kernel_rfl) (by kernel_rfl) ?_))
    rw [alloc_row]
    have S3 := S2.al rfl 31 (lT t A n cap)
    obtain ⟨O, hO⟩ : ∃ O, w2.heap.size = O := ⟨_, rfl⟩
    rw [hO] at S3 ⊢
    obtain ⟨w3, hw3⟩ : ∃ w3, w2.alloc (.cells (lT t A n cap).toArray 31) = w3 := ⟨_, rfl⟩
    rw [hw3] at S3 ⊢
    clear hw3 S2 hO hx
    have SA := S3.al rfl 49 []
    have c18 := SA.cell 2 18 rfl rfl
    have hp1 := Lib.hid ((HP.out.below S3.old (Nat.le_refl _)).below ((Below.refl w3.heap.size w3).alloc (Nat.le_refl _) (.cells #[] 49)) S3.old.size)
    go_upto_region 5 with (at_builtin; refine append_po _ rfl (.tmp 20) (.tmp 22) rfl (.slice (some ⟨w3.heap.size, 0, none⟩) 0 0) rfl w3.heap.size ⟨rfl, .inr ⟨w3.heap.size, 0, #[], rfl, Nat.le_refl _, (MapKept.heap_alloc w3 _).1, Nat.le_refl _, Nat.zero_le _, rfl, rfl⟩⟩ A n cap L rfl w.heap.size hp1.out HL HCZ hn2 (by simp) w3 ((Below.refl _ _).alloc (Nat.le_refl _) _) ?_; intro D cap' w4 hown hb4 hz; have HZ := Lib.hid hz; have S4 := TS.take S3 (own_ts hb4 (Nat.le_refl _) hown); clear hown hb4 hz S3 SA c18 hp1; have c18 := S4.hs.cell 0 18 rfl rfl; have f18 := S4.hs.thaw 0 18 rfl)
    have S5 : TS w [(O, 31, lT t D n cap'), (X, 31, lT t A n cap)] D L _ := S4.set 0 rfl 18 (.slice D n cap')
    generalize w4.setCell ⟨O, 18, none⟩ (.slice D n cap') = u5 at S5 ⊢
    clear S4 c18 f18
    have PD := S5.ports
    have HC := Lib.hid (tcopy_is t D n cap' L HL hn2 HZ u5 (Lib.hid PD))
    have hx := S5.hs.bk 0 rfl
    go_wp2_with (with_reducible refine wpList_load_row rfl 31 (.tmp 3) rfl O (by kernel_rfl) _ _ (0, 0) _ hx Try.underlying31 rfl (by kernel_rfl) ?_)
    (with_reducible refine HC.out.mono ?_); rintro e w6 ⟨D2, cap2, rfl, hz2, k6⟩
    have HH := Lib.hid S5.hs
    have PDH := Lib.hid PD
    clear hx HC S5 PD hz2
    go_upto_region 6 with (refine wpList_store_row rfl 31 _ _ rfl _ _ rfl rfl _ _ (heap_alloc_new _ _) (by kernel_rfl) (by kernel_rfl) (by kernel_rfl) ?_)
    rw [alloc_row]
    have S7 := k6.al rfl 31 (lT t D2 n cap2)
    obtain ⟨C, hC⟩ : ∃ C, w6.heap.size = C := ⟨_, rfl⟩
    rw [hC] at S7 ⊢
    obtain ⟨w7, hw7⟩ : ∃ w7, w6.alloc (.cells (lT t D2 n cap2).toArray 31) = w7 := ⟨_, rfl⟩
    rw [hw7] at S7 ⊢
    clear hw7 k6 hC
    have HSM := Lib.hid (same_alike t D2 A n cap2 cap L HL hn2 w7 (Lib.hid S7.ports) (Lib.hid ((HP.out.below (HH.out.old.trans (S7.old.mono HH.out.old.size)) (Nat.le_refl _)).wide (Nat.le_trans HH.out.old.size S7.old.size))))
    have hx := S7.hs.bk 0 rfl
    have hy := (HH.out.below S7.old).bk 1 rfl
    go_wp2_with (first | (with_reducible refine wpList_load_row rfl 31 (.tmp 4) rfl C (by kernel_rfl) _ _ (0, 0) _ hx Try.underlying31 rfl (by kernel_rfl) ?_) | (with_reducible refine wpList_load_row rfl 31 (.tmp 1) rfl X (by kernel_rfl) _ _ (0, 0) _ hy Try.underlying31 rfl (by kernel_rfl) ?_))
    (with_reducible refine HSM.out.mono ?_); rintro e w8 ⟨rfl, b8⟩
    have S8 := S7.below b8
    clear S7 hx hy HSM b8
    have HSR := Lib.hid (rsame_alike t D2 A n cap2 cap L HL hn2 w8 (Lib.hid S8.ports) (Lib.hid ((HP.out.below (HH.out.old.trans (S8.old.mono HH.out.old.size)) (Nat.le_refl _)).wide (Nat.le_trans HH.out.old.size S8.old.size))))
    have hx := S8.hs.bk 0 rfl
    have hy := (HH.out.below S8.old).bk 1 rfl
    go_wp2_with (first | (with_reducible refine wpList_load_rowG (by kernel_rfl) 31 (.tmp 4) rfl C (by kernel_rfl) _ _ (0, 0) _ hx Try.underlying31 rfl (by kernel_rfl) ?_) | (with_reducible refine wpList_load_rowG (by kernel_rfl) 31 (.tmp 1) rfl X (by kernel_rfl) _ _ (0, 0) _ hy Try.underlying31 rfl (by kernel_rfl) ?_))
    (with_reducible refine HSR.out.mono ?_); rintro e w9 ⟨rfl, b9⟩
    have S9 := S8.below b9
    clear S8 hx hy HSR b9
    go_wp2
    go_loopw [5] (fun i wr => ∃ (k : Nat) (M : List Po), k ≤ n ∧ i = .int .i64 k ∧ M.length = n ∧ TS u5 [(C, 31, lT t D2 n cap2)] D2 M wr) (fun i _ => n - (intOf i).toNat)
    case atStart => exact ⟨0, L, Nat.zero_le _, rfl, HL.out, S9⟩
    case round =>
      clear S9
      obtain ⟨k, M, hk, rfl, hM, S⟩ := hrel
      have c18 := S.hs.cell 0 18 rfl rfl
      by_cases hkn : k < n
      · obtain ⟨x, hx⟩ := po_at hM hkn
        have hki : (k : Int) < (n : Int) := by omega
        have hkz : ¬ (n : Int) ≤ (k : Int) := by omega
        have HM := Lib.hid hM
        have HX := Lib.hid hx
        obtain ⟨g, hD, -⟩ := S.at hx
        subst hD
        have p1 := S.port_cell hx 1 rfl
        obtain ⟨_, e', _, _, hfz⟩ := S.at hx
        cases e'
        have f1 := hfz (k * 15 + 1)
        have T9 := S.put (y := { x with st := 9 }) hx 1 [.int .i64 9] (by decide) rfl
        have T8 : TS u5 _ _ _ (wr.setCell ⟨g, k * 15 + 1, none⟩ (.int .i64 9)) := T9
        clear hM hx hfz T9
        go_wp2
        go_roundw
        case rel => exact ⟨k + 1, _, by omega, by go_num, by rw [List.length_set]; exact HM.out, T8⟩
        case measure => simp [intOf]; omega
      · have hkz : ¬ (k : Int) < (n : Int) := by omega
        have B7 : Below w.heap.size w wr := HH.out.old.trans (S.old.mono HH.out.old.size)
        have BW := S.old
        have hki : ¬ (k : Int) < (n : Int) := hkz
        have HS1 := fun W (h : Below u5.heap.size u5 W) => Lib.hid (show Calls _ _ _ W (TOut W (selectT t L) n (desL (selectT t L) L)) from update_is t D n cap' L HL hn2 HB HZ W (Lib.hid ((PDH.out.below h (Nat.le_refl _)).wide h.size)))
        have HS2 := fun W (h : Below u5.heap.size u5 W) => Lib.hid (desig_all t D n cap' L HL hn2 HZ W (Lib.hid ((PDH.out.below h (Nat.le_refl _)).wide h.size)))
        have HS3 := fun W (h : Below u5.heap.size u5 W) => Lib.hid (select_is t D n cap' L HL hn2 HB HZ W (Lib.hid ((PDH.out.below h (Nat.le_refl _)).wide h.size)))
        have SW := HH.out.below BW
        go_upto_region 12 with fail
        clear c18 hkn hki hkz
        refine wp_region_held_drew (S := (fun w' => Below wr.heap.size wr w')) (by kernel_rfl) ((Below.refl _ _).drew) (fun hHeld => ?_)
        refine wpAnyH_take (i := 0) (v := _) rfl (by kernel_rfl) (by kernel_rfl) (by kernel_rfl) (fun _ _ _ h => h) (Or.inl ⟨by kernel_rfl, fun w' hSw => exec_load_row 31 _ rfl O (by kernel_rfl) _ _ (0, 0) _ (((SW.below hSw).bk 0 rfl)) Try.underlying31 rfl (by kernel_rfl)⟩) (by assumption) ?_
        try simp only [Act.put, List.setIfInBounds_toArray, List.set_cons_succ]
        refine wpAnyH_take (i := 2) (v := _) rfl (by kernel_rfl) (by kernel_rfl) (by kernel_rfl) (fun _ _ _ h => h) (Or.inl ⟨by kernel_rfl, fun w' hSw => exec_load_row 31 _ rfl O (by kernel_rfl) _ _ (0, 0) _ (((SW.below hSw).bk 0 rfl)) Try.underlying31 rfl (by kernel_rfl)⟩) (by assumption) ?_
        try simp only [Act.put, List.setIfInBounds_toArray, List.set_cons_succ]
        refine wpAnyH_take (i := 4) (v := _) rfl (by kernel_rfl) (by kernel_rfl) (by kernel_rfl) (fun _ _ _ h => h) (Or.inl ⟨by kernel_rfl, fun w' hSw => exec_load_row 31 _ rfl O (by kernel_rfl) _ _ (0, 0) _ (((SW.below hSw).bk 0 rfl)) Try.underlying31 rfl (by kernel_rfl)⟩) (by assumption) ?_
        try simp only [Act.put, List.setIfInBounds_toArray, List.set_cons_succ]
        refine wpAnyH_by6 50 52 54 6 7 8 (fun f z1 z2 z3 z4 z5 z6 w' => CallF f 1 (selectT t L) n (desL (selectT t L) L) w' z1 ∧ CallF f 3 (t) n (desL t L) w' z2 ∧ CallF f 5 (selectT t L) n (L) w' z3 ∧ BoxF f 6 9 31 19 wr.heap.size w' z4 z1 ∧ BoxF f 7 10 31 19 wr.heap.size w' z5 z2 ∧ BoxF f 8 11 31 19 wr.heap.size w' z6 z3 ∧ (f 6 = true → f 7 = true → z4 ≠ z5) ∧ (f 6 = true → f 8 = true → z4 ≠ z6) ∧ (f 7 = true → f 8 = true → z5 ≠ z6) ∧ (∀ s ∈ ([9, 10, 11] : List Nat), f s = true → ∀ c ∈ ([1, 3, 5, 6, 7, 8] : List Nat), f c = true) ∧ (f 3 = true → f 1 = true) ∧ (f 5 = true → f 3 = true)) (by kernel_rfl) [1, 3, 5, 6, 7, 8, 9, 10, 11] (by kernel_rfl) (by kernel_rfl) (by kernel_rfl) (by kernel_rfl) hHeld ⟨(off_imp rfl), (off_imp rfl), (off_imp rfl), (BoxF.off rfl), (BoxF.off rfl), (BoxF.off rfl), (off_imp rfl), (off_imp rfl), (off_imp rfl), (by intro s hs e; simp only [List.mem_cons, List.not_mem_nil, or_false] at hs; rcases hs with rfl | rfl | rfl <;> cases e), (off_imp rfl), (off_imp rfl)⟩ ?_ ?_
        rotate_left
        refine StepsI.cons6 rfl (fun f z1 z2 z3 z4 z5 z6 w5 h1 h2 hS hJ => ?_) ?_
        · have c0 := hJ.1
          have c1 := hJ.2.1
          have c2 := hJ.2.2.1
          have b0 := hJ.2.2.2.1
          have b1 := hJ.2.2.2.2.1
          have b2 := hJ.2.2.2.2.2.1
          have q01 := hJ.2.2.2.2.2.2.1
          have q02 := hJ.2.2.2.2.2.2.2.1
          have q12 := hJ.2.2.2.2.2.2.2.2.1
          have hn := hJ.2.2.2.2.2.2.2.2.2.1
          have r1 := hJ.2.2.2.2.2.2.2.2.2.2.1
          have r2 := hJ.2.2.2.2.2.2.2.2.2.2.2
          clear hJ
          intro K hK
          try simp only [puts6]
          try simp only [Act.put, List.getElem_toArray, List.getElem_cons_succ, List.getElem_cons_zero, List.setIfInBounds_toArray, List.set_cons_succ, List.set_cons_zero]
          go_simp
          (with_reducible refine (HS1 _ (BW.trans (hS.mono BW.size))).out.mono ?_); rintro e w6 ⟨D, cap', rfl, hz, k6⟩
          have b6 := k6.old
          refine hK.out (.agg (lT (selectT t L) D n cap' : List Value).toArray) z2 z3 z4 z5 z6 _ w6 ?_ (by kernel_rfl) ?_
          · exact hS.trans (b6.mono hS.size)
          refine ⟨?_, ?_, ?_, ?_, ?_, ?_, ?_, ?_, ?_, ?_, ?_, ?_⟩
          · exact CallF.new hz (TS.rowT k6)
          · exact (c1.up (by decide)).below b6
          · exact (c2.up (by decide)).below b6
          · exact ((BoxF.val b0 (no_store hn (by decide) h1 9 (by decide))).up (by decide) (by decide)).below b6
          · exact (b1.up (by decide) (by decide)).below b6
          · exact (b2.up (by decide) (by decide)).below b6
          · exact fun e => upB_imp (upB_imp q01 (by decide) e) (by decide)
          · exact fun e => upB_imp (upB_imp q02 (by decide) e) (by decide)
          · exact fun e => upB_imp (upB_imp q12 (by decide) e) (by decide)
          · exact store_up hn (by decide) h1 (by decide)
          · exact fun _ => upB_self _ _
          · exact fun e => by rw [upB_ne _ (by decide)] at e ⊢; exact r2 e
        refine StepsI.cons6 rfl (fun f z1 z2 z3 z4 z5 z6 w5 h1 h2 hS hJ => ?_) ?_
        · have c0 := hJ.1
          have c1 := hJ.2.1
          have c2 := hJ.2.2.1
          have b0 := hJ.2.2.2.1
          have b1 := hJ.2.2.2.2.1
          have b2 := hJ.2.2.2.2.2.1
          have q01 := hJ.2.2.2.2.2.2.1
          have q02 := hJ.2.2.2.2.2.2.2.1
          have q12 := hJ.2.2.2.2.2.2.2.2.1
          have hn := hJ.2.2.2.2.2.2.2.2.2.1
          have r1 := hJ.2.2.2.2.2.2.2.2.2.2.1
          have r2 := hJ.2.2.2.2.2.2.2.2.2.2.2
          clear hJ
          intro K hK
          try simp only [puts6]
          try simp only [Act.put, List.getElem_toArray, List.getElem_cons_succ, List.getElem_cons_zero, List.setIfInBounds_toArray, List.set_cons_succ, List.set_cons_zero]
          go_simp
          (with_reducible refine (HS2 _ (BW.trans (hS.mono BW.size))).out.mono ?_); rintro e w6 ⟨D, cap', rfl, hz, k6⟩
          have b6 := k6.old
          refine hK.out z1 (.agg (lT (t) D n cap' : List Value).toArray) z3 z4 z5 z6 _ w6 ?_ (by kernel_rfl) ?_
          · exact hS.trans (b6.mono hS.size)
          refine ⟨?_, ?_, ?_, ?_, ?_, ?_, ?_, ?_, ?_, ?_, ?_, ?_⟩
          · exact (c0.up (by decide)).below b6
          · exact CallF.new hz (TS.rowT k6)
          · exact (c2.up (by decide)).below b6
          · exact (b0.up (by decide) (by decide)).below b6
          · exact ((BoxF.val b1 (no_store hn (by decide) h1 10 (by decide))).up (by decide) (by decide)).below b6
          · exact (b2.up (by decide) (by decide)).below b6
          · exact fun e => upB_imp (upB_imp q01 (by decide) e) (by decide)
          · exact fun e => upB_imp (upB_imp q02 (by decide) e) (by decide)
          · exact fun e => upB_imp (upB_imp q12 (by decide) e) (by decide)
          · exact store_up hn (by decide) h1 (by decide)
          · exact fun _ => by rw [upB_ne _ (by decide)]; exact after_at h2 1 (by kernel_rfl)
          · exact fun _ => upB_self _ _
        refine StepsI.cons6 rfl (fun f z1 z2 z3 z4 z5 z6 w5 h1 h2 hS hJ => ?_) ?_
        · have c0 := hJ.1
          have c1 := hJ.2.1
          have c2 := hJ.2.2.1
          have b0 := hJ.2.2.2.1
          have b1 := hJ.2.2.2.2.1
          have b2 := hJ.2.2.2.2.2.1
          have q01 := hJ.2.2.2.2.2.2.1
          have q02 := hJ.2.2.2.2.2.2.2.1
          have q12 := hJ.2.2.2.2.2.2.2.2.1
          have hn := hJ.2.2.2.2.2.2.2.2.2.1
          have r1 := hJ.2.2.2.2.2.2.2.2.2.2.1
          have r2 := hJ.2.2.2.2.2.2.2.2.2.2.2
          clear hJ
          intro K hK
          try simp only [puts6]
          try simp only [Act.put, List.getElem_toArray, List.getElem_cons_succ, List.getElem_cons_zero, List.setIfInBounds_toArray, List.set_cons_succ, List.set_cons_zero]
          go_simp
          (with_reducible refine (HS3 _ (BW.trans (hS.mono BW.size))).out.mono ?_); rintro e w6 ⟨D, cap', rfl, hz, k6⟩
          have b6 := k6.old
          refine hK.out z1 z2 (.agg (lT (selectT t L) D n cap' : List Value).toArray) z4 z5 z6 _ w6 ?_ (by kernel_rfl) ?_
          · exact hS.trans (b6.mono hS.size)
          refine ⟨?_, ?_, ?_, ?_, ?_, ?_, ?_, ?_, ?_, ?_, ?_, ?_⟩
          · exact (c0.up (by decide)).below b6
          · exact (c1.up (by decide)).below b6
          · exact CallF.new hz (TS.rowT k6)
          · exact (b0.up (by decide) (by decide)).below b6
          · exact (b1.up (by decide) (by decide)).below b6
          · exact ((BoxF.val b2 (no_store hn (by decide) h1 11 (by decide))).up (by decide) (by decide)).below b6
          · exact fun e => upB_imp (upB_imp q01 (by decide) e) (by decide)
          · exact fun e => upB_imp (upB_imp q02 (by decide) e) (by decide)
          · exact fun e => upB_imp (upB_imp q12 (by decide) e) (by decide)
          · exact store_up hn (by decide) h1 (by decide)
          · exact fun e => by rw [upB_ne _ (by decide)] at e ⊢; exact r1 e
          · exact fun _ => by rw [upB_ne _ (by decide)]; exact after_at h2 3 (by kernel_rfl)
        refine StepsI.cons6 rfl (fun f z1 z2 z3 z4 z5 z6 w5 h1 h2 hS hJ => ?_) ?_
        · have c0 := hJ.1
          have c1 := hJ.2.1
          have c2 := hJ.2.2.1
          have b0 := hJ.2.2.2.1
          have b1 := hJ.2.2.2.2.1
          have b2 := hJ.2.2.2.2.2.1
          have q01 := hJ.2.2.2.2.2.2.1
          have q02 := hJ.2.2.2.2.2.2.2.1
          have q12 := hJ.2.2.2.2.2.2.2.2.1
          have hn := hJ.2.2.2.2.2.2.2.2.2.1
          have r1 := hJ.2.2.2.2.2.2.2.2.2.2.1
          have r2 := hJ.2.2.2.2.2.2.2.2.2.2.2
          clear hJ
          intro K hK
          try simp only [puts6]
          try simp only [Act.put, List.getElem_toArray, List.getElem_cons_succ, List.getElem_cons_zero, List.setIfInBounds_toArray, List.set_cons_succ, List.set_cons_zero]
          go_simp
          have b6 := new_below w5 (.cells ([.int .u64 0, .int .u64 0, .int .u32 0, .int .i64 0, .int .i64 0, .int .i64 0, .int .i64 0, .int .i64 0, .int .i64 0, .int .i64 0, .bool false, .bool false, .bool false, .int .i64 0, .bool false, .int .i64 0, .bool false, .int .i64 0, .slice none 0 0] : List Value).toArray 31)
          refine hK.out z1 z2 z3 (.pointer (some ⟨w5.heap.size, 0, none⟩)) z5 z6 _ (w5.alloc (.cells ([.int .u64 0, .int .u64 0, .int .u32 0, .int .i64 0, .int .i64 0, .int .i64 0, .int .i64 0, .int .i64 0, .int .i64 0, .int .i64 0, .bool false, .bool false, .bool false, .int .i64 0, .bool false, .int .i64 0, .bool false, .int .i64 0, .slice none 0 0] : List Value).toArray 31)) ?_ (by kernel_rfl) ?_
          · exact hS.trans (b6.mono hS.size)
          refine ⟨?_, ?_, ?_, ?_, ?_, ?_, ?_, ?_, ?_, ?_, ?_, ?_⟩
          · exact (c0.up (by decide)).below b6
          · exact (c1.up (by decide)).below b6
          · exact (c2.up (by decide)).below b6
          · exact BoxF.new (j := 6) (s := 9) (no_store hn (by decide) h1 9 (by decide)) (by decide) hS.size [.int .u64 0, .int .u64 0, .int .u32 0, .int .i64 0, .int .i64 0, .int .i64 0, .int .i64 0, .int .i64 0, .int .i64 0, .int .i64 0, .bool false, .bool false, .bool false, .int .i64 0, .bool false, .int .i64 0, .bool false, .int .i64 0, .slice none 0 0] rfl
          · exact (b1.up (by decide) (by decide)).below b6
          · exact (b2.up (by decide) (by decide)).below b6
          · exact fun _ e => (b1.ne (by rwa [upB_ne _ (by decide)] at e)).symm
          · exact fun _ e => (b2.ne (by rwa [upB_ne _ (by decide)] at e)).symm
          · exact fun e => upB_imp (upB_imp q12 (by decide) e) (by decide)
          · exact store_up hn (by decide) h1 (by decide)
          · exact fun e => by rw [upB_ne _ (by decide)] at e ⊢; exact r1 e
          · exact fun e => by rw [upB_ne _ (by decide)] at e ⊢; exact r2 e
        refine StepsI.cons6 rfl (fun f z1 z2 z3 z4 z5 z6 w5 h1 h2 hS hJ => ?_) ?_
        · have c0 := hJ.1
          have c1 := hJ.2.1
          have c2 := hJ.2.2.1
          have b0 := hJ.2.2.2.1
          have b1 := hJ.2.2.2.2.1
          have b2 := hJ.2.2.2.2.2.1
          have q01 := hJ.2.2.2.2.2.2.1
          have q02 := hJ.2.2.2.2.2.2.2.1
          have q12 := hJ.2.2.2.2.2.2.2.2.1
          have hn := hJ.2.2.2.2.2.2.2.2.2.1
          have r1 := hJ.2.2.2.2.2.2.2.2.2.2.1
          have r2 := hJ.2.2.2.2.2.2.2.2.2.2.2
          clear hJ
          intro K hK
          try simp only [puts6]
          try simp only [Act.put, List.getElem_toArray, List.getElem_cons_succ, List.getElem_cons_zero, List.setIfInBounds_toArray, List.set_cons_succ, List.set_cons_zero]
          go_simp
          have b6 := new_below w5 (.cells ([.int .u64 0, .int .u64 0, .int .u32 0, .int .i64 0, .int .i64 0, .int .i64 0, .int .i64 0, .int .i64 0, .int .i64 0, .int .i64 0, .bool false, .bool false, .bool false, .int .i64 0, .bool false, .int .i64 0, .bool false, .int .i64 0, .slice none 0 0] : List Value).toArray 31)
          refine hK.out z1 z2 z3 z4 (.pointer (some ⟨w5.heap.size, 0, none⟩)) z6 _ (w5.alloc (.cells ([.int .u64 0, .int .u64 0, .int .u32 0, .int .i64 0, .int .i64 0, .int .i64 0, .int .i64 0, .int .i64 0, .int .i64 0, .int .i64 0, .bool false, .bool false, .bool false, .int .i64 0, .bool false, .int .i64 0, .bool false, .int .i64 0, .slice none 0 0] : List Value).toArray 31)) ?_ (by kernel_rfl) ?_
          · exact hS.trans (b6.mono hS.size)
          refine ⟨?_, ?_, ?_, ?_, ?_, ?_, ?_, ?_, ?_, ?_, ?_, ?_⟩
          · exact (c0.up (by decide)).below b6
          · exact (c1.up (by decide)).below b6
          · exact (c2.up (by decide)).below b6
          · exact (b0.up (by decide) (by decide)).below b6
          · exact BoxF.new (j := 7) (s := 10) (no_store hn (by decide) h1 10 (by decide)) (by decide) hS.size [.int .u64 0, .int .u64 0, .int .u32 0, .int .i64 0, .int .i64 0, .int .i64 0, .int .i64 0, .int .i64 0, .int .i64 0, .int .i64 0, .bool false, .bool false, .bool false, .int .i64 0, .bool false, .int .i64 0, .bool false, .int .i64 0, .slice none 0 0] rfl
          · exact (b2.up (by decide) (by decide)).below b6
          · exact fun e _ => b0.ne (by rwa [upB_ne _ (by decide)] at e)
          · exact fun e => upB_imp (upB_imp q02 (by decide) e) (by decide)
          · exact fun _ e => (b2.ne (by rwa [upB_ne _ (by decide)] at e)).symm
          · exact store_up hn (by decide) h1 (by decide)
          · exact fun e => by rw [upB_ne _ (by decide)] at e ⊢; exact r1 e
          · exact fun e => by rw [upB_ne _ (by decide)] at e ⊢; exact r2 e
        refine StepsI.cons6 rfl (fun f z1 z2 z3 z4 z5 z6 w5 h1 h2 hS hJ => ?_) ?_
        · have c0 := hJ.1
          have c1 := hJ.2.1
          have c2 := hJ.2.2.1
          have b0 := hJ.2.2.2.1
          have b1 := hJ.2.2.2.2.1
          have b2 := hJ.2.2.2.2.2.1
          have q01 := hJ.2.2.2.2.2.2.1
          have q02 := hJ.2.2.2.2.2.2.2.1
          have q12 := hJ.2.2.2.2.2.2.2.2.1
          have hn := hJ.2.2.2.2.2.2.2.2.2.1
          have r1 := hJ.2.2.2.2.2.2.2.2.2.2.1
          have r2 := hJ.2.2.2.2.2.2.2.2.2.2.2
          clear hJ
          intro K hK
          try simp only [puts6]
          try simp only [Act.put, List.getElem_toArray, List.getElem_cons_succ, List.getElem_cons_zero, List.setIfInBounds_toArray, List.set_cons_succ, List.set_cons_zero]
          go_simp
          have b6 := new_below w5 (.cells ([.int .u64 0, .int .u64 0, .int .u32 0, .int .i64 0, .int .i64 0, .int .i64 0, .int .i64 0, .int .i64 0, .int .i64 0, .int .i64 0, .bool false, .bool false, .bool false, .int .i64 0, .bool false, .int .i64 0, .bool false, .int .i64 0, .slice none 0 0] : List Value).toArray 31)
          refine hK.out z1 z2 z3 z4 z5 (.pointer (some ⟨w5.heap.size, 0, none⟩)) _ (w5.alloc (.cells ([.int .u64 0, .int .u64 0, .int .u32 0, .int .i64 0, .int .i64 0, .int .i64 0, .int .i64 0, .int .i64 0, .int .i64 0, .int .i64 0, .bool false, .bool false, .bool false, .int .i64 0, .bool false, .int .i64 0, .bool false, .int .i64 0, .slice none 0 0] : List Value).toArray 31)) ?_ (by kernel_rfl) ?_
          · exact hS.trans (b6.mono hS.size)
          refine ⟨?_, ?_, ?_, ?_, ?_, ?_, ?_, ?_, ?_, ?_, ?_, ?_⟩
          · exact (c0.up (by decide)).below b6
          · exact (c1.up (by decide)).below b6
          · exact (c2.up (by decide)).below b6
          · exact (b0.up (by decide) (by decide)).below b6
          · exact (b1.up (by decide) (by decide)).below b6
          · exact BoxF.new (j := 8) (s := 11) (no_store hn (by decide) h1 11 (by decide)) (by decide) hS.size [.int .u64 0, .int .u64 0, .int .u32 0, .int .i64 0, .int .i64 0, .int .i64 0, .int .i64 0, .int .i64 0, .int .i64 0, .int .i64 0, .bool false, .bool false, .bool false, .int .i64 0, .bool false, .int .i64 0, .bool false, .int .i64 0, .slice none 0 0] rfl
          · exact fun e => upB_imp (upB_imp q01 (by decide) e) (by decide)
          · exact fun e _ => b0.ne (by rwa [upB_ne _ (by decide)] at e)
          · exact fun e _ => b1.ne (by rwa [upB_ne _ (by decide)] at e)
          · exact store_up hn (by decide) h1 (by decide)
          · exact fun e => by rw [upB_ne _ (by decide)] at e ⊢; exact r1 e
          · exact fun e => by rw [upB_ne _ (by decide)] at e ⊢; exact r2 e
        refine StepsI.store6 rfl 31 (.tmp 6) (.tmp 50) (by kernel_rfl) (by kernel_rfl) (by kernel_rfl) (fun f z1 z2 z3 z4 z5 z6 w5 h1 h2 hS hJ => ?_) ?_
        · have c0 := hJ.1
          have c1 := hJ.2.1
          have c2 := hJ.2.2.1
          have b0 := hJ.2.2.2.1
          have b1 := hJ.2.2.2.2.1
          have b2 := hJ.2.2.2.2.2.1
          have q01 := hJ.2.2.2.2.2.2.1
          have q02 := hJ.2.2.2.2.2.2.2.1
          have q12 := hJ.2.2.2.2.2.2.2.2.1
          have hn := hJ.2.2.2.2.2.2.2.2.2.1
          have r1 := hJ.2.2.2.2.2.2.2.2.2.2.1
          have r2 := hJ.2.2.2.2.2.2.2.2.2.2.2
          clear hJ
          have hall : ∀ c ∈ ([1, 3, 5, 6, 7, 8] : List Nat), f c = true := by
            intro c hc
            simp only [List.mem_cons, List.not_mem_nil, or_false] at hc
            rcases hc with rfl | rfl | rfl | rfl | rfl | rfl
            · exact (r1 (r2 (after_at h2 5 (by kernel_rfl))))
            · exact (r2 (after_at h2 5 (by kernel_rfl)))
            · exact (after_at h2 5 (by kernel_rfl))
            · exact after_at h2 6 (by kernel_rfl)
            · exact after_at h2 7 (by kernel_rfl)
            · exact after_at h2 8 (by kernel_rfl)
          obtain ⟨g, cs, hg1, hg2, hg3, hg4, -⟩ := b0 (hall 6 (by decide))
          obtain ⟨D, cap', hv, hz, hr⟩ := c0 (hall 1 (by decide))
          subst hv
          subst hg1
          refine ⟨g, lT (selectT t L) D n cap', cs, by kernel_rfl, by kernel_rfl, hg3, hg4.trans rfl, by kernel_rfl, by kernel_rfl, below_setRow hS hg2 _, ?_⟩
          refine ⟨?_, ?_, ?_, ?_, ?_, ?_, ?_, ?_, ?_, ?_, ?_, ?_⟩
          · exact (c0.up (by decide)).row hg3
          · exact (c1.up (by decide)).row hg3
          · exact (c2.up (by decide)).row hg3
          · exact BoxF.fill hg2 hg3 rfl rfl
          · exact (b1.up (by decide) (by decide)).far (fun e => q01 (hall 6 (by decide)) (hall 7 (by decide)) e.symm)
          · exact (b2.up (by decide) (by decide)).far (fun e => q02 (hall 6 (by decide)) (hall 8 (by decide)) e.symm)
          · exact fun e => upB_imp (upB_imp q01 (by decide) e) (by decide)
          · exact fun e => upB_imp (upB_imp q02 (by decide) e) (by decide)
          · exact fun e => upB_imp (upB_imp q12 (by decide) e) (by decide)
          · exact store_at hall (by decide)
          · exact fun e => by rw [upB_ne _ (by decide)] at e ⊢; exact r1 e
          · exact fun e => by rw [upB_ne _ (by decide)] at e ⊢; exact r2 e
        refine StepsI.store6 rfl 31 (.tmp 7) (.tmp 52) (by kernel_rfl) (by kernel_rfl) (by kernel_rfl) (fun f z1 z2 z3 z4 z5 z6 w5 h1 h2 hS hJ => ?_) ?_
        · have c0 := hJ.1
          have c1 := hJ.2.1
          have c2 := hJ.2.2.1
          have b0 := hJ.2.2.2.1
          have b1 := hJ.2.2.2.2.1
          have b2 := hJ.2.2.2.2.2.1
          have q01 := hJ.2.2.2.2.2.2.1
          have q02 := hJ.2.2.2.2.2.2.2.1
          have q12 := hJ.2.2.2.2.2.2.2.2.1
          have hn := hJ.2.2.2.2.2.2.2.2.2.1
          have r1 := hJ.2.2.2.2.2.2.2.2.2.2.1
          have r2 := hJ.2.2.2.2.2.2.2.2.2.2.2
          clear hJ
          have hall : ∀ c ∈ ([1, 3, 5, 6, 7, 8] : List Nat), f c = true := by
            exact hn 9 (by decide) (after_at h2 9 (by kernel_rfl))
          obtain ⟨g, cs, hg1, hg2, hg3, hg4, -⟩ := b1 (hall 7 (by decide))
          obtain ⟨D, cap', hv, hz, hr⟩ := c1 (hall 3 (by decide))
          subst hv
          subst hg1
          refine ⟨g, lT (t) D n cap', cs, by kernel_rfl, by kernel_rfl, hg3, hg4.trans rfl, by kernel_rfl, by kernel_rfl, below_setRow hS hg2 _, ?_⟩
          refine ⟨?_, ?_, ?_, ?_, ?_, ?_, ?_, ?_, ?_, ?_, ?_, ?_⟩
          · exact (c0.up (by decide)).row hg3
          · exact (c1.up (by decide)).row hg3
          · exact (c2.up (by decide)).row hg3
          · exact (b0.up (by decide) (by decide)).far (q01 (hall 6 (by decide)) (hall 7 (by decide)))
          · exact BoxF.fill hg2 hg3 rfl rfl
          · exact (b2.up (by decide) (by decide)).far (fun e => q12 (hall 7 (by decide)) (hall 8 (by decide)) e.symm)
          · exact fun e => upB_imp (upB_imp q01 (by decide) e) (by decide)
          · exact fun e => upB_imp (upB_imp q02 (by decide) e) (by decide)
          · exact fun e => upB_imp (upB_imp q12 (by decide) e) (by decide)
          · exact store_at hall (by decide)
          · exact fun e => by rw [upB_ne _ (by decide)] at e ⊢; exact r1 e
          · exact fun e => by rw [upB_ne _ (by decide)] at e ⊢; exact r2 e
        refine StepsI.store6 rfl 31 (.tmp 8) (.tmp 54) (by kernel_rfl) (by kernel_rfl) (by kernel_rfl) (fun f z1 z2 z3 z4 z5 z6 w5 h1 h2 hS hJ => ?_) ?_
        · have c0 := hJ.1
          have c1 := hJ.2.1
          have c2 := hJ.2.2.1
          have b0 := hJ.2.2.2.1
          have b1 := hJ.2.2.2.2.1
          have b2 := hJ.2.2.2.2.2.1
          have q01 := hJ.2.2.2.2.2.2.1
          have q02 := hJ.2.2.2.2.2.2.2.1
          have q12 := hJ.2.2.2.2.2.2.2.2.1
          have hn := hJ.2.2.2.2.2.2.2.2.2.1
          have r1 := hJ.2.2.2.2.2.2.2.2.2.2.1
          have r2 := hJ.2.2.2.2.2.2.2.2.2.2.2
          clear hJ
          have hall : ∀ c ∈ ([1, 3, 5, 6, 7, 8] : List Nat), f c = true := by
            exact hn 10 (by decide) (after_at h2 10 (by kernel_rfl))
          obtain ⟨g, cs, hg1, hg2, hg3, hg4, -⟩ := b2 (hall 8 (by decide))
          obtain ⟨D, cap', hv, hz, hr⟩ := c2 (hall 5 (by decide))
          subst hv
          subst hg1
          refine ⟨g, lT (selectT t L) D n cap', cs, by kernel_rfl, by kernel_rfl, hg3, hg4.trans rfl, by kernel_rfl, by kernel_rfl, below_setRow hS hg2 _, ?_⟩
          refine ⟨?_, ?_, ?_, ?_, ?_, ?_, ?_, ?_, ?_, ?_, ?_, ?_⟩
          · exact (c0.up (by decide)).row hg3
          · exact (c1.up (by decide)).row hg3
          · exact (c2.up (by decide)).row hg3
          · exact (b0.up (by decide) (by decide)).far (q02 (hall 6 (by decide)) (hall 8 (by decide)))
          · exact (b1.up (by decide) (by decide)).far (q12 (hall 7 (by decide)) (hall 8 (by decide)))
          · exact BoxF.fill hg2 hg3 rfl rfl
          · exact fun e => upB_imp (upB_imp q01 (by decide) e) (by decide)
          · exact fun e => upB_imp (upB_imp q02 (by decide) e) (by decide)
          · exact fun e => upB_imp (upB_imp q12 (by decide) e) (by decide)
          · exact store_at hall (by decide)
          · exact fun e => by rw [upB_ne _ (by decide)] at e ⊢; exact r1 e
          · exact fun e => by rw [upB_ne _ (by decide)] at e ⊢; exact r2 e
        exact StepsI.nil
        intro f z1 z2 z3 z4 z5 z6 w5 hall hS hJ
        obtain ⟨c0, c1, c2, b0, b1, b2, q01, q02, q12, hn, r1, r2⟩ := hJ
        obtain ⟨D0, cap0, hv0, hz0, hr0⟩ := c0 (hall 1 (Nat.le_of_ble_eq_true (by kernel_rfl)))
        obtain ⟨g0, cs0, hp0, hB0, hk0, -, hf0⟩ := b0 (hall 6 (Nat.le_of_ble_eq_true (by kernel_rfl)))
        have hf0 := hf0 (hall 9 (Nat.le_of_ble_eq_true (by kernel_rfl)))
        rw [hv0] at hf0
        obtain rfl : cs0 = lT (selectT t L) D0 n cap0 := by injection hf0 with q; injection q with q; exact q.symm
        obtain ⟨D1, cap1, hv1, hz1, hr1⟩ := c1 (hall 3 (Nat.le_of_ble_eq_true (by kernel_rfl)))
        obtain ⟨g1, cs1, hp1, hB1, hk1, -, hf1⟩ := b1 (hall 7 (Nat.le_of_ble_eq_true (by kernel_rfl)))
        have hf1 := hf1 (hall 10 (Nat.le_of_ble_eq_true (by kernel_rfl)))
        rw [hv1] at hf1
        obtain rfl : cs1 = lT (t) D1 n cap1 := by injection hf1 with q; injection q with q; exact q.symm
        obtain ⟨D2, cap2, hv2, hz2, hr2⟩ := c2 (hall 5 (Nat.le_of_ble_eq_true (by kernel_rfl)))
        obtain ⟨g2, cs2, hp2, hB2, hk2, -, hf2⟩ := b2 (hall 8 (Nat.le_of_ble_eq_true (by kernel_rfl)))
        have hf2 := hf2 (hall 11 (Nat.le_of_ble_eq_true (by kernel_rfl)))
        rw [hv2] at hf2
        obtain rfl : cs2 = lT (selectT t L) D2 n cap2 := by injection hf2 with q; injection q with q; exact q.symm
        have hn01 : g0 ≠ g1 := fun e => q01 (hall 6 (Nat.le_of_ble_eq_true (by kernel_rfl))) (hall 7 (Nat.le_of_ble_eq_true (by kernel_rfl))) (by rw [hp0, hp1, e])
        have hn02 : g0 ≠ g2 := fun e => q02 (hall 6 (Nat.le_of_ble_eq_true (by kernel_rfl))) (hall 8 (Nat.le_of_ble_eq_true (by kernel_rfl))) (by rw [hp0, hp2, e])
        have hn12 : g1 ≠ g2 := fun e => q12 (hall 7 (Nat.le_of_ble_eq_true (by kernel_rfl))) (hall 8 (Nat.le_of_ble_eq_true (by kernel_rfl))) (by rw [hp1, hp2, e])
        subst hp0 hv0 hp1 hv1 hp2 hv2
        clear c0 b0 hf0 c1 b1 hf1 c2 b2 hf2 q01 q02 q12 hn r1 r2 hall hHeld

        have BW2 : Below u5.heap.size u5 w5 := BW.trans (hS.mono BW.size)
        have S12 : Hs w ([(g0, 31, lT (selectT t L) D0 n cap0), (g1, 31, lT t D1 n cap1), (g2, 31, lT (selectT t L) D2 n cap2)] ++ _) w5 := SW.join (hs_box3 hS hk0 hB0 hk1 hB1 hk2 hB2 hn01 hn02 hn12)
        simp only [List.cons_append, List.nil_append] at S12
        simp only [puts6, Act.put, List.getElem_toArray, List.getElem_cons_succ, List.getElem_cons_zero, List.setIfInBounds_toArray, List.set_cons_succ, List.set_cons_zero]
        clear S SW hS hk0 hk1 hk2 hB0 hB1 hB2 hr0 hr1 hr2 hn01 hn02 hn12 HS1 HS2 HS3 hz0 hz1 hz2 BW B7
        have HST := Lib.hid (states_is t D n cap' L HL hn2 HZ w5 (Lib.hid ((PDH.out.below BW2 (Nat.le_refl _)).wide BW2.size)))
        have hx := S12.bk 3 rfl
        go_wp2_with (with_reducible refine wpList_load_row rfl 31 (.tmp 3) rfl O (by kernel_rfl) _ _ (0, 0) _ hx Try.underlying31 rfl (by kernel_rfl) ?_)
        (with_reducible refine HST.out.mono ?_); rintro e w6 ⟨D4, cap4, rfl, -, k4⟩
        have BW3 := BW2.trans (k4.old.mono BW2.size)
        have S13 := S12.below k4.old
        clear S12 hx HST k4 BW2
        go_upto_region 14 with (refine wpList_store_row rfl 31 _ _ rfl _ _ rfl rfl _ _ (heap_alloc_new _ _) (by kernel_rfl) (by kernel_rfl) (by kernel_rfl) ?_)
        rw [alloc_row]
        have S14 := S13.al rfl 31 (lT t D4 n cap4)
        obtain ⟨F, hF⟩ : ∃ F, w6.heap.size = F := ⟨_, rfl⟩
        rw [hF] at S14 ⊢
        have BW4 := BW3.trans ((new_below w6 (.cells (lT t D4 n cap4).toArray 31)).mono BW3.size)
        obtain ⟨w7, hw7⟩ : ∃ w7, w6.alloc (.cells (lT t D4 n cap4).toArray 31) = w7 := ⟨_, rfl⟩
        rw [hw7] at S14 BW4 ⊢
        clear hw7 S13 hF BW3
        have HSR := Lib.hid (rsame_alike t D A n cap' cap L HL hn2 w7 (Lib.hid ((PDH.out.below BW4 (Nat.le_refl _)).wide BW4.size)) (Lib.hid ((HP.out.below S14.old (Nat.le_refl _)).wide S14.old.size)))
        have hx := S14.bk 4 rfl
        have hy := S14.bk 5 rfl
        go_wp2_with (first | (with_reducible refine wpList_load_row rfl 31 (.tmp 3) rfl O (by kernel_rfl) _ _ (0, 0) _ hx Try.underlying31 rfl (by kernel_rfl) ?_) | (with_reducible refine wpList_load_row rfl 31 (.tmp 1) rfl X (by kernel_rfl) _ _ (0, 0) _ hy Try.underlying31 rfl (by kernel_rfl) ?_))
        (with_reducible refine HSR.out.mono ?_); rintro e w8 ⟨rfl, b8⟩
        have S15 := S14.below b8
        clear S14 hx hy HSR b8 BW4
        have d0 := S15.cell 0 18 rfl rfl
        have d1 := S15.cell 1 18 rfl rfl
        have d2 := S15.cell 2 18 rfl rfl
        have d3 := S15.cell 3 18 rfl rfl
        have d5 := S15.cell 5 18 rfl rfl
        go_wp2
        go_ret
        exact ⟨rfl, S15.old⟩

end Go.Proofs.Ytkdbhioneoknjaa
