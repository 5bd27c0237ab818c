/- The law SendOnce, walked. -/
import Derived.Test.YtcamakkicmapcaaDoorPk11
import Derived.Test.YtcamakkicmapcaaDoorPk02
import Derived.Test.YtcamakkicmapcaaDoorPk03
import Derived.StillTailTactics
import Derived.Deep.QuietTactic
import Derived.BigQuiet
import Derived.LoopTactic
namespace Go.Proofs.YtcamakkicmapcaaDoor
set_option maxRecDepth 100000
open Go.ChangeShapes Go.WideShapes Go.ChangeAt Go.RowKit
set_option linter.unusedVariables false
set_option linter.unusedSimpArgs false

set_option maxHeartbeats 2000000 in
theorem SendOnce_walk (t : Th) (A : Option Addr) (n cap : Nat) (L : List Po) (w : World) (hd : Hd w) (ht : ThB t) (hm : TmB t) (hL : L.length = n) (hn : n ≤ 9223372036854775807) (hz : A = none → cap = 0) (hb : ∀ x ∈ L, PoB x) (hp : PoAt w A w.heap.size L) :
    Calls Tryd.prog 7 #[.agg (lT t A n cap).toArray] w fun e w' => e = .returned (.bool true) ∧ Below w.heap.size w w' := by
  have HA := fun W (h : Below w.heap.size w W) => Lib.hid (awake14_is W (hd.below h (Nat.le_refl _)))
  have HD := Lib.hid hd
  have HB := Lib.hid hb
  have HTB := Lib.hid ht
  have HNB := Lib.hid (show (-9223372036854775808 ≤ t.n1 ∧ t.n1 ≤ 9223372036854775807 ∧ -9223372036854775808 ≤ t.n2 ∧ t.n2 ≤ 9223372036854775807 ∧ -9223372036854775808 ≤ t.n3 ∧ t.n3 ≤ 9223372036854775807) from hm)
  have HL := Lib.hid hL
  have HP := Lib.hid hp
  have HCZ := Lib.hid hz
  have HF := fun W (h : Below w.heap.size w W) => Lib.hid (fit_is t A n cap L HL hn W (Lib.hid ((HP.out.below h (Nat.le_refl _)).wide h.size)))
  clear hb hL hz hp ht hn hd hm
  obtain ⟨wb, hwb, S⟩ := hs_one w 31 (lT t A n cap)
  go_enter Tryd.func7, Tryd.ntmps7
  go_upto_region 1 with fail
  clear hwb
  obtain ⟨X, hX⟩ : ∃ X, w.heap.size = X := ⟨_, rfl⟩
  rw [hX] at S
  rw [hX]
  clear hX
  go_wp2_with fail
  (with_reducible refine (HA _ S.old).out.mono ?_); rintro e w1 ⟨rfl, b1⟩
  have S1 := S.below b1
  clear S b1
  have hx := S1.bk 0 rfl
  go_wp2_with (with_reducible refine wpList_load_rowG (by kernel_rfl) 31 (.tmp 1) rfl X (by kernel_rfl) _ _ (0, 0) _ hx Tryd.underlying31 rfl (by kernel_rfl) ?_)
  (with_reducible refine (HF _ S1.old).out.mono ?_); rintro e w2 ⟨q, rfl, hq, b2⟩
  have S2 := S1.below b2
  have HQ := Lib.hid hq
  clear S1 hx HF b2 hq
  cases q with
  | false =>
    go_wp2_with fail
    (with_reducible refine (HA _ S2.old).out.mono ?_); rintro e w3 ⟨rfl, b3⟩
    have S3 := S2.below b3
    clear S2 b3
    go_wp2
    go_ret
    exact ⟨rfl, S3.old⟩
  | true =>
    have HN := Lib.hid (HQ.out rfl).1
    have HU := Lib.hid (HQ.out rfl).2
    clear HQ
    have hn2 : n ≤ 200 := by have := HN.out; omega
    have HC1 := Lib.hid (sall_is t A n cap L HL hn2 HTB HNB HB HCZ _ (HD.out.below S2.old (Nat.le_refl _)) (Lib.hid ((HP.out.below S2.old (Nat.le_refl _)).wide S2.old.size)))
    have hx := S2.bk 0 rfl
    go_upto_region 3 with fail
    go_wp2_with (with_reducible refine wpList_load_rowG (by kernel_rfl) 31 (.tmp 1) rfl X (by kernel_rfl) _ _ (0, 0) _ hx Tryd.underlying31 rfl (by kernel_rfl) ?_)
    (with_reducible refine (HC1).out.mono ?_); rintro e x1 ⟨D1, k1, v1, rfl, hz1, hP1, hO1, b1⟩
    have S_1a := S2.below b1
    go_upto_region 4 with (refine wpList_store_row rfl 31 _ _ rfl _ _ rfl rfl _ _ (heap_alloc_new _ _) (by kernel_rfl) (by kernel_rfl) (by kernel_rfl) ?_)
    rw [alloc_row]
    have bN := new_below x1 (.cells (lT t D1 n k1).toArray 31)
    have KU_1 := AN.new (t := t) (n := n) (R := (allR t L n)) hz1 hP1 hO1
    have S_1 := S_1a.below bN
    obtain ⟨U, hG⟩ : ∃ G, x1.heap.size = G := ⟨_, rfl⟩
    rw [hG] at KU_1 ⊢
    obtain ⟨y1, hy⟩ : ∃ y, x1.alloc (.cells (lT t D1 n k1).toArray 31) = y := ⟨_, rfl⟩
    rw [hy] at S_1 KU_1  ⊢
    clear hy hG bN hz1 hO1 hP1 b1 S2 S_1a
    clear hx HC1
    have HBD := Lib.hid (allR_bd (t := t) HB.out n)
    have HL1 := Lib.hid (show (allR t L n).1.length = n by rw [HBD.out.1, HL.out])
    have HC2 := Lib.hid (sall_is t D1 n k1 (allR t L n).1 HL1 hn2 HTB HNB (Lib.hid HBD.out.2.2) (Lib.hid KU_1.2.1) _ (HD.out.below S_1.old (Nat.le_refl _)) (Lib.hid KU_1.ports))
    have hx := KU_1.bk
    go_wp2_with (with_reducible refine wpList_load_rowG (by kernel_rfl) 31 (.tmp 3) rfl U (by kernel_rfl) _ _ (0, 0) _ hx Tryd.underlying31 rfl (by kernel_rfl) ?_)
    clear hx
    (with_reducible refine (HC2).out.mono ?_); rintro e x2 ⟨D2, k2, v2, rfl, hz2, hP2, hO2, b2⟩
    have S_2a := S_1.below b2
    have KU_2a := KU_1.below b2
    go_upto_region 5 with (refine wpList_store_row rfl 31 _ _ rfl _ _ rfl rfl _ _ (heap_alloc_new _ _) (by kernel_rfl) (by kernel_rfl) (by kernel_rfl) ?_)
    rw [alloc_row]
    have bN := new_below x2 (.cells (lT t D2 n k2).toArray 31)
    have KV_2 := AN.new (t := t) (n := n) (R := (allR t (allR t L n).1 n)) hz2 hP2 hO2
    have S_2 := S_2a.below bN
    have KU_2 := KU_2a.below bN
    obtain ⟨V, hG⟩ : ∃ G, x2.heap.size = G := ⟨_, rfl⟩
    rw [hG] at KV_2 ⊢
    obtain ⟨y2, hy⟩ : ∃ y, x2.alloc (.cells (lT t D2 n k2).toArray 31) = y := ⟨_, rfl⟩
    rw [hy] at S_2 KV_2 KU_2 ⊢
    clear hy hG bN hz2 hO2 hP2 b2 S_1 S_2a KU_1 KU_2a
    have ho2 := KV_2.outs
    rw [once_none t L n HL.out] at ho2
    obtain ⟨A2, q2, e2⟩ := ho2.shape
    obtain rfl : v2 = .slice A2 0 q2 := e2
    obtain ⟨A1, q1, rfl⟩ := KU_2.outs.shape
    obtain ⟨m, hm⟩ : ∃ m, (allR t L n).2.length = m := ⟨_, rfl⟩
    have hmn : m ≤ n := by rw [← hm]; exact HBD.out.2.1
    rw [hm] at KU_2 ⊢
    have HM := Lib.hid hm
    have HMN := Lib.hid hmn
    have hm9 : m ≤ 200 := by omega
    clear ho2 hm hmn HC2
    have RR : Hid (Hs w [(X, 31, lT t A n cap)] y2 ∧ AN y2 U D1 k1 (.slice A1 m q1) t n (allR t L n) ∧ AN y2 V D2 k2 (.slice A2 0 q2) t n (allR t (allR t L n).1 n)) := Lib.hid ⟨S_2, KU_2, KV_2⟩
    clear S_2 KU_2 KV_2
    go_wp2
    go_loopw [7] (fun i wr => i = .int .i64 0 ∧ wr = y2) (fun _ _ => 0)
    case atStart => exact ⟨rfl, rfl⟩
    case round =>
      obtain ⟨rfl, rfl⟩ := hrel
      go_wp2
      go_loopw [9] (fun i wr => ∃ k : Nat, k ≤ m ∧ i = .int .i64 k ∧ Hid (Hs w [(X, 31, lT t A n cap)] wr ∧ AN wr U D1 k1 (.slice A1 m q1) t n (allR t L n) ∧ AN wr V D2 k2 (.slice A2 0 q2) t n (allR t (allR t L n).1 n))) (fun i _ => m - (intOf i).toNat)
      case atStart => exact ⟨0, Nat.zero_le _, rfl, RR⟩
      case round =>
        clear RR
        obtain ⟨k, hk, rfl, R⟩ := hrel
        by_cases hkm : k < m
        · have hki : (k : Int) < (m : Int) := by omega
          have hkz : ¬ (m : Int) ≤ (k : Int) := by omega
          obtain ⟨o, ho⟩ : ∃ o, (allR t L n).2[k]? = some o := ⟨(allR t L n).2[k]'(by have := HM.out; omega), List.getElem?_eq_getElem _⟩
          obtain ⟨j, x, hoj, hjn, hx, hpe, hho⟩ := once_owes HL.out (List.mem_of_getElem? ho)
          have hji : (j : Int) < (n : Int) := by omega
          have hjz : ¬ (n : Int) ≤ (j : Int) := by omega
          obtain ⟨c, g, hco, rfl, hg, hcl, -⟩ := R.out.2.1.outs.at ho
          have p0 : wr.cell? ⟨g, k * 5, none⟩ = some (.int .i64 j) := by
            have := hcl 0 _ rfl
            rw [hco, hoj] at this
            exact this
          obtain ⟨ad, rfl⟩ := R.out.2.2.ports.some hx
          have d18 := R.out.2.2.cell (i := 18) rfl
          have d8 := R.out.2.2.port hx 7 rfl
          have d13 := R.out.2.2.port hx 12 rfl
          rw [hpe] at d8
          rw [hho] at d13
          clear hcl ho hoj hx hpe hho hco hg
          go_wp2
          go_quiet (fail)
          have Bq : Below wr.heap.size wr (wr.drewN nq) := ⟨rfl, rfl, rfl, Nat.le_refl _, fun _ _ => rfl⟩
          have R6 := Lib.hid (show _ ∧ _ ∧ _ from ⟨R.out.1.below Bq, R.out.2.1.below Bq, R.out.2.2.below Bq⟩)
          generalize wr.drewN nq = w6 at R6 ⊢
          clear R Bq p0 d18 d8 d13
          go_wp2
          go_roundw
          case rel => exact ⟨k + 1, by omega, by go_num, R6⟩
          case measure => simp [intOf]; omega
        · have hki : ¬ (k : Int) < (m : Int) := by omega
          have HT1 := fun W => Lib.hid (telling_is t D2 n k2 W)
          have HT2 := fun W => Lib.hid (telling_is t A n cap W)
          have E := fun W => vec_eq t.ro t.co t.ow 0 t.ro t.co t.ow 0 true (by simp) W
          go_wp2
          refine wp_region_held_drew (S := (fun w' => Below wr.heap.size wr w')) (by kernel_rfl) ((Below.refl _ _).drew) (fun hHeld => ?_)
          refine wpAnyH_take (i := 0) (v := ?_) rfl (by kernel_rfl) (by kernel_rfl) (by kernel_rfl) (fun _ _ _ h => h) (Or.inl ⟨by kernel_rfl, ?_⟩) (by assumption) ?_
          rotate_left
          · intro w' hSw; (try dsimp only at hSw); go_simp; with_reducible rfl
          try simp only [Act.put, List.getElem_toArray, List.getElem_cons_succ, List.getElem_cons_zero, List.setIfInBounds_toArray, List.set_cons_succ, List.set_cons_zero]
          refine wpAnyH_take (i := 1) (v := ?_) rfl (by kernel_rfl) (by kernel_rfl) (by kernel_rfl) (fun _ _ _ h => h) (Or.inl ⟨by kernel_rfl, ?_⟩) (by assumption) ?_
          rotate_left
          · intro w' hSw; (try dsimp only at hSw); go_simp; with_reducible rfl
          try simp only [Act.put, List.getElem_toArray, List.getElem_cons_succ, List.getElem_cons_zero, List.setIfInBounds_toArray, List.set_cons_succ, List.set_cons_zero]
          refine wpAnyH_take (i := 2) (v := ?_) rfl (by kernel_rfl) (by kernel_rfl) (by kernel_rfl) (fun _ _ _ h => h) (Or.inl ⟨by kernel_rfl, ?_⟩) (by assumption) ?_
          rotate_left
          · intro w' hSw; (try dsimp only at hSw); go_simp; with_reducible rfl
          try simp only [Act.put, List.getElem_toArray, List.getElem_cons_succ, List.getElem_cons_zero, List.setIfInBounds_toArray, List.set_cons_succ, List.set_cons_zero]
          refine wpAnyH_take (i := 3) (v := ?_) rfl (by kernel_rfl) (by kernel_rfl) (by kernel_rfl) (fun _ _ _ h => h) (Or.inl ⟨by kernel_rfl, ?_⟩) (by assumption) ?_
          rotate_left
          · intro w' hSw; (try dsimp only at hSw); go_simp; with_reducible rfl
          try simp only [Act.put, List.getElem_toArray, List.getElem_cons_succ, List.getElem_cons_zero, List.setIfInBounds_toArray, List.set_cons_succ, List.set_cons_zero]
          refine wpAnyH_take (i := 4) (v := _) rfl (by kernel_rfl) (by kernel_rfl) (by kernel_rfl) (fun _ _ _ h => h) (Or.inl ⟨by kernel_rfl, fun w' hSw => exec_load_row 31 _ rfl V (by kernel_rfl) _ _ (0, 0) _ ((R.out.2.2.below hSw).bk) Tryd.underlying31 rfl (by kernel_rfl)⟩) (by assumption) ?_
          try simp only [Act.put, List.getElem_toArray, List.getElem_cons_succ, List.getElem_cons_zero, List.setIfInBounds_toArray, List.set_cons_succ, List.set_cons_zero]
          refine wpAnyH_take (i := 6) (v := _) rfl (by kernel_rfl) (by kernel_rfl) (by kernel_rfl) (fun _ _ _ h => h) (Or.inl ⟨by kernel_rfl, fun w' hSw => exec_load_row 31 _ rfl X (by kernel_rfl) _ _ (0, 0) _ ((R.out.1.below hSw).bk 0 rfl) Tryd.underlying31 rfl (by kernel_rfl)⟩) (by assumption) ?_
          try simp only [Act.put, List.getElem_toArray, List.getElem_cons_succ, List.getElem_cons_zero, List.setIfInBounds_toArray, List.set_cons_succ, List.set_cons_zero]
          refine wpAnyH_ready (rs := [5]) (by kernel_rfl) (by simp) ?_
          refine AllReadyH.cons rfl (fun K hK => ?_) AllReadyH.nil
          go_simp
          (with_reducible refine (HT1 _).out.mono ?_); rintro e w4 ⟨rfl, b4⟩
          have B4 : Below wr.heap.size wr w4 := Below.trans (Below.drew (Below.refl _ _)) (b4.mono (Nat.le_refl _))
          refine hK.out _ _ (B4) (fun hHeld => ?_)
          clear hK K
          try simp only [Act.put, List.getElem_toArray, List.getElem_cons_succ, List.getElem_cons_zero, List.setIfInBounds_toArray, List.set_cons_succ, List.set_cons_zero]
          refine wpAnyH_ready (rs := [7]) (by kernel_rfl) (by simp) ?_
          refine AllReadyH.cons rfl (fun K hK => ?_) AllReadyH.nil
          go_simp
          (with_reducible refine (HT2 _).out.mono ?_); rintro e w5 ⟨rfl, b5⟩
          have B5 : Below wr.heap.size wr w5 := B4.trans (b5.mono B4.size)
          refine hK.out _ _ (B5) (fun hHeld => ?_)
          clear hK K
          try simp only [Act.put, List.getElem_toArray, List.getElem_cons_succ, List.getElem_cons_zero, List.setIfInBounds_toArray, List.set_cons_succ, List.set_cons_zero]
          refine wpAnyH_take (i := 8) (v := ?_) rfl (by kernel_rfl) (by kernel_rfl) (by kernel_rfl) (fun _ _ _ h => h) (Or.inl ⟨by kernel_rfl, ?_⟩) (by assumption) ?_
          rotate_left
          · intro w' hSw; (try dsimp only at hSw); go_simp; with_reducible rfl
          try simp only [Act.put, List.getElem_toArray, List.getElem_cons_succ, List.getElem_cons_zero, List.setIfInBounds_toArray, List.set_cons_succ, List.set_cons_zero]
          refine wpAnyH_take (i := 9) (v := ?_) rfl (by kernel_rfl) (by kernel_rfl) (by kernel_rfl) (fun _ _ _ h => h) (Or.inl ⟨by kernel_rfl, ?_⟩) (by assumption) ?_
          rotate_left
          · intro w' hSw; (try dsimp only at hSw); go_simp; with_reducible rfl
          try simp only [Act.put, List.getElem_toArray, List.getElem_cons_succ, List.getElem_cons_zero, List.setIfInBounds_toArray, List.set_cons_succ, List.set_cons_zero]
          refine wpAnyH_take (i := 10) (v := ?_) rfl (by kernel_rfl) (by kernel_rfl) (by kernel_rfl) (fun _ _ _ h => h) (Or.inl ⟨by kernel_rfl, ?_⟩) (by assumption) ?_
          rotate_left
          · intro w' hSw; (try dsimp only at hSw); go_simp; with_reducible rfl
          try simp only [Act.put, List.getElem_toArray, List.getElem_cons_succ, List.getElem_cons_zero, List.setIfInBounds_toArray, List.set_cons_succ, List.set_cons_zero]
          refine wpAnyH_done (by kernel_rfl) ?_ _
          have BO := R.out.1.old.trans (B5.mono R.out.1.old.size)
          clear R
          go_wp2
          go_ret
          exact ⟨rfl, BO⟩

end Go.Proofs.YtcamakkicmapcaaDoor
