/- The law SendDetects, walked. -/
import Derived.Test.YtcamakkicmapcaaDoorPk11
import Derived.Test.YtcamakkicmapcaaDoorPk13
import Derived.Test.YtcamakkicmapcaaDoorPk12
namespace Go.Proofs.YtcamakkicmapcaaDoor
set_option maxRecDepth 100000
open Go.ChangeShapes Go.WideShapes Go.ChangeAt Go.RowKit
set_option linter.unusedVariables false
set_option linter.unusedSimpArgs false

set_option maxHeartbeats 2000000 in
theorem SendDetects_walk (t : Th) (A : Option Addr) (n cap : Nat) (L : List Po) (w : World) (hd : Hd w) (ht : ThB t) (hm : TmB t) (hL : L.length = n) (hn : n ≤ 9223372036854775807) (hz : A = none → cap = 0) (hb : ∀ x ∈ L, PoB x) (hp : PoAt w A w.heap.size L) :
    Calls Tryd.prog 4 #[.agg (lT t A n cap).toArray] w fun e w' => e = .returned (.bool true) ∧ Below w.heap.size w w' := by
  have HA := fun W (h : Below w.heap.size w W) => Lib.hid (awake14_is W (hd.below h (Nat.le_refl _)))
  have HD := Lib.hid hd
  have HB := Lib.hid hb
  have HTB := Lib.hid ht
  have HNB := Lib.hid (show (-9223372036854775808 ≤ t.n1 ∧ t.n1 ≤ 9223372036854775807 ∧ -9223372036854775808 ≤ t.n2 ∧ t.n2 ≤ 9223372036854775807 ∧ -9223372036854775808 ≤ t.n3 ∧ t.n3 ≤ 9223372036854775807) from hm)
  have HL := Lib.hid hL
  have HP := Lib.hid hp
  have HCZ := Lib.hid hz
  have HF := fun W (h : Below w.heap.size w W) => Lib.hid (fit_is t A n cap L HL hn W (Lib.hid ((HP.out.below h (Nat.le_refl _)).wide h.size)))
  clear hb hL hz hp ht hn hd hm
  obtain ⟨wb, hwb, S⟩ := hs_one w 31 (lT t A n cap)
  go_enter Tryd.func4, Tryd.ntmps4
  go_upto_region 1 with fail
  clear hwb
  obtain ⟨X, hX⟩ : ∃ X, w.heap.size = X := ⟨_, rfl⟩
  rw [hX] at S
  rw [hX]
  clear hX
  go_wp2_with fail
  (with_reducible refine (HA _ S.old).out.mono ?_); rintro e w1 ⟨rfl, b1⟩
  have S1 := S.below b1
  clear S b1
  have hx := S1.bk 0 rfl
  go_wp2_with (with_reducible refine wpList_load_rowG (by kernel_rfl) 31 (.tmp 1) rfl X (by kernel_rfl) _ _ (0, 0) _ hx Tryd.underlying31 rfl (by kernel_rfl) ?_)
  (with_reducible refine (HF _ S1.old).out.mono ?_); rintro e w2 ⟨q, rfl, hq, b2⟩
  have S2 := S1.below b2
  have HQ := Lib.hid hq
  clear S1 hx HF b2 hq
  cases q with
  | false =>
    go_wp2_with fail
    (with_reducible refine (HA _ S2.old).out.mono ?_); rintro e w3 ⟨rfl, b3⟩
    have S3 := S2.below b3
    clear S2 b3
    go_wp2
    go_ret
    exact ⟨rfl, S3.old⟩
  | true =>
    have HN := Lib.hid (HQ.out rfl).1
    have HU := Lib.hid (HQ.out rfl).2
    clear HQ
    have hn2 : n ≤ 200 := by have := HN.out; omega
    have HC := Lib.hid (sdetect_is t A n cap L HL hn2 HTB HCZ _ (HD.out.below S2.old (Nat.le_refl _)) (Lib.hid ((HP.out.below S2.old (Nat.le_refl _)).wide S2.old.size)))
    have hx := S2.bk 0 rfl
    go_upto_region 3 with fail
    go_wp2_with (with_reducible refine wpList_load_rowG (by kernel_rfl) 31 (.tmp 1) rfl X (by kernel_rfl) _ _ (0, 0) _ hx Tryd.underlying31 rfl (by kernel_rfl) ?_)
    (with_reducible refine (HC).out.mono ?_); rintro e x1 ⟨D1, k1, v1, rfl, hz1, T1, hO1⟩
    have S_1a := S2.below T1.old
    go_upto_region 4 with (refine wpList_store_row rfl 31 _ _ rfl _ _ rfl rfl _ _ (heap_alloc_new _ _) (by kernel_rfl) (by kernel_rfl) (by kernel_rfl) ?_)
    rw [alloc_row]
    have bN := new_below x1 (.cells (lT (detT t) D1 n k1).toArray 31)
    have KU_1 := AN.new (t := (detT t)) (n := n) (R := (L, detO t n)) hz1 T1.ports hO1
    have S_1 := S_1a.below bN
    obtain ⟨U, hG⟩ : ∃ G, x1.heap.size = G := ⟨_, rfl⟩
    rw [hG] at KU_1 ⊢
    obtain ⟨y1, hy⟩ : ∃ y, x1.alloc (.cells (lT (detT t) D1 n k1).toArray 31) = y := ⟨_, rfl⟩
    rw [hy] at S_1 KU_1  ⊢
    clear hy hG bN hz1 hO1 T1 S2 S_1a
    clear hx HC
    have HC := Lib.hid (rdetect_is t A n cap HTB y1)
    have hx := S_1.bk 0 rfl
    go_wp2_with (with_reducible refine wpList_load_rowG (by kernel_rfl) 31 (.tmp 1) rfl X (by kernel_rfl) _ _ (0, 0) _ hx Tryd.underlying31 rfl (by kernel_rfl) ?_)
    (with_reducible refine (HC).out.mono ?_); rintro e x2 ⟨v2, rfl, hO2, b2⟩
    have S_2a := S_1.below b2
    have KU_2a := KU_1.below b2
    go_upto_region 5 with (refine wpList_store_row rfl 31 _ _ rfl _ _ rfl rfl _ _ (heap_alloc_new _ _) (by kernel_rfl) (by kernel_rfl) (by kernel_rfl) ?_)
    rw [alloc_row]
    have bN := new_below x2 (.cells (lT (detT t) A n cap).toArray 31)
    have KV_2 := AN.new (t := (detT t)) (n := n) (R := (L, detO t n)) HCZ.out ((HP.out.below (S_1.old.trans (b2.mono S_1.old.size)) (Nat.le_refl _)).wide (S_1.old.trans (b2.mono S_1.old.size)).size) hO2
    have S_2 := S_2a.below bN
    have KU_2 := KU_2a.below bN
    obtain ⟨V, hG⟩ : ∃ G, x2.heap.size = G := ⟨_, rfl⟩
    rw [hG] at KV_2 ⊢
    obtain ⟨y2, hy⟩ : ∃ y, x2.alloc (.cells (lT (detT t) A n cap).toArray 31) = y := ⟨_, rfl⟩
    rw [hy] at S_2 KV_2 KU_2 ⊢
    clear hy hG bN hO2 b2 S_1 S_2a KU_1 KU_2a
    clear hx HC
    have HC := Lib.hid (acked_is t A n cap L HL hn2 HCZ _ (Lib.hid ((HP.out.below S_2.old (Nat.le_refl _)).wide S_2.old.size)))
    have hx := S_2.bk 0 rfl
    go_wp2_with (with_reducible refine wpList_load_rowG (by kernel_rfl) 31 (.tmp 1) rfl X (by kernel_rfl) _ _ (0, 0) _ hx Tryd.underlying31 rfl (by kernel_rfl) ?_)
    (with_reducible refine (HC).out.mono ?_); rintro e x3 ⟨D3, k3, rfl, hz3, T3⟩
    have S_3a := S_2.below T3.old
    have KU_3a := KU_2.below T3.old
    have KV_3a := KV_2.below T3.old
    go_upto_region 6 with (refine wpList_store_row rfl 31 _ _ rfl _ _ rfl rfl _ _ (heap_alloc_new _ _) (by kernel_rfl) (by kernel_rfl) (by kernel_rfl) ?_)
    rw [alloc_row]
    have bN := new_below x3 (.cells (lT ({ t with de := false, xo := false, xv := 0 } : Th) D3 n k3).toArray 31)
    have KP_3 := AN.new (t := ({ t with de := false, xo := false, xv := 0 } : Th)) (n := n) (R := (L, [])) hz3 T3.ports (OutsR.nil _ 0)
    have S_3 := S_3a.below bN
    have KU_3 := KU_3a.below bN
    have KV_3 := KV_3a.below bN
    obtain ⟨P, hG⟩ : ∃ G, x3.heap.size = G := ⟨_, rfl⟩
    rw [hG] at KP_3 ⊢
    obtain ⟨y3, hy⟩ : ∃ y, x3.alloc (.cells (lT ({ t with de := false, xo := false, xv := 0 } : Th) D3 n k3).toArray 31) = y := ⟨_, rfl⟩
    rw [hy] at S_3 KP_3 KU_3 KV_3 ⊢
    clear hy hG bN hz3 T3 S_2 S_3a KU_2 KU_3a KV_2 KV_3a
    clear hx HC
    have hx := S_3.bk 0 rfl
    go_upto_region 7 with (first | (with_reducible refine wpList_load_rowG (by kernel_rfl) 31 (.tmp 1) rfl X (by kernel_rfl) _ _ (0, 0) _ hx Tryd.underlying31 rfl (by kernel_rfl) ?_) | (refine wpList_store_row rfl 31 _ _ rfl _ _ rfl rfl _ _ (heap_alloc_new _ _) (by kernel_rfl) (by kernel_rfl) (by kernel_rfl) ?_))
    rw [alloc_row]
    clear hx
    have bN := new_below y3 (.cells (lT t A n cap).toArray 31)
    have SD := S_3.al rfl 31 (lT t A n cap)
    obtain ⟨O, hO⟩ : ∃ G, y3.heap.size = G := ⟨_, rfl⟩
    rw [hO] at SD ⊢
    obtain ⟨z, hz⟩ : ∃ y, y3.alloc (.cells (lT t A n cap).toArray 31) = y := ⟨_, rfl⟩
    rw [hz] at SD bN ⊢
    have BW := ((bN.setCell (p := ⟨O, 10, none⟩) (Nat.le_of_eq hO) (.bool false)).setCell (p := ⟨O, 14, none⟩) (Nat.le_of_eq hO) (.bool false)).setCell (p := ⟨O, 15, none⟩) (Nat.le_of_eq hO) (.int .i64 0)
    clear hz hO bN
    have c10 := SD.cell 0 10 rfl rfl
    have c14 := SD.cell 0 14 rfl rfl
    have c15 := SD.cell 0 15 rfl rfl
    have f10 := SD.thaw 0 10 rfl
    have f14 := SD.thaw 0 14 rfl
    have f15 := SD.thaw 0 15 rfl
    go_upto_region 9 with fail
    have SE : Hs w [(O, 31, lT ({ t with de := false, xo := false, xv := 0 } : Th) A n cap), (X, 31, lT t A n cap)] (((z.setCell ⟨O, 10, none⟩ (.bool false)).setCell ⟨O, 14, none⟩ (.bool false)).setCell ⟨O, 15, none⟩ (.int .i64 0)) := ((SD.set 0 rfl 10 (.bool false)).set 0 rfl 14 (.bool false)).set 0 rfl 15 (.int .i64 0)
    have KU_3e := KU_3.below BW
    have KV_3e := KV_3.below BW
    have KP_3e := KP_3.below BW
    generalize ((z.setCell ⟨O, 10, none⟩ (.bool false)).setCell ⟨O, 14, none⟩ (.bool false)).setCell ⟨O, 15, none⟩ (.int .i64 0) = y at SE KU_3e KV_3e KP_3e ⊢
    clear SD BW c10 c14 c15 f10 f14 f15 S_3 KU_3 KV_3 KP_3
    obtain ⟨A1, q1, rfl⟩ := KU_3e.outs.shape
    obtain ⟨A2, q2, rfl⟩ := KV_3e.outs.shape
    have hf1 : (detO t n).length ≤ 1 := by
      unfold detO tcnR
      split
      · simp
      · split
        · simp
        · split <;> simp
    obtain ⟨m1, hm1⟩ : ∃ m, (detO t n).length = m := ⟨_, rfl⟩
    rw [hm1] at KU_3e KV_3e hf1 ⊢
    have Hm1 := Lib.hid hm1
    clear hm1
    have hf2 : (tcnR t n).length ≤ 1 := by
      unfold tcnR
      split <;> simp
    obtain ⟨m2, hm2⟩ : ∃ m, (tcnR t n).length = m := ⟨_, rfl⟩
    rw [hm2] at hf2
    have Hm2 := Lib.hid hm2
    clear hm2
    refine wp_region_held_drew (S := (fun w' => Below y.heap.size y w')) (by kernel_rfl) ((Below.refl _ _).drew) (fun hHeld => ?_)
    have B0 : Below y.heap.size y y.drew := (Below.refl _ _).drew
    refine wpAnyH_take (i := 0) (v := _) rfl (by kernel_rfl) (by kernel_rfl) (by kernel_rfl) (fun _ _ _ h => h) (Or.inl ⟨by kernel_rfl, fun w' hSw => exec_load_row 31 _ rfl U (by kernel_rfl) _ _ (0, 0) _ ((KU_3e.below hSw).bk) Tryd.underlying31 rfl (by kernel_rfl)⟩) (by assumption) ?_
    try simp only [Act.put, List.getElem_toArray, List.getElem_cons_succ, List.getElem_cons_zero, List.setIfInBounds_toArray, List.set_cons_succ, List.set_cons_zero]
    refine wpAnyH_take (i := 1) (v := _) rfl (by kernel_rfl) (by kernel_rfl) (by kernel_rfl) (fun _ _ _ h => h) (Or.inl ⟨by kernel_rfl, fun w' hSw => exec_load_row 31 _ rfl V (by kernel_rfl) _ _ (0, 0) _ ((KV_3e.below hSw).bk) Tryd.underlying31 rfl (by kernel_rfl)⟩) (by assumption) ?_
    try simp only [Act.put, List.getElem_toArray, List.getElem_cons_succ, List.getElem_cons_zero, List.setIfInBounds_toArray, List.set_cons_succ, List.set_cons_zero]
    refine wpAnyH_ready (rs := [2]) (by kernel_rfl) (by simp) ?_
    refine AllReadyH.cons rfl (fun K hK => ?_) AllReadyH.nil
    go_simp
    (with_reducible refine ((Lib.hid (rsame_alike (detT t) D1 A n k1 cap L HL hn2 _ (Lib.hid (KU_3e.below B0).ports) (Lib.hid (KV_3e.below B0).ports)))).out.mono ?_); rintro e u1 ⟨rfl, c1⟩
    have B1 := B0.trans (c1.mono B0.size)
    refine hK.out _ _ (B1) (fun hHeld => ?_)
    clear hK K
    try simp only [Act.put, List.getElem_toArray, List.getElem_cons_succ, List.getElem_cons_zero, List.setIfInBounds_toArray, List.set_cons_succ, List.set_cons_zero]
    refine wpAnyH_take (i := 3) (v := ?_) rfl (by kernel_rfl) (by kernel_rfl) (by kernel_rfl) (fun _ _ _ h => h) (Or.inl ⟨by kernel_rfl, ?_⟩) (by assumption) ?_
    rotate_left
    · intro w' hSw; (try dsimp only at hSw); go_simp; with_reducible rfl
    try simp only [Act.put, List.getElem_toArray, List.getElem_cons_succ, List.getElem_cons_zero, List.setIfInBounds_toArray, List.set_cons_succ, List.set_cons_zero]
    refine wpAnyH_take (i := 4) (v := ?_) rfl (by kernel_rfl) (by kernel_rfl) (by kernel_rfl) (fun _ _ _ h => h) (Or.inl ⟨by kernel_rfl, ?_⟩) (by assumption) ?_
    rotate_left
    · intro w' hSw; (try dsimp only at hSw); go_simp; with_reducible rfl
    try simp only [Act.put, List.getElem_toArray, List.getElem_cons_succ, List.getElem_cons_zero, List.setIfInBounds_toArray, List.set_cons_succ, List.set_cons_zero]
    refine wpAnyH_take (i := 5) (v := ?_) rfl (by kernel_rfl) (by kernel_rfl) (by kernel_rfl) (fun _ _ _ h => h) (Or.inl ⟨by kernel_rfl, ?_⟩) (by assumption) ?_
    rotate_left
    · intro w' hSw; (try dsimp only at hSw); go_simp; with_reducible rfl
    try simp only [Act.put, List.getElem_toArray, List.getElem_cons_succ, List.getElem_cons_zero, List.setIfInBounds_toArray, List.set_cons_succ, List.set_cons_zero]
    refine wpAnyH_ready (rs := [6]) (by kernel_rfl) (by simp) ?_
    refine AllReadyH.cons rfl (fun K hK => ?_) AllReadyH.nil
    go_simp
    (with_reducible refine ((Lib.hid (rsame_outs (detO t n) A1 A2 m1 q1 q2 0 0 Hm1 (by omega) _ (Lib.hid (KU_3e.below B1).outs) (Lib.hid (KV_3e.below B1).outs)))).out.mono ?_); rintro e u2 ⟨rfl, c2⟩
    have B2 := B1.trans (c2.mono B1.size)
    refine hK.out _ _ (B2) (fun hHeld => ?_)
    clear hK K
    try simp only [Act.put, List.getElem_toArray, List.getElem_cons_succ, List.getElem_cons_zero, List.setIfInBounds_toArray, List.set_cons_succ, List.set_cons_zero]
    refine wpAnyH_take (i := 7) (v := ?_) rfl (by kernel_rfl) (by kernel_rfl) (by kernel_rfl) (fun _ _ _ h => h) (Or.inl ⟨by kernel_rfl, ?_⟩) (by assumption) ?_
    rotate_left
    · intro w' hSw; (try dsimp only at hSw); go_simp; with_reducible rfl
    try simp only [Act.put, List.getElem_toArray, List.getElem_cons_succ, List.getElem_cons_zero, List.setIfInBounds_toArray, List.set_cons_succ, List.set_cons_zero]
    refine wpAnyH_take (i := 8) (v := ?_) rfl (by kernel_rfl) (by kernel_rfl) (by kernel_rfl) (fun _ _ _ h => h) (Or.inl ⟨by kernel_rfl, ?_⟩) (by assumption) ?_
    rotate_left
    · intro w' hSw; (try dsimp only at hSw); go_simp; with_reducible rfl
    try simp only [Act.put, List.getElem_toArray, List.getElem_cons_succ, List.getElem_cons_zero, List.setIfInBounds_toArray, List.set_cons_succ, List.set_cons_zero]
    refine wpAnyH_take (i := 9) (v := _) rfl (by kernel_rfl) (by kernel_rfl) (by kernel_rfl) (fun _ _ _ h => h) (Or.inl ⟨by kernel_rfl, fun w' hSw => exec_load_row 31 _ rfl P (by kernel_rfl) _ _ (0, 0) _ ((KP_3e.below hSw).bk) Tryd.underlying31 rfl (by kernel_rfl)⟩) (by assumption) ?_
    try simp only [Act.put, List.getElem_toArray, List.getElem_cons_succ, List.getElem_cons_zero, List.setIfInBounds_toArray, List.set_cons_succ, List.set_cons_zero]
    refine wpAnyH_take (i := 10) (v := _) rfl (by kernel_rfl) (by kernel_rfl) (by kernel_rfl) (fun _ _ _ h => h) (Or.inl ⟨by kernel_rfl, fun w' hSw => exec_load_row 31 _ rfl O (by kernel_rfl) _ _ (0, 0) _ ((SE.below hSw).bk 0 rfl) Tryd.underlying31 rfl (by kernel_rfl)⟩) (by assumption) ?_
    try simp only [Act.put, List.getElem_toArray, List.getElem_cons_succ, List.getElem_cons_zero, List.setIfInBounds_toArray, List.set_cons_succ, List.set_cons_zero]
    refine wpAnyH_ready (rs := [11]) (by kernel_rfl) (by simp) ?_
    refine AllReadyH.cons rfl (fun K hK => ?_) AllReadyH.nil
    go_simp
    (with_reducible refine ((Lib.hid (rsame_alike ({ t with de := false, xo := false, xv := 0 } : Th) D3 A n k3 cap L HL hn2 _ (Lib.hid (KP_3e.below B2).ports) (Lib.hid ((HP.out.below (SE.old.trans (B2.mono SE.old.size)) (Nat.le_refl _)).wide (SE.old.trans (B2.mono SE.old.size)).size))))).out.mono ?_); rintro e u3 ⟨rfl, c3⟩
    have B3 := B2.trans (c3.mono B2.size)
    refine hK.out _ _ (B3) (fun hHeld => ?_)
    clear hK K
    try simp only [Act.put, List.getElem_toArray, List.getElem_cons_succ, List.getElem_cons_zero, List.setIfInBounds_toArray, List.set_cons_succ, List.set_cons_zero]
    refine wpAnyH_take (i := 12) (v := ?_) rfl (by kernel_rfl) (by kernel_rfl) (by kernel_rfl) (fun _ _ _ h => h) (Or.inl ⟨by kernel_rfl, ?_⟩) (by assumption) ?_
    rotate_left
    · intro w' hSw; (try dsimp only at hSw); go_simp; with_reducible rfl
    try simp only [Act.put, List.getElem_toArray, List.getElem_cons_succ, List.getElem_cons_zero, List.setIfInBounds_toArray, List.set_cons_succ, List.set_cons_zero]
    refine wpAnyH_take (i := 13) (v := ?_) rfl (by kernel_rfl) (by kernel_rfl) (by kernel_rfl) (fun _ _ _ h => h) (Or.inl ⟨by kernel_rfl, ?_⟩) (by assumption) ?_
    rotate_left
    · intro w' hSw; (try dsimp only at hSw); go_simp; with_reducible rfl
    try simp only [Act.put, List.getElem_toArray, List.getElem_cons_succ, List.getElem_cons_zero, List.setIfInBounds_toArray, List.set_cons_succ, List.set_cons_zero]
    refine wpAnyH_take (i := 14) (v := _) rfl (by kernel_rfl) (by kernel_rfl) (by kernel_rfl) (fun _ _ _ h => h) (Or.inl ⟨by kernel_rfl, fun w' hSw => exec_load_row 31 _ rfl X (by kernel_rfl) _ _ (0, 0) _ ((SE.below hSw).bk 1 rfl) Tryd.underlying31 rfl (by kernel_rfl)⟩) (by assumption) ?_
    try simp only [Act.put, List.getElem_toArray, List.getElem_cons_succ, List.getElem_cons_zero, List.setIfInBounds_toArray, List.set_cons_succ, List.set_cons_zero]
    refine wpAnyH_take (i := 16) (v := _) rfl (by kernel_rfl) (by kernel_rfl) (by kernel_rfl) (fun _ _ _ h => h) (Or.inl ⟨by kernel_rfl, fun w' hSw => exec_load_row 31 _ rfl X (by kernel_rfl) _ _ (0, 0) _ ((SE.below hSw).bk 1 rfl) Tryd.underlying31 rfl (by kernel_rfl)⟩) (by assumption) ?_
    try simp only [Act.put, List.getElem_toArray, List.getElem_cons_succ, List.getElem_cons_zero, List.setIfInBounds_toArray, List.set_cons_succ, List.set_cons_zero]
    refine wpAnyH_ready (rs := [15]) (by kernel_rfl) (by simp) ?_
    refine AllReadyH.cons rfl (fun K hK => ?_) AllReadyH.nil
    go_simp
    (with_reducible refine ((Lib.hid (stcn_is t A n cap HTB _ (HD.out.below (SE.old.trans (B3.mono SE.old.size)) (Nat.le_refl _))))).out.mono ?_); rintro e u4 ⟨v4, rfl, hO4, c4⟩
    have B4 := B3.trans (c4.mono B3.size)
    refine hK.out _ _ (B4) (fun hHeld => ?_)
    clear hK K
    try simp only [Act.put, List.getElem_toArray, List.getElem_cons_succ, List.getElem_cons_zero, List.setIfInBounds_toArray, List.set_cons_succ, List.set_cons_zero]
    refine wpAnyH_ready (rs := [17]) (by kernel_rfl) (by simp) ?_
    refine AllReadyH.cons rfl (fun K hK => ?_) AllReadyH.nil
    go_simp
    (with_reducible refine ((Lib.hid (rtcn_is t A n cap HTB _))).out.mono ?_); rintro e u5 ⟨v5, rfl, hO5, c5⟩
    have B5 := B4.trans (c5.mono B4.size)
    refine hK.out _ _ (B5) (fun hHeld => ?_)
    clear hK K
    try simp only [Act.put, List.getElem_toArray, List.getElem_cons_succ, List.getElem_cons_zero, List.setIfInBounds_toArray, List.set_cons_succ, List.set_cons_zero]
    have hO4 := hO4.below c5
    obtain ⟨A4, q4, rfl⟩ := hO4.shape
    obtain ⟨A5, q5, rfl⟩ := hO5.shape
    rw [Hm2.out] at hO4 hO5
    try rw [Hm2.out]
    refine wpAnyH_ready (rs := [18]) (by kernel_rfl) (by simp) ?_
    refine AllReadyH.cons rfl (fun K hK => ?_) AllReadyH.nil
    go_simp
    (with_reducible refine ((Lib.hid (rsame_outs (tcnR t n) A4 A5 m2 q4 q5 _ _ Hm2 (by omega) _ (Lib.hid hO4) (Lib.hid hO5)))).out.mono ?_); rintro e u6 ⟨rfl, c6⟩
    have B6 := B5.trans (c6.mono B5.size)
    refine hK.out _ _ (B6) (fun hHeld => ?_)
    clear hK K
    try simp only [Act.put, List.getElem_toArray, List.getElem_cons_succ, List.getElem_cons_zero, List.setIfInBounds_toArray, List.set_cons_succ, List.set_cons_zero]
    refine wpAnyH_take (i := 19) (v := ?_) rfl (by kernel_rfl) (by kernel_rfl) (by kernel_rfl) (fun _ _ _ h => h) (Or.inl ⟨by kernel_rfl, ?_⟩) (by assumption) ?_
    rotate_left
    · intro w' hSw; (try dsimp only at hSw); go_simp; with_reducible rfl
    try simp only [Act.put, List.getElem_toArray, List.getElem_cons_succ, List.getElem_cons_zero, List.setIfInBounds_toArray, List.set_cons_succ, List.set_cons_zero]
    refine wpAnyH_take (i := 20) (v := ?_) rfl (by kernel_rfl) (by kernel_rfl) (by kernel_rfl) (fun _ _ _ h => h) (Or.inl ⟨by kernel_rfl, ?_⟩) (by assumption) ?_
    rotate_left
    · intro w' hSw; (try dsimp only at hSw); go_simp; with_reducible rfl
    try simp only [Act.put, List.getElem_toArray, List.getElem_cons_succ, List.getElem_cons_zero, List.setIfInBounds_toArray, List.set_cons_succ, List.set_cons_zero]
    refine wpAnyH_done (by kernel_rfl) ?_ _
    have BO := SE.old.trans (B6.mono SE.old.size)
    clear SE KU_3e KV_3e KP_3e
    go_wp2
    go_ret
    exact ⟨rfl, BO⟩

end Go.Proofs.YtcamakkicmapcaaDoor
