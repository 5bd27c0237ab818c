/- Several texts in one, one behind the other: TreeRefDes, HeardRefSettle. -/
import Derived.Test.YtnmnihlhcokjpaaGreatDoorPk27
import Derived.Test.YtnmnihlhcokjpaaGreatDoorPk05
import Derived.Test.YtnmnihlhcokjpaaGreatDoorPk26
import Derived.Test.YtnmnihlhcokjpaaGreatDoorPk09

/- The document's Designate: contract. -/
namespace Go.Proofs.YtnmnihlhcokjpaaGreatDoor
set_option maxRecDepth 100000
open Go.ChangeShapes Go.WideShapes Go.ChangeAt Go.RowKit
set_option linter.unusedVariables false
set_option linter.unusedSimpArgs false

theorem takesB_doc (t : Th) (p : Po) : takesB t p = (desB p t.ow || (decide (p.hr ≠ t.ro) || !lessB (heldV p) (ownV t p))) := by unfold takesB; rw [takesB_ref]

set_option maxRecDepth 100000 in
set_option maxHeartbeats 2000000 in
theorem rdesig_all (t : Th) (A : Option Addr) (n cap : Nat) (L : List Po) (hL : Hid (L.length = n)) (hf : n ≤ 200) (hc : Hid (A = none → cap = 0)) (w : World) (hp : Hid (PoAt w A w.heap.size L)) :
    Calls Tryz.prog 60 #[.agg (lT t A n cap).toArray] w (TOut w t n (desL t L)) := by
  obtain ⟨wb, hwb, S⟩ := hs_two w 31 31 (lT t A n cap) [.int .u64 0, .int .u64 0, .int .u32 0, .int .i64 0, .int .i64 0, .int .i64 0, .int .i64 0, .int .i64 0, .int .i64 0, .int .i64 0, .bool false, .bool false, .bool false, .int .i64 0, .bool false, .int .i64 0, .bool false, .int .i64 0, .slice none 0 0]
  go_enter Tryz.func60, Tryz.ntmps60
  go_upto_region 1 with fail
  clear hwb
  obtain ⟨X, hX⟩ : ∃ X, w.heap.size = X := ⟨_, rfl⟩
  rw [hX] at S
  obtain ⟨Y, hY⟩ : ∃ Y, X + 1 = Y := ⟨_, rfl⟩
  rw [hY] at S
  rw [hX]
  rw [hY]
  clear hX hY
  have hp1 := Lib.hid ((hp.out.below S.old (Nat.le_refl _)).wide S.old.size)
  have HC := Lib.hid (rcopied_is t A n cap L hL hf hc wb hp1)
  have hx := S.bk 1 rfl
  go_wp2_with (refine wpList_load_row rfl 31 _ rfl X rfl _ _ (0, 0) _ hx Tryz.underlying31 rfl (by kernel_rfl) ?_)
  (with_reducible refine HC.out.mono ?_); rintro e w1 ⟨D, cap', rfl, hz, k1⟩
  have S1 := TS.take S k1
  have HZ := Lib.hid hz
  clear S hx HC hp1 k1 hz
  have hx := S1.hs.bk 1 rfl
  go_upto_region 2 with (refine wpList_store_row rfl 31 _ _ rfl X _ rfl rfl _ _ hx (by kernel_rfl) (by kernel_rfl) (by kernel_rfl) ?_)
  have S2 : TS w [(Y, 31, [.int .u64 0, .int .u64 0, .int .u32 0, .int .i64 0, .int .i64 0, .int .i64 0, .int .i64 0, .int .i64 0, .int .i64 0, .int .i64 0, .bool false, .bool false, .bool false, .int .i64 0, .bool false, .int .i64 0, .bool false, .int .i64 0, .slice none 0 0]), (X, 31, lT t D n cap')] D L _ := S1.row 1 rfl (lT t D n cap')
  generalize w1.setRow X (lT t D n cap').toArray = w2 at S2 ⊢
  clear S1 hx
  go_wp2
  go_loopw [3] (fun i wr => ∃ k : Nat, k ≤ n ∧ i = .int .i64 k ∧ TS w [(Y, 31, [.int .u64 0, .int .u64 0, .int .u32 0, .int .i64 0, .int .i64 0, .int .i64 0, .int .i64 0, .int .i64 0, .int .i64 0, .int .i64 0, .bool false, .bool false, .bool false, .int .i64 0, .bool false, .int .i64 0, .bool false, .int .i64 0, .slice none 0 0]), (X, 31, lT t D n cap')] D (mixL (fun _ p => desP t p) k L) wr) (fun i _ => n - (intOf i).toNat)
  case atStart => exact ⟨0, Nat.zero_le _, rfl, by rw [mixL_zero]; exact S2⟩
  case round =>
    clear S2
    obtain ⟨k, hk, rfl, S⟩ := hrel
    have c18 := S.hs.cell 1 18 rfl rfl
    by_cases hkn : k < n
    · obtain ⟨x, hx⟩ := po_at hL.out hkn
      have hki : (k : Int) < (n : Int) := by omega
      have hkz : ¬ (n : Int) ≤ (k : Int) := by omega
      have HM := Lib.hid (mixL_at (f := fun _ p => desP t p) hx)
      have HX := Lib.hid hx
      obtain ⟨g, hD, -⟩ := S.at HM.out
      subst hD
      have HML := Lib.hid (show (mixL (fun _ p => desP t p) k L).length = n by rw [mixL_len, hL.out])
      clear hx
      go_upto_region 5 with fail
      have c0 := S.hs.cell 1 0 rfl rfl
      have c1 := S.hs.cell 1 1 rfl rfl
      have c2 := S.hs.cell 1 2 rfl rfl
      obtain ⟨g', e', -, hcl, -⟩ := S.at HM.out
      obtain rfl : g = g' := by injection Option.some.inj e'
      have p0 : wr.cell? ⟨g, k * 15, none⟩ = some (.int .u16 x.id) := hcl 0 _ rfl
      clear e' hcl
      refine wp_region_held_drew (S := (fun w' => Below wr.heap.size wr w')) (by kernel_rfl) ((Below.refl _ _).drew) (fun hHeld => ?_)
      refine wpAnyH_take (i := 0) (v := ?_) rfl (by kernel_rfl) (by kernel_rfl) (by kernel_rfl) (fun _ _ _ h => h) (Or.inl ⟨by kernel_rfl, ?_⟩) (by assumption) ?_
      rotate_left
      · intro w' hSw; (try dsimp only at hSw); go_simp; with_reducible rfl
      try simp only [Act.put, List.setIfInBounds_toArray, List.set_cons_succ]
      refine wpAnyH_take (i := 1) (v := ?_) rfl (by kernel_rfl) (by kernel_rfl) (by kernel_rfl) (fun _ _ _ h => h) (Or.inl ⟨by kernel_rfl, ?_⟩) (by assumption) ?_
      rotate_left
      · intro w' hSw; (try dsimp only at hSw); have c0 := (S.below hSw).hs.cell 1 1 rfl rfl; go_simp; with_reducible rfl
      try simp only [Act.put, List.setIfInBounds_toArray, List.set_cons_succ]
      refine wpAnyH_take (i := 2) (v := ?_) rfl (by kernel_rfl) (by kernel_rfl) (by kernel_rfl) (fun _ _ _ h => h) (Or.inl ⟨by kernel_rfl, ?_⟩) (by assumption) ?_
      rotate_left
      · intro w' hSw; (try dsimp only at hSw); go_simp; with_reducible rfl
      try simp only [Act.put, List.setIfInBounds_toArray, List.set_cons_succ]
      refine wpAnyH_take (i := 3) (v := ?_) rfl (by kernel_rfl) (by kernel_rfl) (by kernel_rfl) (fun _ _ _ h => h) (Or.inl ⟨by kernel_rfl, ?_⟩) (by assumption) ?_
      rotate_left
      · intro w' hSw; (try dsimp only at hSw); have c0 := (S.below hSw).hs.cell 1 2 rfl rfl; go_simp; with_reducible rfl
      try simp only [Act.put, List.setIfInBounds_toArray, List.set_cons_succ]
      refine wpAnyH_take (i := 4) (v := ?_) rfl (by kernel_rfl) (by kernel_rfl) (by kernel_rfl) (fun _ _ _ h => h) (Or.inl ⟨by kernel_rfl, ?_⟩) (by assumption) ?_
      rotate_left
      · intro w' hSw; (try dsimp only at hSw); go_simp; with_reducible rfl
      try simp only [Act.put, List.setIfInBounds_toArray, List.set_cons_succ]
      refine wpAnyH_take (i := 5) (v := ?_) rfl (by kernel_rfl) (by kernel_rfl) (by kernel_rfl) (fun _ _ _ h => h) (Or.inl ⟨by kernel_rfl, ?_⟩) (by assumption) ?_
      rotate_left
      · intro w' hSw; (try dsimp only at hSw); have c0 := (S.below hSw).hs.cell 1 0 rfl rfl; go_simp; with_reducible rfl
      try simp only [Act.put, List.setIfInBounds_toArray, List.set_cons_succ]
      refine wpAnyH_take (i := 6) (v := ?_) rfl (by kernel_rfl) (by kernel_rfl) (by kernel_rfl) (fun _ _ _ h => h) (Or.inl ⟨by kernel_rfl, ?_⟩) (by assumption) ?_
      rotate_left
      · intro w' hSw; (try dsimp only at hSw); go_simp; with_reducible rfl
      try simp only [Act.put, List.setIfInBounds_toArray, List.set_cons_succ]
      refine wpAnyH_take (i := 7) (v := ?_) rfl (by kernel_rfl) (by kernel_rfl) (by kernel_rfl) (fun _ _ _ h => h) (Or.inl ⟨by kernel_rfl, ?_⟩) (by assumption) ?_
      rotate_left
      · intro w' hSw; (try dsimp only at hSw); have c0 := (S.below hSw).hs.cell 1 18 rfl rfl; go_simp; with_reducible rfl
      try simp only [Act.put, List.setIfInBounds_toArray, List.set_cons_succ]
      refine wpAnyH_take (i := 8) (v := ?_) rfl (by kernel_rfl) (by kernel_rfl) (by kernel_rfl) (fun _ _ _ h => h) (Or.inl ⟨by kernel_rfl, ?_⟩) (by assumption) ?_
      rotate_left
      · intro w' hSw; (try dsimp only at hSw); go_simp; with_reducible rfl
      try simp only [Act.put, List.setIfInBounds_toArray, List.set_cons_succ]
      refine wpAnyH_take (i := 9) (v := ?_) rfl (by kernel_rfl) (by kernel_rfl) (by kernel_rfl) (fun _ _ _ h => h) (Or.inl ⟨by kernel_rfl, ?_⟩) (by assumption) ?_
      rotate_left
      · intro w' hSw; (try dsimp only at hSw); go_simp; with_reducible rfl
      try simp only [Act.put, List.setIfInBounds_toArray, List.set_cons_succ]
      refine wpAnyH_take (i := 10) (v := ?_) rfl (by kernel_rfl) (by kernel_rfl) (by kernel_rfl) (fun _ _ _ h => h) (Or.inl ⟨by kernel_rfl, ?_⟩) (by assumption) ?_
      rotate_left
      · intro w' hSw; (try dsimp only at hSw); go_simp; with_reducible rfl
      try simp only [Act.put, List.getElem_toArray, List.getElem_cons_succ, List.getElem_cons_zero, List.setIfInBounds_toArray, List.set_cons_succ]
      refine wpAnyH_take (i := 11) (v := ?_) rfl (by kernel_rfl) (by kernel_rfl) (by kernel_rfl) (fun _ _ _ h => h) (Or.inl ⟨by kernel_rfl, ?_⟩) (by assumption) ?_
      rotate_left
      · intro w' hSw; (try dsimp only at hSw); have c0 := (hSw.cell (S.at_lt HM.out)).trans p0; go_simp; with_reducible rfl
      try simp only [Act.put, List.getElem_toArray, List.getElem_cons_succ, List.getElem_cons_zero, List.setIfInBounds_toArray, List.set_cons_succ]
      refine wpAnyH_take (i := 12) (v := ?_) rfl (by kernel_rfl) (by kernel_rfl) (by kernel_rfl) (fun _ _ _ h => h) (Or.inl ⟨by kernel_rfl, ?_⟩) (by assumption) ?_
      rotate_left
      · intro w' hSw; (try dsimp only at hSw); go_simp; with_reducible rfl
      try simp only [Act.put, List.getElem_toArray, List.getElem_cons_succ, List.getElem_cons_zero, List.setIfInBounds_toArray, List.set_cons_succ]
      have hH0 := hHeld
      refine wpAnyH_ready (rs := [13]) (by kernel_rfl) (by simp) ?_
      refine AllReadyH.cons rfl (fun K hK => ?_) AllReadyH.nil
      go_simp
      refine hK.out _ _ (hHeld.alloc hHeld.size _) (fun hHeld => ?_)
      clear hK K
      try simp only [Act.put, List.getElem_toArray, List.getElem_cons_succ, List.getElem_cons_zero, List.setIfInBounds_toArray, List.set_cons_succ]
      have T1 := (S.al rfl 61 [.int .u64 0, .int .u32 0, .int .u64 0, .int .u16 0]).below (wy := World.drew _) ((Below.refl _ _).drew)
      obtain ⟨V, hV⟩ : ∃ V, wr.heap.size = V := ⟨_, rfl⟩
      rw [hV] at T1 hHeld ⊢
      have hv := T1.hs.bk 0 rfl
      refine wpAnyH_ready (rs := [14]) (by kernel_rfl) (by simp) ?_
      refine AllReadyH.cons rfl (fun K hK => ?_) AllReadyH.nil
      refine exec_if_store (by kernel_rfl) 61 _ _ rfl V ([.int .u64 t.ro, .int .u32 t.co, .int .u64 t.ow, .int .u16 x.id] : List Value).toArray (by kernel_rfl) (by kernel_rfl) _ _ (hv) (by kernel_rfl) (by kernel_rfl) (by kernel_rfl) ?_
      refine hK.out _ _ (below_setRow hHeld (Nat.le_refl V) _) (fun hHeld => ?_)
      clear hK K
      try simp only [Act.put, List.getElem_toArray, List.getElem_cons_succ, List.getElem_cons_zero, List.setIfInBounds_toArray, List.set_cons_succ]
      refine wpAnyH_done (by kernel_rfl) ?_ _
      have T2 := T1.row 0 rfl [.int .u64 t.ro, .int .u32 t.co, .int .u64 t.ow, .int .u16 x.id]
      simp only [List.set] at T2
      generalize ((wr.alloc (.cells #[.int .u64 0, .int .u32 0, .int .u64 0, .int .u16 0] 61)).drew).setRow V ([.int .u64 t.ro, .int .u32 t.co, .int .u64 t.ow, .int .u16 x.id] : List Value).toArray = w2 at T2 ⊢
      clear T1 S hV hv hHeld hH0 c0 c1 c2 p0 c18
      go_upto_region 6 with fail
      obtain ⟨d, hd⟩ : ∃ d, desB x t.ow = d := ⟨_, rfl⟩
      have HD := fun q : LaterW w2 => Lib.hid (rdes_is t (some ⟨g, 0, none⟩) n cap' (mixL (fun _ p => desP t p) k L) HML k x HM d (Lib.hid hd) q.w' (Lib.hid (T2.below q.h).ports))
      have HDD := Lib.hid hd
      clear hd
      have c18 := fun q : LaterW w2 => (T2.below q.h).hs.cell 2 18 rfl rfl
      have c1 := fun q : LaterW w2 => (T2.below q.h).hs.cell 2 1 rfl rfl
      have v0 := fun q : LaterW w2 => (T2.below q.h).hs.cell 0 0 rfl rfl
      have v1 := fun q : LaterW w2 => (T2.below q.h).hs.cell 0 1 rfl rfl
      have v2 := fun q : LaterW w2 => (T2.below q.h).hs.cell 0 2 rfl rfl
      have v3 := fun q : LaterW w2 => (T2.below q.h).hs.cell 0 3 rfl rfl
      have p3 : ∀ q : LaterW w2, q.w'.cell? ⟨g, k * 15 + 3, none⟩ = some (.int .u64 x.hr) := fun q => (T2.below q.h).port_cell HM.out 3 rfl
      have p4 : ∀ q : LaterW w2, q.w'.cell? ⟨g, k * 15 + 3 + 1, none⟩ = some (.int .u32 x.hc) := fun q => (T2.below q.h).port_cell HM.out 4 rfl
      have p5 : ∀ q : LaterW w2, q.w'.cell? ⟨g, k * 15 + 3 + 2, none⟩ = some (.int .u64 x.hb) := fun q => (T2.below q.h).port_cell HM.out 5 rfl
      have p6 : ∀ q : LaterW w2, q.w'.cell? ⟨g, k * 15 + 3 + 3, none⟩ = some (.int .u16 x.hp) := fun q => (T2.below q.h).port_cell HM.out 6 rfl
      obtain ⟨b1, hb1⟩ : ∃ b, (x.hr != t.ro) = b := ⟨_, rfl⟩
      obtain ⟨b2, hb2⟩ : ∃ b, lessB (heldV x) (ownV t x) = b := ⟨_, rfl⟩
      have HT := Lib.hid (show takesB t x = (d || (b1 || !b2)) by rw [takesB_doc, HDD.out, hb2, ← hb1]; congr 2; rw [Bool.eq_iff_iff]; simp)
      have HP1 := fun q : LaterW w2 => Lib.hid (plain_v (heldV x) q.w')
      have HP2 := fun q : LaterW w2 => Lib.hid (plain_v (ownV t x) q.w')
      have HLS := fun q : LaterW w2 => Lib.hid (less_is (heldV x) (ownV t x) b2 (Lib.hid hb2) q.w')
      dsimp only [heldV, ownV] at HP1 HP2 HLS
      clear hb2
      cases d with
      | true =>
        refine region_later mixedL (by kernel_rfl) ?_
        (refine BigFrame.wpQuiet_want (by kernel_rfl) (fun K hK => ?_); refine quiet_load_row 31 _ rfl X (by kernel_rfl) _ _ (0, 0) _ (T2.hs.bkq 2 rfl) Tryz.underlying31 rfl (by kernel_rfl) ?_; refine hK _ ?_; clear hK; go_simp)
        go_big_quiet_step (fail)
        go_big_quiet_step ((go_at_call 90; with_reducible exact Calls.later (HD _).out))
        repeat (go_big_quiet_step (fail))
        refine wpQuiet_nil ?_
        intro r
        have T3 := T2.below r.h
        generalize r.w' = w3 at T3 ⊢
        clear T2 HD HP1 HP2 HLS c18 c1 v0 v1 v2 v3 p3 p4 p5 p6
        have he : desP t x = becomeP t x := by unfold desP; rw [if_pos (by rw [HT.out]; rfl)]
        have c18 := T3.hs.cell 2 18 rfl rfl
        have hv := T3.hs.bk 0 rfl
        have hth : World.there _ g (k * 15 + 3) ([.int .u64 t.ro, .int .u32 t.co, .int .u64 t.ow, .int .u16 x.id] : List Value).toArray.size := T3.there4 HM.out
        go_wp2_with (first | (with_reducible refine wpList_load_row rfl 61 (.tmp 4) rfl V (by kernel_rfl) _ _ (0, 0) _ hv Tryz.underlying61 rfl (by kernel_rfl) ?_) | (with_reducible refine wpList_store_mid rfl 61 (.tmp 60) _ rfl g (k * 15 + 3) ([.int .u64 t.ro, .int .u32 t.co, .int .u64 t.ow, .int .u16 x.id] : List Value).toArray (by kernel_rfl) (by kernel_rfl) hth (by kernel_rfl) (by kernel_rfl) ?_))
        go_roundw
        case rel =>
          have T9 := T3.put (y := becomeP t x) HM.out 3 [.int .u64 t.ro, .int .u32 t.co, .int .u64 t.ow, .int .u16 x.id] (Nat.le_of_ble_eq_true rfl) rfl
          have q := mixL_set (f := fun _ p => desP t p) HX.out
          rw [he] at q
          rw [q] at T9
          exact ⟨k + 1, by omega, by go_num, T9.tail⟩
        case measure => simp [intOf]; omega
      | false =>
        cases b1 with
        | true =>
          refine region_later mixedL (by kernel_rfl) ?_
          (refine BigFrame.wpQuiet_want (by kernel_rfl) (fun K hK => ?_); refine quiet_load_row 31 _ rfl X (by kernel_rfl) _ _ (0, 0) _ (T2.hs.bkq 2 rfl) Tryz.underlying31 rfl (by kernel_rfl) ?_; refine hK _ ?_; clear hK; go_simp)
          go_big_quiet_step (fail)
          go_big_quiet_step ((go_at_call 90; with_reducible exact Calls.later (HD _).out))
          repeat (go_big_quiet_step (fail))
          refine wpQuiet_nil ?_
          intro r
          have T3 := T2.below r.h
          generalize r.w' = w3 at T3 ⊢
          clear T2 HD HP1 HP2 HLS c18 c1 v0 v1 v2 v3 p3 p4 p5 p6
          have he : desP t x = becomeP t x := by unfold desP; rw [if_pos (by rw [HT.out]; rfl)]
          have c18 := T3.hs.cell 2 18 rfl rfl
          have hv := T3.hs.bk 0 rfl
          have hth : World.there _ g (k * 15 + 3) ([.int .u64 t.ro, .int .u32 t.co, .int .u64 t.ow, .int .u16 x.id] : List Value).toArray.size := T3.there4 HM.out
          go_wp2_with (first | (with_reducible refine wpList_load_row rfl 61 (.tmp 4) rfl V (by kernel_rfl) _ _ (0, 0) _ hv Tryz.underlying61 rfl (by kernel_rfl) ?_) | (with_reducible refine wpList_store_mid rfl 61 (.tmp 60) _ rfl g (k * 15 + 3) ([.int .u64 t.ro, .int .u32 t.co, .int .u64 t.ow, .int .u16 x.id] : List Value).toArray (by kernel_rfl) (by kernel_rfl) hth (by kernel_rfl) (by kernel_rfl) ?_))
          go_roundw
          case rel =>
            have T9 := T3.put (y := becomeP t x) HM.out 3 [.int .u64 t.ro, .int .u32 t.co, .int .u64 t.ow, .int .u16 x.id] (Nat.le_of_ble_eq_true rfl) rfl
            have q := mixL_set (f := fun _ p => desP t p) HX.out
            rw [he] at q
            rw [q] at T9
            exact ⟨k + 1, by omega, by go_num, T9.tail⟩
          case measure => simp [intOf]; omega
        | false =>
          refine region_later mixedL (by kernel_rfl) ?_
          (refine BigFrame.wpQuiet_want (by kernel_rfl) (fun K hK => ?_); refine quiet_load_row 31 _ rfl X (by kernel_rfl) _ _ (0, 0) _ (T2.hs.bkq 2 rfl) Tryz.underlying31 rfl (by kernel_rfl) ?_; refine hK _ ?_; clear hK; go_simp)
          go_big_quiet_step (fail)
          go_big_quiet_step ((go_at_call 90; with_reducible exact Calls.later (HD _).out))
          repeat (go_big_quiet_step (first | (go_at_call 94; first | with_reducible exact Calls.later (HP1 _).out | with_reducible exact Calls.later (HP2 _).out) | (go_at_call 93; with_reducible exact Calls.later (HLS _).out)))
          refine wpQuiet_nil ?_
          intro r
          have T3 := T2.below r.h
          generalize r.w' = w3 at T3 ⊢
          clear T2 HD HP1 HP2 HLS c18 c1 v0 v1 v2 v3 p3 p4 p5 p6
          cases b2 with
          | false =>
            have he : desP t x = becomeP t x := by unfold desP; rw [if_pos (by rw [HT.out]; rfl)]
            have c18 := T3.hs.cell 2 18 rfl rfl
            have hv := T3.hs.bk 0 rfl
            have hth : World.there _ g (k * 15 + 3) ([.int .u64 t.ro, .int .u32 t.co, .int .u64 t.ow, .int .u16 x.id] : List Value).toArray.size := T3.there4 HM.out
            go_wp2_with (first | (with_reducible refine wpList_load_row rfl 61 (.tmp 4) rfl V (by kernel_rfl) _ _ (0, 0) _ hv Tryz.underlying61 rfl (by kernel_rfl) ?_) | (with_reducible refine wpList_store_mid rfl 61 (.tmp 60) _ rfl g (k * 15 + 3) ([.int .u64 t.ro, .int .u32 t.co, .int .u64 t.ow, .int .u16 x.id] : List Value).toArray (by kernel_rfl) (by kernel_rfl) hth (by kernel_rfl) (by kernel_rfl) ?_))
            go_roundw
            case rel =>
              have T9 := T3.put (y := becomeP t x) HM.out 3 [.int .u64 t.ro, .int .u32 t.co, .int .u64 t.ow, .int .u16 x.id] (Nat.le_of_ble_eq_true rfl) rfl
              have q := mixL_set (f := fun _ p => desP t p) HX.out
              rw [he] at q
              rw [q] at T9
              exact ⟨k + 1, by omega, by go_num, T9.tail⟩
            case measure => simp [intOf]; omega
          | true =>
            have he : desP t x = x := by unfold desP; rw [if_neg (by rw [HT.out]; decide)]
            go_wp2
            go_roundw
            case rel =>
              have T9 := T3.tail
              rw [mixL_same (f := fun _ p => desP t p) HX.out he] at T9
              exact ⟨k + 1, by omega, by go_num, T9⟩
            case measure => simp [intOf]; omega
    · have hki : ¬ (k : Int) < (n : Int) := by omega
      have hke : k = n := by omega
      subst hke
      rw [mixL_all (by rw [hL.out]; exact Nat.le_refl _)] at S
      have hx := S.hs.bk 1 rfl
      have hy := S.hs.bk 0 rfl
      go_wp2_with (first | (refine wpList_load_row rfl 31 _ rfl X rfl _ _ (0, 0) _ hx Tryz.underlying31 rfl (by kernel_rfl) ?_) | (refine wpList_store_row rfl 31 _ _ rfl Y _ rfl rfl _ _ hy (by kernel_rfl) (by kernel_rfl) (by kernel_rfl) ?_))
      exact bodyPost_ret (v := .agg (lT t D k cap').toArray) (results_cell_row rfl _ _ Y _ _ _ _ rfl (setRow_heap _ _ _ _ _ _ hy) Tryz.underlying31 rfl (by kernel_rfl)) rfl ⟨D, cap', rfl, HZ.out, (S.row 0 rfl (lT t D k cap')).nobox⟩

end Go.Proofs.YtnmnihlhcokjpaaGreatDoor

/- The document's Settle: contract. -/
namespace Go.Proofs.YtnmnihlhcokjpaaGreatDoor
set_option maxRecDepth 100000
open Go.ChangeShapes Go.WideShapes Go.ChangeAt Go.RowKit
set_option linter.unusedVariables false
set_option linter.unusedSimpArgs false

set_option maxHeartbeats 2000000 in
theorem rsettle_is (t : Th) (A : Option Addr) (n cap : Nat) (L : List Po) (hL : Hid (L.length = n)) (hf : n ≤ 200) (hU : Hid (Unlike L)) (ht : Hid (ThB t)) (hb : Hid (∀ x ∈ L, PoB x)) (hc : Hid (A = none → cap = 0)) (w : World) (hp : Hid (PoAt w A w.heap.size L)) :
    Calls Tryz.prog 26 #[.agg (lT t A n cap).toArray] w (ConfEnd w (settleR t L).1.1 n ((settleR t L).1.2, (settleR t L).2)) := by
  obtain ⟨S0, hS0⟩ : ∃ S0, settleR t L = S0 := ⟨_, rfl⟩
  rw [hS0]
  have HS0 := Lib.hid hS0
  clear hS0
  obtain ⟨u, hu⟩ : ∃ u, selectT t L = u := ⟨_, rfl⟩
  have HU := Lib.hid hu
  have htu : ThB u := by rw [← hu]; exact sel_bd (by rw [hL.out]; exact hf) ht.out hb.out
  have HTU := Lib.hid htu
  clear hu htu
  obtain ⟨wb, hwb, S⟩ := hs_two w 31 31 (lT t A n cap) [.int .u64 0, .int .u64 0, .int .u32 0, .int .i64 0, .int .i64 0, .int .i64 0, .int .i64 0, .int .i64 0, .int .i64 0, .int .i64 0, .bool false, .bool false, .bool false, .int .i64 0, .bool false, .int .i64 0, .bool false, .int .i64 0, .slice none 0 0]
  go_enter Tryz.func26, Tryz.ntmps26
  go_upto_region 1 with fail
  clear hwb
  obtain ⟨X, hX⟩ : ∃ X, w.heap.size = X := ⟨_, rfl⟩
  rw [hX] at S
  obtain ⟨Y, hY⟩ : ∃ Y, X + 1 = Y := ⟨_, rfl⟩
  rw [hY] at S
  rw [hX]
  rw [hY]
  clear hX hY
  have HC1 := Lib.hid (rselect_is t A n cap L hL hf hb hU hc wb (Lib.hid ((hp.out.below S.old (Nat.le_refl _)).wide S.old.size)))
  rw [HU.out] at HC1
  have hx := S.bk 1 rfl
  go_wp2_with (with_reducible refine wpList_load_row rfl 31 (.tmp 1) rfl X (by kernel_rfl) _ _ (0, 0) _ hx Tryz.underlying31 rfl (by kernel_rfl) ?_)
  (with_reducible refine HC1.out.mono ?_); rintro e w1 ⟨D1, c1, rfl, hz1, k1⟩
  have S1 := TS.take S k1
  have HZ1 := Lib.hid hz1
  clear S hx HC1 k1 hz1
  have HC2 := Lib.hid (rdesig_all u D1 n c1 L hL hf HZ1 w1 (Lib.hid S1.ports))
  have HL2 := Lib.hid (show (desL u L).length = n by unfold desL; rw [allL_len]; exact hL.out)
  go_wp2_with fail
  (with_reducible refine HC2.out.mono ?_); rintro e w2 ⟨D2, c2, rfl, hz2, k2⟩
  have S2 := TS.take S1.hs k2
  have HZ2 := Lib.hid hz2
  clear S1 HC2 k2 hz2
  have HC3 := Lib.hid (rstates_is u D2 n c2 (desL u L) HL2 hf HZ2 w2 (Lib.hid S2.ports))
  obtain ⟨lo, hlo⟩ : ∃ b, lostB u (desL u L) n = b := ⟨_, rfl⟩
  have hli : lostI u (desL u L) n = if lo = true then 1 else 0 := by unfold lostI; rw [hlo]
  have HLO := Lib.hid hlo
  have HLI := Lib.hid hli
  clear hlo hli
  go_wp2_with fail
  (with_reducible refine HC3.out.mono ?_); rintro e w3 ⟨D, cap', rfl, hz, k3⟩
  have S3 := TS.take S2.hs k3
  have HZ := Lib.hid hz
  clear S2 HC3 k3 hz
  rw [HLI.out]
  go_upto_region 2 with (refine wpList_store_row rfl 31 _ _ rfl _ _ rfl rfl _ _ (heap_alloc_new _ _) (by kernel_rfl) (by kernel_rfl) (by kernel_rfl) ?_)
  rw [alloc_row]
  have S4 := S3.al rfl 31 (lT u D n cap')
  obtain ⟨V, hV⟩ : ∃ V, w3.heap.size = V := ⟨_, rfl⟩
  rw [hV] at S4 ⊢
  obtain ⟨w4, hw4⟩ : ∃ v, w3.alloc (.cells (lT u D n cap').toArray 31) = v := ⟨_, rfl⟩
  rw [hw4] at S4 ⊢
  clear hw4 hV S3
  have hs0 := HS0.out
  unfold settleR at hs0
  rw [HU.out, hL.out, HLO.out] at hs0
  cases lo with
  | false =>
    rw [if_neg (by decide)] at hs0
    subst hs0
    have hx := S4.hs.bk 0 rfl
    have hy := S4.hs.bk 1 rfl
    have S5 := S4.row 1 rfl (lT u D n cap')
    have hyF := S5.hs.bk 1 rfl
    go_wp2_with (first | (with_reducible refine wpList_load_row rfl 31 (.tmp 4) rfl V (by kernel_rfl) _ _ (0, 0) _ hx Tryz.underlying31 rfl (by kernel_rfl) ?_) | (refine wpList_store_row rfl 31 _ _ rfl Y _ rfl rfl _ _ hy (by kernel_rfl) (by kernel_rfl) (by kernel_rfl) ?_))
    exact bodyPost_ret (v := .tuple #[.agg (lT u D n cap').toArray, .slice none 0 0]) (results_two rfl _ _ Y _ _ _ _ rfl _ rfl hyF Tryz.underlying31 rfl (by kernel_rfl)) rfl ⟨D, cap', _, rfl, HZ.out, S5.nobox, OutsR.nil _ _⟩
  | true =>
    rw [if_pos rfl] at hs0
    subst hs0
    have HC4 := Lib.hid (rdetect_is u D n cap' HTU w4)
    have hx := S4.hs.bk 0 rfl
    go_upto_region 4 with fail
    go_wp2_with (with_reducible refine wpList_load_row rfl 31 (.tmp 4) rfl V (by kernel_rfl) _ _ (0, 0) _ hx Tryz.underlying31 rfl (by kernel_rfl) ?_)
    (with_reducible refine HC4.out.mono ?_); rintro e w5 ⟨v, rfl, hO, b5⟩
    have S5 := S4.below b5
    have hYw : Y < w4.heap.size := S4.hs.lt 1 rfl
    clear hx HC4 b5
    have hy := S5.hs.bk 1 rfl
    have S6 := S5.row 1 rfl (lT (detT u) D n cap')
    have hyF := S6.hs.bk 1 rfl
    have hOF := (hO.heap (w' := w5.setRow Y (lT (detT u) D n cap').toArray) (fun b hb => setRow_other w5 Y b _ (by omega))).mono S4.old.size
    clear S4
    go_wp2_with (refine wpList_store_row rfl 31 _ _ rfl Y _ rfl rfl _ _ hy (by kernel_rfl) (by kernel_rfl) (by kernel_rfl) ?_)
    exact bodyPost_ret (v := .tuple #[.agg (lT (detT u) D n cap').toArray, v]) (results_two rfl _ _ Y _ _ _ _ rfl _ rfl hyF Tryz.underlying31 rfl (by kernel_rfl)) rfl ⟨D, cap', _, rfl, HZ.out, S6.nobox, hOF⟩

end Go.Proofs.YtnmnihlhcokjpaaGreatDoor
