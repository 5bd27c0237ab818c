/- Several texts in one, one behind the other: HeardTcn, HeardBytes, HeardRefSmall. -/
import Derived.Test.YteplefdnnehdgaaGreatDoorPk14
import Derived.Test.YteplefdnnehdgaaGreatDoorPk11
import Derived.Test.YteplefdnnehdgaaGreatDoorPk02
import Derived.BigQuiet
import Derived.Deep.QuietTactic
import Derived.Test.YteplefdnnehdgaaGreatDoorPk18
import Derived.Test.YteplefdnnehdgaaGreatDoorPk03
import Derived.Test.YteplefdnnehdgaaGreatDoorPk04

/- Tcn heard: contract. -/
namespace Go.Proofs.YteplefdnnehdgaaGreatDoor
set_option maxRecDepth 100000
open Go.ChangeShapes Go.WideShapes Go.ChangeAt Go.RowKit
set_option linter.unusedVariables false
set_option linter.unusedSimpArgs false

set_option maxHeartbeats 4000000 in
theorem htcn_is (t : Th) (A : Option Addr) (n cap : Nat) (L : List Po) (i : Int) (hi : -9223372036854775808 ≤ i ∧ i ≤ 9223372036854775807) (hL : Hid (L.length = n)) (hf : n ≤ 200) (ht : Hid (ThB t)) (hn : Hid (-9223372036854775808 ≤ t.n1 ∧ t.n1 ≤ 9223372036854775807 ∧ -9223372036854775808 ≤ t.n2 ∧ t.n2 ≤ 9223372036854775807 ∧ -9223372036854775808 ≤ t.n3 ∧ t.n3 ≤ 9223372036854775807)) (hb : Hid (∀ x ∈ L, PoB x)) (hc : Hid (A = none → cap = 0)) (w : World) (hd : Hd w) (hp : Hid (PoAt w A w.heap.size L)) :
    Calls Tryz.prog 16 #[.agg (lT t A n cap).toArray, .int .i64 i] w (ConfEnd w (tcnHeardR t L i).1.1 n ((tcnHeardR t L i).1.2, (tcnHeardR t L i).2)) := by
  have HD := Lib.hid hd
  clear hd
  obtain ⟨S0, hS0⟩ : ∃ S0, tcnHeardR t L i = S0 := ⟨_, rfl⟩
  rw [hS0]
  have HS0 := Lib.hid hS0
  clear hS0
  obtain ⟨q, hq⟩ : ∃ q, (if 0 ≤ i then (match L[i.toNat]? with | none => false | some p => !decide (p.st = 0)) else false) = q := ⟨_, rfl⟩
  have HON := fun W (h : Below w.heap.size w W) => Lib.hid (hears_is t A n cap L hL i q (Lib.hid hq) W (Lib.hid ((hp.out.below h (Nat.le_refl _)).wide h.size)))
  have HQ := Lib.hid hq
  clear hq
  obtain ⟨wb, hwb, S⟩ := hs_two w 31 31 (lT t A n cap) [.int .u64 0, .int .u64 0, .int .u32 0, .int .i64 0, .int .i64 0, .int .i64 0, .int .i64 0, .int .i64 0, .int .i64 0, .int .i64 0, .bool false, .bool false, .bool false, .int .i64 0, .bool false, .int .i64 0, .bool false, .int .i64 0, .slice none 0 0]
  go_enter Tryz.func16, Tryz.ntmps16
  go_upto_region 1 with fail
  clear hwb
  obtain ⟨X, hX⟩ : ∃ q, w.heap.size = q := ⟨_, rfl⟩
  rw [hX] at S
  obtain ⟨Y, hY⟩ : ∃ q, X + 1 = q := ⟨_, rfl⟩
  rw [hY] at S
  rw [hX]
  rw [hY]
  clear hX hY
  have HH := fun q : LaterW wb => HON q.w' (S.old.trans (q.h.mono S.old.size))
  clear HON
  have hs0 := HS0.out
  unfold tcnHeardR at hs0
  have hq := HQ.out
  cases q with
  | false =>
    have hs0 : ((t, L), []) = S0 := by
      rw [← hs0]
      by_cases i0 : 0 ≤ i
      · rw [if_pos i0] at hq ⊢
        cases hl : L[i.toNat]? with
        | none => rfl
        | some p =>
          rw [hl] at hq
          have : p.st = 0 := by simpa using hq
          simp only [if_pos this]
      · rw [if_neg i0]
    clear hq
    go_cut [22] (fun u wx => u = .bool true ∧ Below wb.heap.size wb wx)
    case first =>
      refine region_later mixedL (by kernel_rfl) ?_
      (refine BigFrame.wpQuiet_want (by kernel_rfl) (fun K hK => ?_); refine quiet_load_row 31 _ rfl X (by kernel_rfl) _ _ (0, 0) _ (S.bkq 1 rfl) Tryz.underlying31 rfl (by kernel_rfl) ?_; refine hK _ ?_; clear hK; go_simp)
      go_big_quiet_step (fail)
      go_big_quiet_step ((go_at_call 13; with_reducible exact Calls.later (HH _).out))
      repeat (go_big_quiet_step (fail))
      refine wpQuiet_nil ?_
      intro r
      go_wp2_with fail
      go_meet
      exact ⟨rfl, r.h⟩
    case rest =>
      obtain ⟨rfl, B1⟩ := hcut
      rename World => w1
      have S1 := S.below B1
      clear S B1 HH
      subst hs0
      have HC := Lib.hid (tcopy_is t A n cap L hL hf hc _ (Lib.hid ((hp.out.below S1.old (Nat.le_refl _)).wide S1.old.size)))
      have hx := S1.bk 1 rfl
      go_wp2_with (with_reducible refine wpList_load_row rfl 31 (.tmp 2) rfl X (by kernel_rfl) _ _ (0, 0) _ hx Tryz.underlying31 rfl (by kernel_rfl) ?_)
      (with_reducible refine HC.out.mono ?_); rintro e wz ⟨Dz, cz, rfl, hzz, kz⟩
      have Sz := TS.take S1 kz
      have hy := Sz.hs.bk 0 rfl
      have Sy := Sz.row 0 rfl (lT t Dz n cz)
      have hyF := Sy.hs.bk 0 rfl
      clear S1 hx HC kz
      go_wp2_with (refine wpList_store_row rfl 31 _ _ rfl Y _ rfl rfl _ _ hy (by kernel_rfl) (by kernel_rfl) (by kernel_rfl) ?_)
      exact bodyPost_ret (v := .tuple #[.agg (lT t Dz n cz).toArray, .slice none 0 0]) (results_two rfl _ _ Y _ _ _ _ rfl _ rfl hyF Tryz.underlying31 rfl (by kernel_rfl)) rfl ⟨Dz, cz, _, rfl, hzz, Sy.nobox, OutsR.nil _ _⟩
  | true =>
    have h0 : 0 ≤ i := by
      by_cases i0 : 0 ≤ i
      · exact i0
      · rw [if_neg i0] at hq; cases hq
    obtain ⟨k, rfl⟩ : ∃ k : Nat, i = k := ⟨i.toNat, by omega⟩
    rw [if_pos h0, Int.toNat_natCast] at hq
    clear hs0
    obtain ⟨p, hp0⟩ : ∃ p, L[k]? = some p := by
      cases hl : L[k]? with
      | none => rw [hl] at hq; cases hq
      | some p => exact ⟨p, rfl⟩
    rw [hp0] at hq
    have hst : p.st ≠ 0 := by simpa using hq
    have hkn : k < n := by have := po_lt hp0; have := hL.out; omega
    have hki : (k : Int) < (n : Int) := by omega
    have hkz : ¬ (n : Int) ≤ (k : Int) := by omega
    have HXK := Lib.hid hp0
    have hs0 := HS0.out
    unfold tcnHeardR at hs0
    rw [if_pos h0, Int.toNat_natCast, hp0] at hs0
    simp only [if_neg hst] at hs0
    obtain ⟨d, hd⟩ : ∃ d, desB p t.ow = d := ⟨_, rfl⟩
    rw [hd] at hs0
    have HDS := fun W => Lib.hid (desig_row p t.ow d (Lib.hid hd) W)
    have HSS := Lib.hid hs0
    clear hq hp0 hs0 h0 hi hst hd HS0 HQ
    obtain ⟨ad, rfl⟩ := hp.out.some HXK.out
    have c18 : ∀ q : LaterW wb, q.w'.cell? ⟨X, 18, none⟩ = some (.slice (some ad) n cap) := fun q => (S.below q.h).cell 1 18 rfl rfl
    have c0 : ∀ q : LaterW wb, q.w'.cell? ⟨X, 0, none⟩ = some (.int .u64 t.ow) := fun q => (S.below q.h).cell 1 0 rfl rfl
    go_cut [22] (fun u wx => u = .bool (!d) ∧ Below wb.heap.size wb wx)
    case first =>
      refine region_later mixedL (by kernel_rfl) ?_
      (refine BigFrame.wpQuiet_want (by kernel_rfl) (fun K hK => ?_); refine quiet_load_row 31 _ rfl X (by kernel_rfl) _ _ (0, 0) _ (S.bkq 1 rfl) Tryz.underlying31 rfl (by kernel_rfl) ?_; refine hK _ ?_; clear hK; go_simp)
      go_big_quiet_step (fail)
      go_big_quiet_step ((go_at_call 13; with_reducible exact Calls.later (HH _).out))
      go_big_quiet_step (fail)
      go_big_quiet_step (fail)
      go_big_quiet_step (fail)
      go_big_quiet_step (fail)
      go_big_quiet_step (fail)
      go_big_quiet_step (fail)
      (refine BigFrame.wpQuiet_want (by kernel_rfl) (fun K hK => ?_); refine quiet_load_at 65 _ rfl (ad.add (k * 15)) (by kernel_rfl) _ _ (fun v hv => by obtain ⟨q, rfl⟩ := hv; exact (hp.out.below (S.below q.h).old (Nat.le_refl _)).at HXK.out rfl) Tryz.underlying65 rfl (by kernel_rfl) ?_; refine hK _ ?_; clear hK; go_simp)
      go_big_quiet_step (fail)
      go_big_quiet_step (fail)
      go_big_quiet_step ((go_at_call 30; with_reducible exact Calls.later (HDS _).out))
      repeat (go_big_quiet_step (fail))
      refine wpQuiet_nil ?_
      intro r
      go_wp2_with fail
      go_meet
      exact ⟨rfl, r.h⟩
    case rest =>
      obtain ⟨rfl, B1⟩ := hcut
      rename World => w1
      have S1 := S.below B1
      clear S B1 HH HDS c18 c0
      have hs0 := HSS.out
      cases d with
      | false =>
        simp only [Bool.false_eq_true, if_false] at hs0
        subst hs0
        have HC := Lib.hid (tcopy_is t (some ad) n cap L hL hf hc _ (Lib.hid ((hp.out.below S1.old (Nat.le_refl _)).wide S1.old.size)))
        have hx := S1.bk 1 rfl
        go_wp2_with (with_reducible refine wpList_load_row rfl 31 (.tmp 2) rfl X (by kernel_rfl) _ _ (0, 0) _ hx Tryz.underlying31 rfl (by kernel_rfl) ?_)
        (with_reducible refine HC.out.mono ?_); rintro e wz ⟨Dz, cz, rfl, hzz, kz⟩
        have Sz := TS.take S1 kz
        have hy := Sz.hs.bk 0 rfl
        have Sy := Sz.row 0 rfl (lT t Dz n cz)
        have hyF := Sy.hs.bk 0 rfl
        clear S1 hx HC kz
        go_wp2_with (refine wpList_store_row rfl 31 _ _ rfl Y _ rfl rfl _ _ hy (by kernel_rfl) (by kernel_rfl) (by kernel_rfl) ?_)
        exact bodyPost_ret (v := .tuple #[.agg (lT t Dz n cz).toArray, .slice none 0 0]) (results_two rfl _ _ Y _ _ _ _ rfl _ rfl hyF Tryz.underlying31 rfl (by kernel_rfl)) rfl ⟨Dz, cz, _, rfl, hzz, Sy.nobox, OutsR.nil _ _⟩
      | true =>
        simp only [if_true] at hs0
        have HSS := Lib.hid hs0
        clear hs0
        obtain ⟨u, hu⟩ : ∃ u, detT t = u := ⟨_, rfl⟩
        have HTU := Lib.hid (show ThB u by rw [← hu]; exact det_bd ht.out)
        have HNU := Lib.hid (show (-9223372036854775808 ≤ u.n1 ∧ u.n1 ≤ 9223372036854775807 ∧ -9223372036854775808 ≤ u.n2 ∧ u.n2 ≤ 9223372036854775807 ∧ -9223372036854775808 ≤ u.n3 ∧ u.n3 ≤ 9223372036854775807) by rw [← hu]; exact nb_det hn.out)
        obtain ⟨o, ho⟩ : ∃ o, detO t n = o := ⟨_, rfl⟩
        have HOL := Lib.hid (show o.length ≤ 1 by rw [← ho]; exact det_few _ _)
        have HC := Lib.hid (sdetect_is t (some ad) n cap L hL hf ht hc w1 (HD.out.below S1.old (Nat.le_refl _)) (Lib.hid ((hp.out.below S1.old (Nat.le_refl _)).wide S1.old.size)))
        rw [hu, ho] at HC
        have HUU := Lib.hid hu
        have HOO := Lib.hid ho
        clear hu ho
        go_upto_region 3 with fail
        have hx := S1.bk 1 rfl
        go_wp2_with (with_reducible refine wpList_load_row rfl 31 (.tmp 2) rfl X (by kernel_rfl) _ _ (0, 0) _ hx Tryz.underlying31 rfl (by kernel_rfl) ?_)
        (with_reducible refine HC.out.mono ?_); rintro e w2 ⟨D1, c1, v, rfl, hz1, k2, hO⟩
        have S2 := TS.take S1 k2
        have hO2 := hO.mono S1.old.size
        have HZ1 := Lib.hid hz1
        clear S1 hx HC k2 hO hz1
        have hx := S2.hs.bk 1 rfl
        go_upto_region 4 with (refine wpList_store_row rfl 31 _ _ rfl X _ rfl rfl _ _ hx (by kernel_rfl) (by kernel_rfl) (by kernel_rfl) ?_)
        have S3 : TS w [(Y, 31, [.int .u64 0, .int .u64 0, .int .u32 0, .int .i64 0, .int .i64 0, .int .i64 0, .int .i64 0, .int .i64 0, .int .i64 0, .int .i64 0, .bool false, .bool false, .bool false, .int .i64 0, .bool false, .int .i64 0, .bool false, .int .i64 0, .slice none 0 0]), (X, 31, lT u D1 n c1)] D1 L _ := S2.row 1 rfl (lT u D1 n c1)
        have hO3 := hO2.store S2.hs 1 rfl (lT u D1 n c1).toArray
        generalize w2.setRow X (lT u D1 n c1).toArray = w3 at S3 hO3 ⊢
        clear S2 hO2 hx
        have HC := Lib.hid (with_is u D1 n c1 L k p ({ p with ak := true } : Po) HXK 35 #[] (enters_of Tryz.func35 (by kernel_rfl) rfl) hL hf HZ1 w3 (Lib.hid (tcn1_ok HXK.out w3)) (Lib.hid S3.ports))
        have hx := S3.hs.bk 1 rfl
        go_wp2_with (with_reducible refine wpList_load_row rfl 31 (.tmp 2) rfl X (by kernel_rfl) _ _ (0, 0) _ hx Tryz.underlying31 rfl (by kernel_rfl) ?_)
        (with_reducible refine HC.out.mono ?_); rintro e w4 ⟨D2, c2, rfl, hz2, k4⟩
        have S4 := TS.take S3.hs k4
        have hO4 := hO3.below k4.old
        have HZ2 := Lib.hid hz2
        clear S3 hO3 hx HC k4 hz2
        have hx := S4.hs.bk 1 rfl
        go_upto_region 5 with (refine wpList_store_row rfl 31 _ _ rfl X _ rfl rfl _ _ hx (by kernel_rfl) (by kernel_rfl) (by kernel_rfl) ?_)
        have S5 : TS w [(Y, 31, [.int .u64 0, .int .u64 0, .int .u32 0, .int .i64 0, .int .i64 0, .int .i64 0, .int .i64 0, .int .i64 0, .int .i64 0, .int .i64 0, .bool false, .bool false, .bool false, .int .i64 0, .bool false, .int .i64 0, .bool false, .int .i64 0, .slice none 0 0]), (X, 31, lT u D2 n c2)] D2 (L.set k ({ p with ak := true } : Po)) _ := S4.row 1 rfl (lT u D2 n c2)
        have hO5 := hO4.store S4.hs 1 rfl (lT u D2 n c2).toArray
        generalize w4.setRow X (lT u D2 n c2).toArray = w5 at S5 hO5 ⊢
        clear S4 hO4 hx
        have HBN := Lib.hid (show ∀ y ∈ L.set k ({ p with ak := true } : Po), PoB y from set_bd hb.out (by have := hb.out p (List.mem_of_getElem? HXK.out); unfold PoB at *; exact this))
        have HC := Lib.hid (sconf_is u D2 n c2 (L.set k ({ p with ak := true } : Po)) k (by omega) (Lib.hid (set_len hL.out)) hf HTU HNU HBN HZ2 w5 (HD.out.below S5.old (Nat.le_refl _)) (Lib.hid S5.ports))
        have HRF := Lib.hid (confR_few u (L.set k ({ p with ak := true } : Po)) k)
        obtain ⟨R, hR⟩ : ∃ R, confR u (L.set k ({ p with ak := true } : Po)) k = R := ⟨_, rfl⟩
        rw [hR] at HC HRF
        have HRR := Lib.hid hR
        clear hR
        have hx := S5.hs.bk 1 rfl
        go_wp2_with (with_reducible refine wpList_load_row rfl 31 (.tmp 2) rfl X (by kernel_rfl) _ _ (0, 0) _ hx Tryz.underlying31 rfl (by kernel_rfl) ?_)
        (with_reducible refine HC.out.mono ?_); rintro e w6 ⟨D3, c3, v3, rfl, hz3, k6, hO⟩
        have S6 := TS.take S5.hs k6
        have hO6 := hO5.below k6.old
        have HWQ := Lib.hid (show w.heap.size ≤ w5.heap.size from S5.old.size)
        have HZ3 := Lib.hid hz3
        clear S5 hO5 hx HC k6 hz3
        have hx := S6.hs.bk 1 rfl
        go_upto_region 6 with (refine wpList_store_row rfl 31 _ _ rfl X _ rfl rfl _ _ hx (by kernel_rfl) (by kernel_rfl) (by kernel_rfl) ?_)
        have S7 : TS w [(Y, 31, [.int .u64 0, .int .u64 0, .int .u32 0, .int .i64 0, .int .i64 0, .int .i64 0, .int .i64 0, .int .i64 0, .int .i64 0, .int .i64 0, .bool false, .bool false, .bool false, .int .i64 0, .bool false, .int .i64 0, .bool false, .int .i64 0, .slice none 0 0]), (X, 31, lT u D3 n c3)] D3 R.1 _ := S6.row 1 rfl (lT u D3 n c3)
        have hO7 := hO6.store S6.hs 1 rfl (lT u D3 n c3).toArray
        have hQ7 := hO.store S6.hs 1 rfl (lT u D3 n c3).toArray
        generalize w6.setRow X (lT u D3 n c3).toArray = w7 at S7 hO7 hQ7 ⊢
        clear S6 hO6 hO hx
        have hlen : o.length + R.2.length ≤ 100000 := by have h1 := HOL.out; have h2 := HRF.out; omega
        refine wp_region_held_drew (S := (fun w' => Bk w' X 31 (lT u D3 n c3))) (by kernel_rfl) ((S7.hs.drewB 1 rfl)) (fun hHeld => ?_)
        have Sd := S7.below ((Below.refl _ _).drew)
        have hOd := hO7.below ((Below.refl _ _).drew)
        have hQd := hQ7.below ((Below.refl _ _).drew)
        obtain ⟨vd, hvd⟩ : ∃ y, w7.drew = y := ⟨_, rfl⟩
        rw [hvd] at Sd hOd hQd hHeld ⊢
        clear hvd S7 hO7 hQ7
        have hbd : w.heap.size ≤ vd.heap.size := Sd.old.size
        obtain ⟨_, _, hown⟩ := hOd.own
        refine wpAnyH_take (i := 0) (v := _) rfl (by kernel_rfl) (by kernel_rfl) (by kernel_rfl) (fun _ _ _ h => h) (Or.inl ⟨by kernel_rfl, fun w' hSw => exec_load_row 31 _ rfl X (by kernel_rfl) _ _ (0, 0) _ (hSw) Tryz.underlying31 rfl (by kernel_rfl)⟩) (by assumption) ?_
        try simp only [Act.put, List.getElem_toArray, List.getElem_cons_succ, List.getElem_cons_zero, List.setIfInBounds_toArray, List.set_cons_succ, List.set_cons_zero]
        refine wpAnyH_take (i := 1) (v := ?_) rfl (by kernel_rfl) (by kernel_rfl) (by kernel_rfl) (fun _ _ _ h => h) (Or.inl ⟨by kernel_rfl, ?_⟩) (by assumption) ?_
        rotate_left
        · intro w' hSw; (try dsimp only at hSw); go_simp; with_reducible rfl
        try simp only [Act.put, List.getElem_toArray, List.getElem_cons_succ, List.getElem_cons_zero, List.setIfInBounds_toArray, List.set_cons_succ, List.set_cons_zero]
        refine wpAnyH_take (i := 2) (v := ?_) rfl (by kernel_rfl) (by kernel_rfl) (by kernel_rfl) (fun _ _ _ h => h) (Or.inl ⟨by kernel_rfl, ?_⟩) (by assumption) ?_
        rotate_left
        · intro w' hSw; (try dsimp only at hSw); go_simp; with_reducible rfl
        try simp only [Act.put, List.getElem_toArray, List.getElem_cons_succ, List.getElem_cons_zero, List.setIfInBounds_toArray, List.set_cons_succ, List.set_cons_zero]
        refine wpAnyH_ready (rs := [3]) (by kernel_rfl) (by simp) ?_
        refine AllReadyH.cons rfl (fun K hK => ?_) AllReadyH.nil
        refine step_append_outs rfl (.tmp 40) (.tmp 41) (by kernel_rfl) w.heap.size w5.heap.size v v3 o R.2 (by kernel_rfl) (by kernel_rfl) hOd hQd HWQ.out hlen hbd ?_
        intro v' we hOe gr
        have Se := Sd.grownT hown gr (fun y hy => by simp only [List.mem_cons, List.not_mem_nil, or_false] at hy; rcases hy with rfl | rfl <;> (dsimp only; decide)) (Nat.le_refl _)
        clear Sd hOd hQd gr hown
        refine hK.out _ _ ((Se.hs.1 1 _ _ _ rfl).1) (fun hHeld => ?_)
        clear hK K
        try simp only [Act.put, List.getElem_toArray, List.getElem_cons_succ, List.getElem_cons_zero, List.setIfInBounds_toArray, List.set_cons_succ, List.set_cons_zero]
        have hy := Se.hs.bk 0 rfl
        refine wpAnyH_ready (rs := [4]) (by kernel_rfl) (by simp) ?_
        refine AllReadyH.cons rfl (fun K hK => ?_) AllReadyH.nil
        refine exec_if_store (by kernel_rfl) 31 (.tmp 4) (.tmp 39) rfl Y (lT u D3 n c3).toArray (by kernel_rfl) (by kernel_rfl) _ _ hy (by kernel_rfl) (by kernel_rfl) (by kernel_rfl) ?_
        have Sf := Se.row 0 rfl (lT u D3 n c3)
        refine hK.out _ _ ((Sf.hs.1 1 _ _ _ rfl).1) (fun hHeld => ?_)
        clear hK K
        try simp only [Act.put, List.getElem_toArray, List.getElem_cons_succ, List.getElem_cons_zero, List.setIfInBounds_toArray, List.set_cons_succ, List.set_cons_zero]
        refine wpAnyH_take (i := 5) (v := ?_) rfl (by kernel_rfl) (by kernel_rfl) (by kernel_rfl) (fun _ _ _ h => h) (Or.inl ⟨by kernel_rfl, ?_⟩) (by assumption) ?_
        rotate_left
        · intro w' hSw; (try dsimp only at hSw); go_simp; with_reducible rfl
        try simp only [Act.put, List.getElem_toArray, List.getElem_cons_succ, List.getElem_cons_zero, List.setIfInBounds_toArray, List.set_cons_succ, List.set_cons_zero]
        refine wpAnyH_done (by kernel_rfl) ?_ _
        have hOF := hOe.store Se.hs 0 rfl (lT u D3 n c3).toArray
        have hyF := Sf.hs.bk 0 rfl
        have e := HSS.out
        rw [HUU.out, hL.out, HOO.out, HRR.out] at e
        subst e
        go_wp2
        exact bodyPost_ret (v := .tuple #[.agg (lT u D3 n c3).toArray, v']) (results_two rfl _ _ Y _ _ _ _ rfl _ rfl hyF Tryz.underlying31 rfl (by kernel_rfl)) rfl ⟨D3, c3, _, rfl, HZ3.out, Sf.nobox, hOF⟩

end Go.Proofs.YteplefdnnehdgaaGreatDoor

/- Bytes heard: contract. -/
namespace Go.Proofs.YteplefdnnehdgaaGreatDoor
set_option maxRecDepth 100000
open Go.ChangeShapes Go.WideShapes Go.ChangeAt Go.RowKit
set_option linter.unusedVariables false
set_option linter.unusedSimpArgs false

set_option maxHeartbeats 4000000 in
theorem hbytes_is (t : Th) (A : Option Addr) (n cap : Nat) (L : List Po) (i : Int) (A2 : Option Addr) (m c2 : Nat) (l : List UInt8) (hi : -9223372036854775808 ≤ i ∧ i ≤ 9223372036854775807) (hl : Hid (l.length = m)) (hm : m ≤ 10000) (hmc : m ≤ c2) (hL : Hid (L.length = n)) (hf : n ≤ 200) (ht : Hid (ThB t)) (hn : Hid (-9223372036854775808 ≤ t.n1 ∧ t.n1 ≤ 9223372036854775807 ∧ -9223372036854775808 ≤ t.n2 ∧ t.n2 ≤ 9223372036854775807 ∧ -9223372036854775808 ≤ t.n3 ∧ t.n3 ≤ 9223372036854775807)) (hb : Hid (∀ x ∈ L, PoB x)) (hc : Hid (A = none → cap = 0)) (w : World) (hd : Hd w) (hr : Hid (RB w A2 0 w.heap.size l)) (hp : Hid (PoAt w A w.heap.size L)) :
    Calls Tryz.prog 6 #[.agg (lT t A n cap).toArray, .int .i64 i, .slice A2 m c2] w (BytesEnd w n (bytesR t L i l)) := by
  have HD := Lib.hid hd
  clear hd
  obtain ⟨S0, hS0⟩ : ∃ S0, bytesR t L i l = S0 := ⟨_, rfl⟩
  rw [hS0]
  have HS0 := Lib.hid hS0
  clear hS0
  obtain ⟨q, hq⟩ : ∃ q, (if 0 ≤ i then (match L[i.toNat]? with | none => false | some p => !decide (p.st = 0)) else false) = q := ⟨_, rfl⟩
  have HON := fun W (h : Below w.heap.size w W) => Lib.hid (hears_is t A n cap L hL i q (Lib.hid hq) W (Lib.hid ((hp.out.below h (Nat.le_refl _)).wide h.size)))
  have HQ := Lib.hid hq
  clear hq
  obtain ⟨wb, hwb, S⟩ := hs_two w 31 31 (lT t A n cap) [.int .u64 0, .int .u64 0, .int .u32 0, .int .i64 0, .int .i64 0, .int .i64 0, .int .i64 0, .int .i64 0, .int .i64 0, .int .i64 0, .bool false, .bool false, .bool false, .int .i64 0, .bool false, .int .i64 0, .bool false, .int .i64 0, .slice none 0 0]
  go_enter Tryz.func6, Tryz.ntmps6
  go_upto_region 1 with fail
  clear hwb
  obtain ⟨X, hX⟩ : ∃ X, w.heap.size = X := ⟨_, rfl⟩
  rw [hX] at S
  obtain ⟨Y, hY⟩ : ∃ Y, X + 1 = Y := ⟨_, rfl⟩
  rw [hY] at S
  rw [hX]
  rw [hY]
  clear hX hY
  have hx := S.bk 1 rfl
  go_wp2_with (with_reducible refine wpList_load_rowG (by kernel_rfl) 31 (.tmp 3) rfl X (by kernel_rfl) _ _ (0, 0) _ hx Tryz.underlying31 rfl (by kernel_rfl) ?_)
  (with_reducible refine (HON _ S.old).out.mono ?_); rintro e w1 ⟨rfl, b1⟩
  have S1 := S.below b1
  clear S hx HON b1
  have hs0 := HS0.out
  unfold bytesR at hs0
  have hq := HQ.out
  cases q with
  | false =>
    have hs0 : (((t, L), []), 8) = S0 := by
      rw [← hs0]
      by_cases i0 : 0 ≤ i
      · rw [if_pos i0] at hq ⊢
        cases hl : L[i.toNat]? with
        | none => rfl
        | some p =>
          rw [hl] at hq
          have : p.st = 0 := by simpa using hq
          simp only [if_pos this]
      · rw [if_neg i0]
    clear hq
    subst hs0
    have HC := Lib.hid (tcopy_is t A n cap L hL hf hc _ (Lib.hid ((hp.out.below S1.old (Nat.le_refl _)).wide S1.old.size)))
    have hx := S1.bk 1 rfl
    go_wp2_with (with_reducible refine wpList_load_row rfl 31 (.tmp 3) rfl X (by kernel_rfl) _ _ (0, 0) _ hx Tryz.underlying31 rfl (by kernel_rfl) ?_)
    (with_reducible refine HC.out.mono ?_); rintro e wz ⟨Dz, cz, rfl, hzz, kz⟩
    have Sz := TS.take S1 kz
    have hy := Sz.hs.bk 0 rfl
    have Sy := Sz.row 0 rfl (lT t Dz n cz)
    have hyF := Sy.hs.bk 0 rfl
    clear S1 hx HC kz
    go_wp2_with (refine wpList_store_row rfl 31 _ _ rfl Y _ rfl rfl _ _ hy (by kernel_rfl) (by kernel_rfl) (by kernel_rfl) ?_)
    exact bodyPost_ret (v := .tuple #[.agg (lT t Dz n cz).toArray, .slice none 0 0, .int .i64 8]) (results_three (p := 6) (r := 7) (s := 8) rfl _ _ Y _ _ _ _ rfl _ rfl _ rfl hyF Tryz.underlying31 rfl (by kernel_rfl)) rfl ⟨Dz, cz, _, rfl, hzz, Sy.ports, OutsR.nil _ _, Sy.old⟩
  | true =>
    have h0 : 0 ≤ i := by
      by_cases i0 : 0 ≤ i
      · exact i0
      · rw [if_neg i0] at hq; cases hq
    obtain ⟨k, rfl⟩ : ∃ k : Nat, i = k := ⟨i.toNat, by omega⟩
    rw [if_pos h0, Int.toNat_natCast] at hq
    clear hs0
    obtain ⟨p, hp0⟩ : ∃ p, L[k]? = some p := by
      cases hl : L[k]? with
      | none => rw [hl] at hq; cases hq
      | some p => exact ⟨p, rfl⟩
    rw [hp0] at hq
    have hst : p.st ≠ 0 := by simpa using hq
    have hkn : k < n := by have := po_lt hp0; have := hL.out; omega
    have hki : (k : Int) < (n : Int) := by omega
    have hkz : ¬ (n : Int) ≤ (k : Int) := by omega
    have HXK := Lib.hid hp0
    have hs0 := HS0.out
    rw [bytesR_at hp0 hst] at hs0
    obtain ⟨fq, hfq⟩ : ∃ q, forQ l t.ow p.id = q := ⟨_, rfl⟩
    obtain ⟨fe, hfe⟩ : ∃ q, fE l t.ow p.id = q := ⟨_, rfl⟩
    have HFO : ∀ W, Below w.heap.size w W → Hid (Calls Tryz.prog 15 #[.slice A2 m c2, .int .u64 t.ow, .int .u16 p.id] W fun e w' => e = .returned (.tuple #[.agg (lB fq).toArray, .int .i64 fe]) ∧ Below W.heap.size W w') := fun W h => Lib.hid (by
      have hr2 := (hr.out.below h (Nat.le_refl _)).wide (Nat.le_refl 0) h.size
      have h2 := for_any A2 c2 l m hl hm hmc t.ow p.id W hr2
      unfold ForEnd at h2
      rw [← hfq, ← hfe]
      exact h2)
    have HFI := Lib.hid (show BqIn fq by rw [← hfq]; exact forQ_in _ _ _)
    rw [hfq, hfe] at hs0
    have HSS := Lib.hid hs0
    clear hq hp0 hs0 h0 hi hst hfq hfe HS0 HQ hr
    obtain ⟨ad, rfl⟩ := hp.out.some HXK.out
    have HPI : ∀ W, Below w.heap.size w W → W.cell? (ad.add (k * 15)) = some (.int .u16 p.id) := fun W h => by
      obtain ⟨_, e0, -, h0, -⟩ := (hp.out.below h (Nat.le_refl _)).cells HXK.out
      cases e0
      exact h0
    go_upto_region 3 with fail
    try simp only [Act.put]
    go_cut [9, 10] (fun V e wx => ∃ Vg, V = .pointer (some ⟨Vg, 0, none⟩) ∧ e = .int .i64 fe ∧ Hs w ((Vg, 56, lB fq) :: [(Y, 31, [.int .u64 0, .int .u64 0, .int .u32 0, .int .i64 0, .int .i64 0, .int .i64 0, .int .i64 0, .int .i64 0, .int .i64 0, .int .i64 0, .bool false, .bool false, .bool false, .int .i64 0, .bool false, .int .i64 0, .bool false, .int .i64 0, .slice none 0 0]), (X, 31, lT t (some ad) n cap)]) wx)
    case first =>
      refine wp_region_held_drew (S := (fun w' => Hs w [(Y, 31, [.int .u64 0, .int .u64 0, .int .u32 0, .int .i64 0, .int .i64 0, .int .i64 0, .int .i64 0, .int .i64 0, .int .i64 0, .int .i64 0, .bool false, .bool false, .bool false, .int .i64 0, .bool false, .int .i64 0, .bool false, .int .i64 0, .slice none 0 0]), (X, 31, lT t (some ad) n cap)] w')) (by kernel_rfl) (S1.drew) (fun hHeld => ?_)
      have S2 := S1.drew
      obtain ⟨v3, hv3⟩ : ∃ v, w1.drew = v := ⟨_, rfl⟩
      rw [hv3] at S2 hHeld ⊢
      clear hv3 S1
      refine wpAnyH_take (i := 0) (v := ?_) rfl (by kernel_rfl) (by kernel_rfl) (by kernel_rfl) (fun _ _ _ h => h) (Or.inl ⟨by kernel_rfl, ?_⟩) (by assumption) ?_
      rotate_left
      · intro w' hSw; (try dsimp only at hSw); go_simp; with_reducible rfl
      try simp only [Act.put, List.getElem_toArray, List.getElem_cons_succ, List.getElem_cons_zero, List.setIfInBounds_toArray, List.set_cons_succ, List.set_cons_zero]
      refine wpAnyH_take (i := 1) (v := ?_) rfl (by kernel_rfl) (by kernel_rfl) (by kernel_rfl) (fun _ _ _ h => h) (Or.inl ⟨by kernel_rfl, ?_⟩) (by assumption) ?_
      rotate_left
      · intro w' hSw; (try dsimp only at hSw); go_simp; with_reducible rfl
      try simp only [Act.put, List.getElem_toArray, List.getElem_cons_succ, List.getElem_cons_zero, List.setIfInBounds_toArray, List.set_cons_succ, List.set_cons_zero]
      refine wpAnyH_take (i := 2) (v := ?_) rfl (by kernel_rfl) (by kernel_rfl) (by kernel_rfl) (fun _ _ _ h => h) (Or.inl ⟨by kernel_rfl, ?_⟩) (by assumption) ?_
      rotate_left
      · intro w' hSw; (try dsimp only at hSw); have c0 := (hSw.cell 1 0 rfl rfl); go_simp; with_reducible rfl
      try simp only [Act.put, List.getElem_toArray, List.getElem_cons_succ, List.getElem_cons_zero, List.setIfInBounds_toArray, List.set_cons_succ, List.set_cons_zero]
      refine wpAnyH_take (i := 3) (v := ?_) rfl (by kernel_rfl) (by kernel_rfl) (by kernel_rfl) (fun _ _ _ h => h) (Or.inl ⟨by kernel_rfl, ?_⟩) (by assumption) ?_
      rotate_left
      · intro w' hSw; (try dsimp only at hSw); go_simp; with_reducible rfl
      try simp only [Act.put, List.getElem_toArray, List.getElem_cons_succ, List.getElem_cons_zero, List.setIfInBounds_toArray, List.set_cons_succ, List.set_cons_zero]
      refine wpAnyH_take (i := 4) (v := ?_) rfl (by kernel_rfl) (by kernel_rfl) (by kernel_rfl) (fun _ _ _ h => h) (Or.inl ⟨by kernel_rfl, ?_⟩) (by assumption) ?_
      rotate_left
      · intro w' hSw; (try dsimp only at hSw); have c0 := (hSw.cell 1 18 rfl rfl); go_simp; with_reducible rfl
      try simp only [Act.put, List.getElem_toArray, List.getElem_cons_succ, List.getElem_cons_zero, List.setIfInBounds_toArray, List.set_cons_succ, List.set_cons_zero]
      refine wpAnyH_take (i := 5) (v := ?_) rfl (by kernel_rfl) (by kernel_rfl) (by kernel_rfl) (fun _ _ _ h => h) (Or.inl ⟨by kernel_rfl, ?_⟩) (by assumption) ?_
      rotate_left
      · intro w' hSw; (try dsimp only at hSw); go_simp; with_reducible rfl
      try simp only [Act.put, List.getElem_toArray, List.getElem_cons_succ, List.getElem_cons_zero, List.setIfInBounds_toArray, List.set_cons_succ, List.set_cons_zero]
      refine wpAnyH_take (i := 6) (v := ?_) rfl (by kernel_rfl) (by kernel_rfl) (by kernel_rfl) (fun _ _ _ h => h) (Or.inl ⟨by kernel_rfl, ?_⟩) (by assumption) ?_
      rotate_left
      · intro w' hSw; (try dsimp only at hSw); go_simp; with_reducible rfl
      try simp only [Act.put, List.getElem_toArray, List.getElem_cons_succ, List.getElem_cons_zero, List.setIfInBounds_toArray, List.set_cons_succ, List.set_cons_zero]
      refine wpAnyH_take (i := 7) (v := ?_) rfl (by kernel_rfl) (by kernel_rfl) (by kernel_rfl) (fun _ _ _ h => h) (Or.inl ⟨by kernel_rfl, ?_⟩) (by assumption) ?_
      rotate_left
      · intro w' hSw; (try dsimp only at hSw); go_simp; with_reducible rfl
      try simp only [Act.put, List.getElem_toArray, List.getElem_cons_succ, List.getElem_cons_zero, List.setIfInBounds_toArray, List.set_cons_succ, List.set_cons_zero]
      refine wpAnyH_take (i := 8) (v := ?_) rfl (by kernel_rfl) (by kernel_rfl) (by kernel_rfl) (fun _ _ _ h => h) (Or.inl ⟨by kernel_rfl, ?_⟩) (by assumption) ?_
      rotate_left
      · intro w' hSw; (try dsimp only at hSw); have c0 := (HPI w' hSw.old); go_simp; with_reducible rfl
      try simp only [Act.put, List.getElem_toArray, List.getElem_cons_succ, List.getElem_cons_zero, List.setIfInBounds_toArray, List.set_cons_succ, List.set_cons_zero]
      refine wpAnyH_ready (rs := [9, 13]) (by kernel_rfl) (by simp) ?_
      refine AllReadyH.cons rfl (fun K hK => ?_) (AllReadyH.cons rfl (fun K hK => ?_) AllReadyH.nil)
      · go_simp
        (with_reducible refine (HFO _ S2.old).out.mono ?_); rintro e w4 ⟨rfl, b4⟩
        have S3 := S2.below b4
        refine hK.out _ _ (S3) (fun hHeld => ?_)
        clear hK K
        try simp only [Act.put, List.getElem_toArray, List.getElem_cons_succ, List.getElem_cons_zero, List.setIfInBounds_toArray, List.set_cons_succ, List.set_cons_zero]
        refine wpAnyH_take (i := 10) (v := ?_) rfl (by kernel_rfl) (by kernel_rfl) (by kernel_rfl) (fun _ _ _ h => h) (Or.inl ⟨by kernel_rfl, ?_⟩) (by assumption) ?_
        rotate_left
        · intro w' hSw; (try dsimp only at hSw); go_simp; with_reducible rfl
        try simp only [Act.put, List.getElem_toArray, List.getElem_cons_succ, List.getElem_cons_zero, List.setIfInBounds_toArray, List.set_cons_succ, List.set_cons_zero]
        refine wpAnyH_take (i := 11) (v := ?_) rfl (by kernel_rfl) (by kernel_rfl) (by kernel_rfl) (fun _ _ _ h => h) (Or.inl ⟨by kernel_rfl, ?_⟩) (by assumption) ?_
        rotate_left
        · intro w' hSw; (try dsimp only at hSw); go_simp; with_reducible rfl
        try simp only [Act.put, List.getElem_toArray, List.getElem_cons_succ, List.getElem_cons_zero, List.setIfInBounds_toArray, List.set_cons_succ, List.set_cons_zero]
        refine wpAnyH_take (i := 12) (v := ?_) rfl (by kernel_rfl) (by kernel_rfl) (by kernel_rfl) (fun _ _ _ h => h) (Or.inl ⟨by kernel_rfl, ?_⟩) (by assumption) ?_
        rotate_left
        · intro w' hSw; (try dsimp only at hSw); go_simp; with_reducible rfl
        try simp only [Act.put, List.getElem_toArray, List.getElem_cons_succ, List.getElem_cons_zero, List.setIfInBounds_toArray, List.set_cons_succ, List.set_cons_zero]
        refine wpAnyH_ready (rs := [13]) (by kernel_rfl) (by simp) ?_
        refine AllReadyH.cons rfl (fun K hK => ?_) AllReadyH.nil
        go_simp
        have S4 := Hs.al S3 (g := _) rfl 56 [.bool false, .bool false, .bool false, .int .u64 0, .int .u32 0, .int .u64 0, .int .u16 0, .int .u16 0, .int .u16 0, .int .u16 0, .int .u16 0]
        refine hK.out _ _ (S4.tail) (fun hHeld => ?_)
        clear hK K
        try simp only [Act.put, List.getElem_toArray, List.getElem_cons_succ, List.getElem_cons_zero, List.setIfInBounds_toArray, List.set_cons_succ, List.set_cons_zero]
        refine wpAnyH_ready (rs := [14]) (by kernel_rfl) (by simp) ?_
        refine AllReadyH.cons rfl (fun K hK => ?_) AllReadyH.nil
        have hz := S4.bk 0 rfl
        refine exec_if_store (by kernel_rfl) 56 (.tmp 9) (.tmp 31) rfl _ (lB fq).toArray (by kernel_rfl) (by kernel_rfl) _ _ hz (by kernel_rfl) (by kernel_rfl) (by kernel_rfl) ?_
        have S9 := S4.row 0 rfl (lB fq)
        refine hK.out _ _ (S9.tail) (fun hHeld => ?_)
        clear hK K
        try simp only [Act.put, List.getElem_toArray, List.getElem_cons_succ, List.getElem_cons_zero, List.setIfInBounds_toArray, List.set_cons_succ, List.set_cons_zero]
        refine wpAnyH_take (i := 15) (v := ?_) rfl (by kernel_rfl) (by kernel_rfl) (by kernel_rfl) (fun _ _ _ h => h) (Or.inl ⟨by kernel_rfl, ?_⟩) (by assumption) ?_
        rotate_left
        · intro w' hSw; (try dsimp only at hSw); go_simp; with_reducible rfl
        try simp only [Act.put, List.getElem_toArray, List.getElem_cons_succ, List.getElem_cons_zero, List.setIfInBounds_toArray, List.set_cons_succ, List.set_cons_zero]
        refine wpAnyH_done (by kernel_rfl) ?_ _
        go_wp2_with fail
        go_meet
        exact ⟨_, rfl, rfl, S9⟩
      · go_simp
        have S3 := Hs.al S2 (g := _) rfl 56 [.bool false, .bool false, .bool false, .int .u64 0, .int .u32 0, .int .u64 0, .int .u16 0, .int .u16 0, .int .u16 0, .int .u16 0, .int .u16 0]
        refine hK.out _ _ (S3.tail) (fun hHeld => ?_)
        clear hK K
        try simp only [Act.put, List.getElem_toArray, List.getElem_cons_succ, List.getElem_cons_zero, List.setIfInBounds_toArray, List.set_cons_succ, List.set_cons_zero]
        refine wpAnyH_ready (rs := [9]) (by kernel_rfl) (by simp) ?_
        refine AllReadyH.cons rfl (fun K hK => ?_) AllReadyH.nil
        go_simp
        (with_reducible refine (HFO _ S3.old).out.mono ?_); rintro e w4 ⟨rfl, b4⟩
        have S4 := S3.below b4
        refine hK.out _ _ (S4.tail) (fun hHeld => ?_)
        clear hK K
        try simp only [Act.put, List.getElem_toArray, List.getElem_cons_succ, List.getElem_cons_zero, List.setIfInBounds_toArray, List.set_cons_succ, List.set_cons_zero]
        refine wpAnyH_take (i := 10) (v := ?_) rfl (by kernel_rfl) (by kernel_rfl) (by kernel_rfl) (fun _ _ _ h => h) (Or.inl ⟨by kernel_rfl, ?_⟩) (by assumption) ?_
        rotate_left
        · intro w' hSw; (try dsimp only at hSw); go_simp; with_reducible rfl
        try simp only [Act.put, List.getElem_toArray, List.getElem_cons_succ, List.getElem_cons_zero, List.setIfInBounds_toArray, List.set_cons_succ, List.set_cons_zero]
        refine wpAnyH_take (i := 11) (v := ?_) rfl (by kernel_rfl) (by kernel_rfl) (by kernel_rfl) (fun _ _ _ h => h) (Or.inl ⟨by kernel_rfl, ?_⟩) (by assumption) ?_
        rotate_left
        · intro w' hSw; (try dsimp only at hSw); go_simp; with_reducible rfl
        try simp only [Act.put, List.getElem_toArray, List.getElem_cons_succ, List.getElem_cons_zero, List.setIfInBounds_toArray, List.set_cons_succ, List.set_cons_zero]
        refine wpAnyH_take (i := 12) (v := ?_) rfl (by kernel_rfl) (by kernel_rfl) (by kernel_rfl) (fun _ _ _ h => h) (Or.inl ⟨by kernel_rfl, ?_⟩) (by assumption) ?_
        rotate_left
        · intro w' hSw; (try dsimp only at hSw); go_simp; with_reducible rfl
        try simp only [Act.put, List.getElem_toArray, List.getElem_cons_succ, List.getElem_cons_zero, List.setIfInBounds_toArray, List.set_cons_succ, List.set_cons_zero]
        refine wpAnyH_ready (rs := [14]) (by kernel_rfl) (by simp) ?_
        refine AllReadyH.cons rfl (fun K hK => ?_) AllReadyH.nil
        have hz := S4.bk 0 rfl
        refine exec_if_store (by kernel_rfl) 56 (.tmp 9) (.tmp 31) rfl _ (lB fq).toArray (by kernel_rfl) (by kernel_rfl) _ _ hz (by kernel_rfl) (by kernel_rfl) (by kernel_rfl) ?_
        have S9 := S4.row 0 rfl (lB fq)
        refine hK.out _ _ (S9.tail) (fun hHeld => ?_)
        clear hK K
        try simp only [Act.put, List.getElem_toArray, List.getElem_cons_succ, List.getElem_cons_zero, List.setIfInBounds_toArray, List.set_cons_succ, List.set_cons_zero]
        refine wpAnyH_take (i := 15) (v := ?_) rfl (by kernel_rfl) (by kernel_rfl) (by kernel_rfl) (fun _ _ _ h => h) (Or.inl ⟨by kernel_rfl, ?_⟩) (by assumption) ?_
        rotate_left
        · intro w' hSw; (try dsimp only at hSw); go_simp; with_reducible rfl
        try simp only [Act.put, List.getElem_toArray, List.getElem_cons_succ, List.getElem_cons_zero, List.setIfInBounds_toArray, List.set_cons_succ, List.set_cons_zero]
        refine wpAnyH_done (by kernel_rfl) ?_ _
        go_wp2_with fail
        go_meet
        exact ⟨_, rfl, rfl, S9⟩
    case rest =>
      obtain ⟨V, rfl, rfl, S2⟩ := hcut
      rename World => w2
      clear S1 HFO HPI
      have hs0 := HSS.out
      obtain ⟨b0, hb0⟩ : ∃ b, (fe != 0) = b := ⟨_, rfl⟩
      rw [hb0] at hs0
      cases b0 with
      | true =>
        rw [if_pos rfl] at hs0
        go_upto_region 5 with fail
        clear hb0
        subst hs0
        have HC := Lib.hid (tcopy_is t (some ad) n cap L hL hf hc _ (Lib.hid ((hp.out.below S2.old (Nat.le_refl _)).wide S2.old.size)))
        have hx := S2.bk 2 rfl
        go_wp2_with (with_reducible refine wpList_load_row rfl 31 (.tmp 3) rfl X (by kernel_rfl) _ _ (0, 0) _ hx Tryz.underlying31 rfl (by kernel_rfl) ?_)
        (with_reducible refine HC.out.mono ?_); rintro e wz ⟨Dz, cz, rfl, hzz, kz⟩
        have Sz := TS.take S2 kz
        have hy := Sz.hs.bk 1 rfl
        have Sy := Sz.row 1 rfl (lT t Dz n cz)
        have hyF := Sy.hs.bk 1 rfl
        clear S2 hx HC kz
        go_wp2_with (refine wpList_store_row rfl 31 _ _ rfl Y _ rfl rfl _ _ hy (by kernel_rfl) (by kernel_rfl) (by kernel_rfl) ?_)
        exact bodyPost_ret (v := .tuple #[.agg (lT t Dz n cz).toArray, .slice none 0 0, .int .i64 fe]) (results_three (p := 6) (r := 7) (s := 8) rfl _ _ Y _ _ _ _ rfl _ rfl _ rfl hyF Tryz.underlying31 rfl (by kernel_rfl)) rfl ⟨Dz, cz, _, rfl, hzz, Sy.ports, OutsR.nil _ _, Sy.old⟩
      | false =>
        rw [if_neg (by decide)] at hs0
        have HSS := Lib.hid hs0
        clear hs0
        go_upto_region 6 with fail
        clear hb0
        have v0 := S2.cell 0 0 rfl rfl
        obtain ⟨tc, htc⟩ : ∃ b, fq.tc = b := ⟨_, rfl⟩
        rw [htc] at v0
        have hs0 := HSS.out
        rw [htc] at hs0
        clear htc HSS
        cases tc with
        | true =>
          go_upto_region 7 with fail
          clear v0
          rw [if_pos rfl] at hs0
          have HSS := Lib.hid hs0
          clear hs0
          obtain ⟨R, hR⟩ : ∃ R, tcnHeardR t L k = R := ⟨_, rfl⟩
          have HC := Lib.hid (htcn_is t (some ad) n cap L k (by omega) hL hf ht hn hb hc w2 (HD.out.below S2.old (Nat.le_refl _)) (Lib.hid ((hp.out.below S2.old (Nat.le_refl _)).wide S2.old.size)))
          rw [hR] at HC
          have HRR := Lib.hid hR
          clear hR
          have hx := S2.bk 2 rfl
          go_wp2_with (with_reducible refine wpList_load_row rfl 31 (.tmp 3) rfl X (by kernel_rfl) _ _ (0, 0) _ hx Tryz.underlying31 rfl (by kernel_rfl) ?_)
          (with_reducible refine HC.out.mono ?_); rintro e w3 ⟨D, c3, v, rfl, hz, k3, hO⟩
          have b3 := k3.old
          have RT3 : (D = none ∧ False) ∨ RowT w3 D R.1.2 := .inr k3.rowT
          have S3 := S2.below b3
          have hO3 := hO.mono S2.old.size
          clear S2 hx HC b3 hO k3
          go_upto_region 8 with (refine wpList_store_row rfl 31 _ _ rfl _ _ rfl rfl _ _ (heap_alloc_new _ _) (by kernel_rfl) (by kernel_rfl) (by kernel_rfl) ?_)
          rw [alloc_row]
          have bN := new_below w3 (.cells (lT R.1.1 D n c3).toArray 31)
          have S4 := S3.al rfl 31 (lT R.1.1 D n c3)
          have hO4 := hO3.below bN
          have RT4 := RT3.imp id (fun q => q.below bN)
          obtain ⟨U, hU⟩ : ∃ q, w3.heap.size = q := ⟨_, rfl⟩
          rw [hU] at S4 ⊢
          obtain ⟨w4, hw4⟩ : ∃ y, w3.alloc (.cells (lT R.1.1 D n c3).toArray 31) = y := ⟨_, rfl⟩
          rw [hw4] at S4 hO4 RT4 ⊢
          clear hw4 hU bN S3 hO3 RT3
          have hu := S4.bk 0 rfl
          have hy := S4.bk 2 rfl
          have SF := S4.row 2 rfl (lT R.1.1 D n c3)
          have hyF := SF.bk 2 rfl
          have hOF := hO4.store S4 2 rfl (lT R.1.1 D n c3).toArray
          have PF : PoAt _ D _ R.1.2 := RT4.elim (fun ⟨e1, e2⟩ => e2.elim) (fun q => (q.row (cs := lT R.1.1 D n c3) (S4.1 2 _ _ _ rfl).1).ports)
          have e := HSS.out
          rw [HRR.out] at e
          subst e
          go_wp2_with (first | (with_reducible refine wpList_load_row rfl 31 (.tmp 11) rfl U (by kernel_rfl) _ _ (0, 0) _ hu Tryz.underlying31 rfl (by kernel_rfl) ?_) | (refine wpList_store_row rfl 31 _ _ rfl Y _ rfl rfl _ _ hy (by kernel_rfl) (by kernel_rfl) (by kernel_rfl) ?_))
          exact bodyPost_ret (v := .tuple #[.agg (lT R.1.1 D n c3).toArray, v, .int .i64 0]) (results_three (p := 6) (r := 7) (s := 8) rfl _ _ Y _ _ _ _ rfl _ rfl _ rfl hyF Tryz.underlying31 rfl (by kernel_rfl)) rfl ⟨D, c3, _, rfl, hz, PF, hOF, SF.old⟩
        | false =>
          go_upto_region 9 with fail
          clear v0
          rw [if_neg (by decide)] at hs0
          have HSS := Lib.hid hs0
          clear hs0
          obtain ⟨R, hR⟩ : ∃ R, heardR t L k fq = R := ⟨_, rfl⟩
          have HC := Lib.hid (hconf_is t (some ad) n cap L k fq (by omega) HFI hL hf ht hn hb hc w2 (HD.out.below S2.old (Nat.le_refl _)) (Lib.hid ((hp.out.below S2.old (Nat.le_refl _)).wide S2.old.size)))
          rw [hR] at HC
          have HRR := Lib.hid hR
          clear hR
          have hx := S2.bk 2 rfl
          have hxB := S2.bk 0 rfl
          go_wp2_with (first | (with_reducible refine wpList_load_row rfl 31 (.tmp 3) rfl X (by kernel_rfl) _ _ (0, 0) _ hx Tryz.underlying31 rfl (by kernel_rfl) ?_) | (with_reducible refine wpList_load_row rfl 56 (.tmp 9) rfl V (by kernel_rfl) _ _ (0, 0) _ hxB Tryz.underlying56 rfl (by kernel_rfl) ?_))
          (with_reducible refine HC.out.mono ?_); rintro e w3 ⟨D, c3, v, rfl, hz, k3, hO⟩
          have b3 := k3.old
          have RT3 : (D = none ∧ False) ∨ RowT w3 D R.1.2 := .inr k3.rowT
          have S3 := S2.below b3
          have hO3 := hO.mono S2.old.size
          clear S2 hx HC b3 hO hxB k3
          have hx := S3.bk 2 rfl
          go_upto_region 10 with (refine wpList_store_row rfl 31 _ _ rfl X _ rfl rfl _ _ hx (by kernel_rfl) (by kernel_rfl) (by kernel_rfl) ?_)
          have S4 : Hs w [(V, 56, lB fq), (Y, 31, [.int .u64 0, .int .u64 0, .int .u32 0, .int .i64 0, .int .i64 0, .int .i64 0, .int .i64 0, .int .i64 0, .int .i64 0, .int .i64 0, .bool false, .bool false, .bool false, .int .i64 0, .bool false, .int .i64 0, .bool false, .int .i64 0, .slice none 0 0]), (X, 31, lT R.1.1 D n c3)] _ := S3.row 2 rfl (lT R.1.1 D n c3)
          have hO4 := hO3.store S3 2 rfl (lT R.1.1 D n c3).toArray
          have RT4 := RT3.imp id (fun q => q.row (cs := lT R.1.1 D n c3) (S3.1 2 _ _ _ rfl).1)
          generalize w3.setRow X (lT R.1.1 D n c3).toArray = w4 at S4 hO4 RT4 ⊢
          clear S3 hO3 RT3 hx
          have hu := S4.bk 2 rfl
          have hy := S4.bk 1 rfl
          have SF := S4.row 1 rfl (lT R.1.1 D n c3)
          have hyF := SF.bk 1 rfl
          have hOF := hO4.store S4 1 rfl (lT R.1.1 D n c3).toArray
          have PF : PoAt _ D _ R.1.2 := RT4.elim (fun ⟨e1, e2⟩ => e2.elim) (fun q => (q.row (cs := lT R.1.1 D n c3) (S4.1 1 _ _ _ rfl).1).ports)
          have e := HSS.out
          rw [HRR.out] at e
          subst e
          go_wp2_with (first | (with_reducible refine wpList_load_row rfl 31 (.tmp 3) rfl X (by kernel_rfl) _ _ (0, 0) _ hu Tryz.underlying31 rfl (by kernel_rfl) ?_) | (refine wpList_store_row rfl 31 _ _ rfl Y _ rfl rfl _ _ hy (by kernel_rfl) (by kernel_rfl) (by kernel_rfl) ?_))
          exact bodyPost_ret (v := .tuple #[.agg (lT R.1.1 D n c3).toArray, v, .int .i64 0]) (results_three (p := 6) (r := 7) (s := 8) rfl _ _ Y _ _ _ _ rfl _ rfl _ rfl hyF Tryz.underlying31 rfl (by kernel_rfl)) rfl ⟨D, c3, _, rfl, hz, PF, hOF, SF.old⟩

end Go.Proofs.YteplefdnnehdgaaGreatDoor

/- The document's on, designated and plain, of stage 15: contracts. -/
namespace Go.Proofs.YteplefdnnehdgaaGreatDoor
set_option maxRecDepth 100000
open Go.ChangeShapes Go.WideShapes Go.ChangeAt Go.RowKit
set_option linter.unusedVariables false
set_option linter.unusedSimpArgs false

theorem ron_is (t : Th) (A : Option Addr) (n cap : Nat) (L : List Po) (hL : Hid (L.length = n)) (i : Int) (q : Bool) (hq : Hid ((if 0 ≤ i then (match L[i.toNat]? with | none => false | some p => !decide (p.st = 0)) else false) = q)) (w : World) (hp : Hid (PoAt w A w.heap.size L)) :
    Calls Tryz.prog 17 #[.agg (lT t A n cap).toArray, .int .i64 i] w fun e w' => e = .returned (.bool q) ∧ Below w.heap.size w w' := by
  obtain ⟨wb, hwb, S⟩ := hs_one w 31 (lT t A n cap)
  have HP := Lib.hid ((hp.out.below S.old (Nat.le_refl _)).wide S.old.size)
  have hq' := hq.out
  clear hq
  go_enter Tryz.func17, Tryz.ntmps17
  go_upto_region 1 with fail
  clear hwb
  have c18 := S.cell 0 18 rfl rfl
  by_cases i0 : i < 0
  · obtain rfl : false = q := by rw [← hq', if_neg (by omega)]
    have i1 : ¬ 0 ≤ i := by omega
    clear hq'
    go_wp2
    go_ret
    exact ⟨rfl, S.old⟩
  · have i1 : 0 ≤ i := by omega
    rw [if_pos i1] at hq'
    by_cases i2 : (n : Int) ≤ i
    · obtain rfl : false = q := by rw [← hq', List.getElem?_eq_none (by have := hL.out; omega)]
      have i3 : ¬ i < (n : Int) := by omega
      clear hq'
      go_wp2
      go_ret
      exact ⟨rfl, S.old⟩
    · obtain ⟨k, rfl⟩ : ∃ k : Nat, i = k := ⟨i.toNat, by omega⟩
      obtain ⟨x, hx⟩ := po_at hL.out (show k < n by omega)
      rw [Int.toNat_natCast, hx] at hq'
      obtain ⟨ad, rfl, -, -, h1⟩ := HP.out.cells hx
      have p1 := h1 0 _ rfl
      have hki : (k : Int) < (n : Int) := by omega
      have hkz : ¬ (n : Int) ≤ (k : Int) := by omega
      clear h1 hx HP hp
      by_cases hs : x.st = 0
      · obtain rfl : false = q := by rw [← hq']; simp [hs]
        have hb : (x.st != 0) = false := by simp [hs]
        clear hq' hs
        go_wp2
        go_ret
        exact ⟨rfl, S.old⟩
      · obtain rfl : true = q := by rw [← hq']; simp [hs]
        have hb : (x.st != 0) = true := by simp [hs]
        clear hq' hs
        go_wp2
        go_ret
        exact ⟨rfl, S.old⟩

theorem rdes15_is (t : Th) (A : Option Addr) (n cap : Nat) (L : List Po) (hL : Hid (L.length = n)) (k : Nat) (x : Po) (hx : Hid (L[k]? = some x)) (q : Bool) (hq : Hid (desB x t.ow = q)) (w : World) (hp : Hid (PoAt w A w.heap.size L)) :
    Calls Tryz.prog 37 #[.agg (lT t A n cap).toArray, .int .i64 k] w fun e w' => e = .returned (.bool q) ∧ Below w.heap.size w w' := by
  obtain ⟨wb, hwb, S⟩ := hs_one w 31 (lT t A n cap)
  have HP := Lib.hid ((hp.out.below S.old (Nat.le_refl _)).wide S.old.size)
  obtain ⟨ad, hA, hab, h0, h1⟩ := HP.out.cells hx.out
  subst hA
  go_enter Tryz.func37, Tryz.ntmps37
  go_upto_region 1 with fail
  clear hwb
  have c0 := S.cell 0 0 rfl rfl
  have c18 := S.cell 0 18 rfl rfl
  have hkn : k < n := by have := po_lt hx.out; have := hL.out; omega
  have hki : (k : Int) < (n : Int) := by omega
  have hkz : ¬ (n : Int) ≤ (k : Int) := by omega
  have h5 : wb.cell? ⟨(ad.add (k * 15)).block, (ad.add (k * 15)).off + 3 + 2, none⟩ = some (.int .u64 x.hb) := h1 4 _ rfl
  have h6 : wb.cell? ⟨(ad.add (k * 15)).block, (ad.add (k * 15)).off + 3 + 3, none⟩ = some (.int .u16 x.hp) := h1 5 _ rfl
  clear h1 hkn
  obtain ⟨p1, e1⟩ : ∃ p, (x.hb == t.ow) = p := ⟨_, rfl⟩
  obtain ⟨p2, e2⟩ : ∃ p, (x.hp == x.id) = p := ⟨_, rfl⟩
  have HE := Lib.hid (show (p1 && p2) = q by rw [← e1, ← e2, ← hq.out]; unfold desB; rw [Bool.eq_iff_iff]; simp)
  clear hq
  cases p1 with
  | true =>
    go_quiet (fail)
    go_wp2
    go_ret
    exact ⟨ret_bool (by rw [← HE.out]; rfl), S.old.trans ⟨rfl, rfl, rfl, Nat.le_refl _, fun _ _ => rfl⟩⟩
  | false =>
    go_quiet (fail)
    go_wp2
    go_ret
    exact ⟨ret_bool (by rw [← HE.out]; rfl), S.old.trans ⟨rfl, rfl, rfl, Nat.le_refl _, fun _ _ => rfl⟩⟩

theorem rplain15_is (x : Vec) (w : World) :
    Calls Tryz.prog 41 #[.agg #[.int .u64 x.r, .int .u32 x.c, .int .u64 x.b, .int .u16 x.p]] w fun e w' => e = .returned (.agg #[.int .u64 x.r, .int .u32 x.c, .int .u64 x.b, .int .u16 x.p]) ∧ Below w.heap.size w w' := by
  obtain ⟨wb, hwb, S⟩ := hs_two w 63 89 [.int .u64 x.r, .int .u32 x.c, .int .u64 x.b, .int .u16 x.p] [.int .u64 0, .int .u32 0, .int .u64 0, .int .u16 0]
  go_enter Tryz.func41, Tryz.ntmps41
  go_upto_region 1 with fail
  clear hwb
  obtain ⟨X, hX⟩ : ∃ X, w.heap.size = X := ⟨_, rfl⟩
  rw [hX] at S ⊢
  obtain ⟨Y, hY⟩ : ∃ Y, X + 1 = Y := ⟨_, rfl⟩
  rw [hY] at S ⊢
  have c0 := S.cell 1 0 rfl rfl
  have c1 := S.cell 1 1 rfl rfl
  have c2 := S.cell 1 2 rfl rfl
  have c3 := S.cell 1 3 rfl rfl
  have hy := S.bk 0 rfl
  go_wp2_with (refine wpList_store_row rfl 89 _ _ rfl Y _ rfl rfl _ _ hy (by kernel_rfl) (by kernel_rfl) (by kernel_rfl) ?_)
  exact bodyPost_ret (v := .agg #[.int .u64 x.r, .int .u32 x.c, .int .u64 x.b, .int .u16 x.p]) (results_cell_row rfl _ _ Y _ _ _ _ rfl (setRow_heap _ _ _ _ _ _ hy) Tryz.underlying89 rfl (by kernel_rfl)) rfl ⟨rfl, (S.row 0 rfl [.int .u64 x.r, .int .u32 x.c, .int .u64 x.b, .int .u16 x.p]).old⟩

end Go.Proofs.YteplefdnnehdgaaGreatDoor
