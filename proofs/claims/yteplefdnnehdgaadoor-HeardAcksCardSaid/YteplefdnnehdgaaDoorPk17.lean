/- Several texts in one, one behind the other: HeardTcn, WireRead, WireNum, WireOnly. -/
import Derived.Test.YteplefdnnehdgaaDoorPk12
import Derived.Test.YteplefdnnehdgaaDoorPk09
import Derived.Test.YteplefdnnehdgaaDoorPk02
import Derived.BigQuiet
import Derived.Deep.QuietTactic
import Derived.Test.YteplefdnnehdgaaDoorPk01

/- Tcn heard: contract. -/
namespace Go.Proofs.YteplefdnnehdgaaDoor
set_option maxRecDepth 100000
open Go.ChangeShapes Go.WideShapes Go.ChangeAt Go.RowKit
set_option linter.unusedVariables false
set_option linter.unusedSimpArgs false

set_option maxHeartbeats 4000000 in
theorem htcn_is (t : Th) (A : Option Addr) (n cap : Nat) (L : List Po) (i : Int) (hi : -9223372036854775808 ≤ i ∧ i ≤ 9223372036854775807) (hL : Hid (L.length = n)) (hf : n ≤ 200) (ht : Hid (ThB t)) (hn : Hid (-9223372036854775808 ≤ t.n1 ∧ t.n1 ≤ 9223372036854775807 ∧ -9223372036854775808 ≤ t.n2 ∧ t.n2 ≤ 9223372036854775807 ∧ -9223372036854775808 ≤ t.n3 ∧ t.n3 ≤ 9223372036854775807)) (hb : Hid (∀ x ∈ L, PoB x)) (hc : Hid (A = none → cap = 0)) (w : World) (hd : Hd w) (hp : Hid (PoAt w A w.heap.size L)) :
    Calls Tryd.prog 13 #[.agg (lT t A n cap).toArray, .int .i64 i] w (ConfEnd w (tcnHeardR t L i).1.1 n ((tcnHeardR t L i).1.2, (tcnHeardR t L i).2)) := by
  have HD := Lib.hid hd
  clear hd
  obtain ⟨S0, hS0⟩ : ∃ S0, tcnHeardR t L i = S0 := ⟨_, rfl⟩
  rw [hS0]
  have HS0 := Lib.hid hS0
  clear hS0
  obtain ⟨q, hq⟩ : ∃ q, (if 0 ≤ i then (match L[i.toNat]? with | none => false | some p => !decide (p.st = 0)) else false) = q := ⟨_, rfl⟩
  have HON := fun W (h : Below w.heap.size w W) => Lib.hid (hears_is t A n cap L hL i q (Lib.hid hq) W (Lib.hid ((hp.out.below h (Nat.le_refl _)).wide h.size)))
  have HQ := Lib.hid hq
  clear hq
  obtain ⟨wb, hwb, S⟩ := hs_two w 31 31 (lT t A n cap) [.int .u64 0, .int .u64 0, .int .u32 0, .int .i64 0, .int .i64 0, .int .i64 0, .int .i64 0, .int .i64 0, .int .i64 0, .int .i64 0, .bool false, .bool false, .bool false, .int .i64 0, .bool false, .int .i64 0, .bool false, .int .i64 0, .slice none 0 0]
  go_enter Tryd.func13, Tryd.ntmps13
  go_upto_region 1 with fail
  clear hwb
  obtain ⟨X, hX⟩ : ∃ q, w.heap.size = q := ⟨_, rfl⟩
  rw [hX] at S
  obtain ⟨Y, hY⟩ : ∃ q, X + 1 = q := ⟨_, rfl⟩
  rw [hY] at S
  rw [hX]
  rw [hY]
  clear hX hY
  have HH := fun q : LaterW wb => HON q.w' (S.old.trans (q.h.mono S.old.size))
  clear HON
  have hs0 := HS0.out
  unfold tcnHeardR at hs0
  have hq := HQ.out
  cases q with
  | false =>
    have hs0 : ((t, L), []) = S0 := by
      rw [← hs0]
      by_cases i0 : 0 ≤ i
      · rw [if_pos i0] at hq ⊢
        cases hl : L[i.toNat]? with
        | none => rfl
        | some p =>
          rw [hl] at hq
          have : p.st = 0 := by simpa using hq
          simp only [if_pos this]
      · rw [if_neg i0]
    clear hq
    go_cut [22] (fun u wx => u = .bool true ∧ Below wb.heap.size wb wx)
    case first =>
      refine region_later mixedL (by kernel_rfl) ?_
      (refine BigFrame.wpQuiet_want (by kernel_rfl) (fun K hK => ?_); refine quiet_load_row 31 _ rfl X (by kernel_rfl) _ _ (0, 0) _ (S.bkq 1 rfl) Tryd.underlying31 rfl (by kernel_rfl) ?_; refine hK _ ?_; clear hK; go_simp)
      go_big_quiet_step (fail)
      go_big_quiet_step ((go_at_call 22; with_reducible exact Calls.later (HH _).out))
      repeat (go_big_quiet_step (fail))
      refine wpQuiet_nil ?_
      intro r
      go_wp2_with fail
      go_meet
      exact ⟨rfl, r.h⟩
    case rest =>
      obtain ⟨rfl, B1⟩ := hcut
      rename World => w1
      have S1 := S.below B1
      clear S B1 HH
      subst hs0
      have HC := Lib.hid (tcopy_is t A n cap L hL hf hc _ (Lib.hid ((hp.out.below S1.old (Nat.le_refl _)).wide S1.old.size)))
      have hx := S1.bk 1 rfl
      go_wp2_with (with_reducible refine wpList_load_row rfl 31 (.tmp 2) rfl X (by kernel_rfl) _ _ (0, 0) _ hx Tryd.underlying31 rfl (by kernel_rfl) ?_)
      (with_reducible refine HC.out.mono ?_); rintro e wz ⟨Dz, cz, rfl, hzz, kz⟩
      have Sz := TS.take S1 kz
      have hy := Sz.hs.bk 0 rfl
      have Sy := Sz.row 0 rfl (lT t Dz n cz)
      have hyF := Sy.hs.bk 0 rfl
      clear S1 hx HC kz
      go_wp2_with (refine wpList_store_row rfl 31 _ _ rfl Y _ rfl rfl _ _ hy (by kernel_rfl) (by kernel_rfl) (by kernel_rfl) ?_)
      exact bodyPost_ret (v := .tuple #[.agg (lT t Dz n cz).toArray, .slice none 0 0]) (results_two rfl _ _ Y _ _ _ _ rfl _ rfl hyF Tryd.underlying31 rfl (by kernel_rfl)) rfl ⟨Dz, cz, _, rfl, hzz, Sy.nobox, OutsR.nil _ _⟩
  | true =>
    have h0 : 0 ≤ i := by
      by_cases i0 : 0 ≤ i
      · exact i0
      · rw [if_neg i0] at hq; cases hq
    obtain ⟨k, rfl⟩ : ∃ k : Nat, i = k := ⟨i.toNat, by omega⟩
    rw [if_pos h0, Int.toNat_natCast] at hq
    clear hs0
    obtain ⟨p, hp0⟩ : ∃ p, L[k]? = some p := by
      cases hl : L[k]? with
      | none => rw [hl] at hq; cases hq
      | some p => exact ⟨p, rfl⟩
    rw [hp0] at hq
    have hst : p.st ≠ 0 := by simpa using hq
    have hkn : k < n := by have := po_lt hp0; have := hL.out; omega
    have hki : (k : Int) < (n : Int) := by omega
    have hkz : ¬ (n : Int) ≤ (k : Int) := by omega
    have HXK := Lib.hid hp0
    have hs0 := HS0.out
    unfold tcnHeardR at hs0
    rw [if_pos h0, Int.toNat_natCast, hp0] at hs0
    simp only [if_neg hst] at hs0
    obtain ⟨d, hd⟩ : ∃ d, desB p t.ow = d := ⟨_, rfl⟩
    rw [hd] at hs0
    have HDS := fun W => Lib.hid (desig_row p t.ow d (Lib.hid hd) W)
    have HSS := Lib.hid hs0
    clear hq hp0 hs0 h0 hi hst hd HS0 HQ
    obtain ⟨ad, rfl⟩ := hp.out.some HXK.out
    have c18 : ∀ q : LaterW wb, q.w'.cell? ⟨X, 18, none⟩ = some (.slice (some ad) n cap) := fun q => (S.below q.h).cell 1 18 rfl rfl
    have c0 : ∀ q : LaterW wb, q.w'.cell? ⟨X, 0, none⟩ = some (.int .u64 t.ow) := fun q => (S.below q.h).cell 1 0 rfl rfl
    go_cut [22] (fun u wx => u = .bool (!d) ∧ Below wb.heap.size wb wx)
    case first =>
      refine region_later mixedL (by kernel_rfl) ?_
      (refine BigFrame.wpQuiet_want (by kernel_rfl) (fun K hK => ?_); refine quiet_load_row 31 _ rfl X (by kernel_rfl) _ _ (0, 0) _ (S.bkq 1 rfl) Tryd.underlying31 rfl (by kernel_rfl) ?_; refine hK _ ?_; clear hK; go_simp)
      go_big_quiet_step (fail)
      go_big_quiet_step ((go_at_call 22; with_reducible exact Calls.later (HH _).out))
      go_big_quiet_step (fail)
      go_big_quiet_step (fail)
      go_big_quiet_step (fail)
      go_big_quiet_step (fail)
      go_big_quiet_step (fail)
      go_big_quiet_step (fail)
      (refine BigFrame.wpQuiet_want (by kernel_rfl) (fun K hK => ?_); refine quiet_load_at 41 _ rfl (ad.add (k * 15)) (by kernel_rfl) _ _ (fun v hv => by obtain ⟨q, rfl⟩ := hv; exact (hp.out.below (S.below q.h).old (Nat.le_refl _)).at HXK.out rfl) Tryd.underlying41 rfl (by kernel_rfl) ?_; refine hK _ ?_; clear hK; go_simp)
      go_big_quiet_step (fail)
      go_big_quiet_step (fail)
      go_big_quiet_step ((go_at_call 11; with_reducible exact Calls.later (HDS _).out))
      repeat (go_big_quiet_step (fail))
      refine wpQuiet_nil ?_
      intro r
      go_wp2_with fail
      go_meet
      exact ⟨rfl, r.h⟩
    case rest =>
      obtain ⟨rfl, B1⟩ := hcut
      rename World => w1
      have S1 := S.below B1
      clear S B1 HH HDS c18 c0
      have hs0 := HSS.out
      cases d with
      | false =>
        simp only [Bool.false_eq_true, if_false] at hs0
        subst hs0
        have HC := Lib.hid (tcopy_is t (some ad) n cap L hL hf hc _ (Lib.hid ((hp.out.below S1.old (Nat.le_refl _)).wide S1.old.size)))
        have hx := S1.bk 1 rfl
        go_wp2_with (with_reducible refine wpList_load_row rfl 31 (.tmp 2) rfl X (by kernel_rfl) _ _ (0, 0) _ hx Tryd.underlying31 rfl (by kernel_rfl) ?_)
        (with_reducible refine HC.out.mono ?_); rintro e wz ⟨Dz, cz, rfl, hzz, kz⟩
        have Sz := TS.take S1 kz
        have hy := Sz.hs.bk 0 rfl
        have Sy := Sz.row 0 rfl (lT t Dz n cz)
        have hyF := Sy.hs.bk 0 rfl
        clear S1 hx HC kz
        go_wp2_with (refine wpList_store_row rfl 31 _ _ rfl Y _ rfl rfl _ _ hy (by kernel_rfl) (by kernel_rfl) (by kernel_rfl) ?_)
        exact bodyPost_ret (v := .tuple #[.agg (lT t Dz n cz).toArray, .slice none 0 0]) (results_two rfl _ _ Y _ _ _ _ rfl _ rfl hyF Tryd.underlying31 rfl (by kernel_rfl)) rfl ⟨Dz, cz, _, rfl, hzz, Sy.nobox, OutsR.nil _ _⟩
      | true =>
        simp only [if_true] at hs0
        have HSS := Lib.hid hs0
        clear hs0
        obtain ⟨u, hu⟩ : ∃ u, detT t = u := ⟨_, rfl⟩
        have HTU := Lib.hid (show ThB u by rw [← hu]; exact det_bd ht.out)
        have HNU := Lib.hid (show (-9223372036854775808 ≤ u.n1 ∧ u.n1 ≤ 9223372036854775807 ∧ -9223372036854775808 ≤ u.n2 ∧ u.n2 ≤ 9223372036854775807 ∧ -9223372036854775808 ≤ u.n3 ∧ u.n3 ≤ 9223372036854775807) by rw [← hu]; exact nb_det hn.out)
        obtain ⟨o, ho⟩ : ∃ o, detO t n = o := ⟨_, rfl⟩
        have HOL := Lib.hid (show o.length ≤ 1 by rw [← ho]; exact det_few _ _)
        have HC := Lib.hid (sdetect_is t (some ad) n cap L hL hf ht hc w1 (HD.out.below S1.old (Nat.le_refl _)) (Lib.hid ((hp.out.below S1.old (Nat.le_refl _)).wide S1.old.size)))
        rw [hu, ho] at HC
        have HUU := Lib.hid hu
        have HOO := Lib.hid ho
        clear hu ho
        go_upto_region 3 with fail
        have hx := S1.bk 1 rfl
        go_wp2_with (with_reducible refine wpList_load_row rfl 31 (.tmp 2) rfl X (by kernel_rfl) _ _ (0, 0) _ hx Tryd.underlying31 rfl (by kernel_rfl) ?_)
        (with_reducible refine HC.out.mono ?_); rintro e w2 ⟨D1, c1, v, rfl, hz1, k2, hO⟩
        have S2 := TS.take S1 k2
        have hO2 := hO.mono S1.old.size
        have HZ1 := Lib.hid hz1
        clear S1 hx HC k2 hO hz1
        have hx := S2.hs.bk 1 rfl
        go_upto_region 4 with (refine wpList_store_row rfl 31 _ _ rfl X _ rfl rfl _ _ hx (by kernel_rfl) (by kernel_rfl) (by kernel_rfl) ?_)
        have S3 : TS w [(Y, 31, [.int .u64 0, .int .u64 0, .int .u32 0, .int .i64 0, .int .i64 0, .int .i64 0, .int .i64 0, .int .i64 0, .int .i64 0, .int .i64 0, .bool false, .bool false, .bool false, .int .i64 0, .bool false, .int .i64 0, .bool false, .int .i64 0, .slice none 0 0]), (X, 31, lT u D1 n c1)] D1 L _ := S2.row 1 rfl (lT u D1 n c1)
        have hO3 := hO2.store S2.hs 1 rfl (lT u D1 n c1).toArray
        generalize w2.setRow X (lT u D1 n c1).toArray = w3 at S3 hO3 ⊢
        clear S2 hO2 hx
        have HC := Lib.hid (with_is u D1 n c1 L k p ({ p with ak := true } : Po) HXK 29 #[] (enters_of Tryd.func29 (by kernel_rfl) rfl) hL hf HZ1 w3 (Lib.hid (tcn1_ok HXK.out w3)) (Lib.hid S3.ports))
        have hx := S3.hs.bk 1 rfl
        go_wp2_with (with_reducible refine wpList_load_row rfl 31 (.tmp 2) rfl X (by kernel_rfl) _ _ (0, 0) _ hx Tryd.underlying31 rfl (by kernel_rfl) ?_)
        (with_reducible refine HC.out.mono ?_); rintro e w4 ⟨D2, c2, rfl, hz2, k4⟩
        have S4 := TS.take S3.hs k4
        have hO4 := hO3.below k4.old
        have HZ2 := Lib.hid hz2
        clear S3 hO3 hx HC k4 hz2
        have hx := S4.hs.bk 1 rfl
        go_upto_region 5 with (refine wpList_store_row rfl 31 _ _ rfl X _ rfl rfl _ _ hx (by kernel_rfl) (by kernel_rfl) (by kernel_rfl) ?_)
        have S5 : TS w [(Y, 31, [.int .u64 0, .int .u64 0, .int .u32 0, .int .i64 0, .int .i64 0, .int .i64 0, .int .i64 0, .int .i64 0, .int .i64 0, .int .i64 0, .bool false, .bool false, .bool false, .int .i64 0, .bool false, .int .i64 0, .bool false, .int .i64 0, .slice none 0 0]), (X, 31, lT u D2 n c2)] D2 (L.set k ({ p with ak := true } : Po)) _ := S4.row 1 rfl (lT u D2 n c2)
        have hO5 := hO4.store S4.hs 1 rfl (lT u D2 n c2).toArray
        generalize w4.setRow X (lT u D2 n c2).toArray = w5 at S5 hO5 ⊢
        clear S4 hO4 hx
        have HBN := Lib.hid (show ∀ y ∈ L.set k ({ p with ak := true } : Po), PoB y from set_bd hb.out (by have := hb.out p (List.mem_of_getElem? HXK.out); unfold PoB at *; exact this))
        have HC := Lib.hid (sconf_is u D2 n c2 (L.set k ({ p with ak := true } : Po)) k (by omega) (Lib.hid (set_len hL.out)) hf HTU HNU HBN HZ2 w5 (HD.out.below S5.old (Nat.le_refl _)) (Lib.hid S5.ports))
        have HRF := Lib.hid (confR_few u (L.set k ({ p with ak := true } : Po)) k)
        obtain ⟨R, hR⟩ : ∃ R, confR u (L.set k ({ p with ak := true } : Po)) k = R := ⟨_, rfl⟩
        rw [hR] at HC HRF
        have HRR := Lib.hid hR
        clear hR
        have hx := S5.hs.bk 1 rfl
        go_wp2_with (with_reducible refine wpList_load_row rfl 31 (.tmp 2) rfl X (by kernel_rfl) _ _ (0, 0) _ hx Tryd.underlying31 rfl (by kernel_rfl) ?_)
        (with_reducible refine HC.out.mono ?_); rintro e w6 ⟨D3, c3, v3, rfl, hz3, k6, hO⟩
        have S6 := TS.take S5.hs k6
        have hO6 := hO5.below k6.old
        have HWQ := Lib.hid (show w.heap.size ≤ w5.heap.size from S5.old.size)
        have HZ3 := Lib.hid hz3
        clear S5 hO5 hx HC k6 hz3
        have hx := S6.hs.bk 1 rfl
        go_upto_region 6 with (refine wpList_store_row rfl 31 _ _ rfl X _ rfl rfl _ _ hx (by kernel_rfl) (by kernel_rfl) (by kernel_rfl) ?_)
        have S7 : TS w [(Y, 31, [.int .u64 0, .int .u64 0, .int .u32 0, .int .i64 0, .int .i64 0, .int .i64 0, .int .i64 0, .int .i64 0, .int .i64 0, .int .i64 0, .bool false, .bool false, .bool false, .int .i64 0, .bool false, .int .i64 0, .bool false, .int .i64 0, .slice none 0 0]), (X, 31, lT u D3 n c3)] D3 R.1 _ := S6.row 1 rfl (lT u D3 n c3)
        have hO7 := hO6.store S6.hs 1 rfl (lT u D3 n c3).toArray
        have hQ7 := hO.store S6.hs 1 rfl (lT u D3 n c3).toArray
        generalize w6.setRow X (lT u D3 n c3).toArray = w7 at S7 hO7 hQ7 ⊢
        clear S6 hO6 hO hx
        have hlen : o.length + R.2.length ≤ 100000 := by have h1 := HOL.out; have h2 := HRF.out; omega
        refine wp_region_held_drew (S := (fun w' => Bk w' X 31 (lT u D3 n c3))) (by kernel_rfl) ((S7.hs.drewB 1 rfl)) (fun hHeld => ?_)
        have Sd := S7.below ((Below.refl _ _).drew)
        have hOd := hO7.below ((Below.refl _ _).drew)
        have hQd := hQ7.below ((Below.refl _ _).drew)
        obtain ⟨vd, hvd⟩ : ∃ y, w7.drew = y := ⟨_, rfl⟩
        rw [hvd] at Sd hOd hQd hHeld ⊢
        clear hvd S7 hO7 hQ7
        have hbd : w.heap.size ≤ vd.heap.size := Sd.old.size
        obtain ⟨_, _, hown⟩ := hOd.own
        refine wpAnyH_take (i := 0) (v := _) rfl (by kernel_rfl) (by kernel_rfl) (by kernel_rfl) (fun _ _ _ h => h) (Or.inl ⟨by kernel_rfl, fun w' hSw => exec_load_row 31 _ rfl X (by kernel_rfl) _ _ (0, 0) _ (hSw) Tryd.underlying31 rfl (by kernel_rfl)⟩) (by assumption) ?_
        try simp only [Act.put, List.getElem_toArray, List.getElem_cons_succ, List.getElem_cons_zero, List.setIfInBounds_toArray, List.set_cons_succ, List.set_cons_zero]
        refine wpAnyH_take (i := 1) (v := ?_) rfl (by kernel_rfl) (by kernel_rfl) (by kernel_rfl) (fun _ _ _ h => h) (Or.inl ⟨by kernel_rfl, ?_⟩) (by assumption) ?_
        rotate_left
        · intro w' hSw; (try dsimp only at hSw); go_simp; with_reducible rfl
        try simp only [Act.put, List.getElem_toArray, List.getElem_cons_succ, List.getElem_cons_zero, List.setIfInBounds_toArray, List.set_cons_succ, List.set_cons_zero]
        refine wpAnyH_take (i := 2) (v := ?_) rfl (by kernel_rfl) (by kernel_rfl) (by kernel_rfl) (fun _ _ _ h => h) (Or.inl ⟨by kernel_rfl, ?_⟩) (by assumption) ?_
        rotate_left
        · intro w' hSw; (try dsimp only at hSw); go_simp; with_reducible rfl
        try simp only [Act.put, List.getElem_toArray, List.getElem_cons_succ, List.getElem_cons_zero, List.setIfInBounds_toArray, List.set_cons_succ, List.set_cons_zero]
        refine wpAnyH_ready (rs := [3]) (by kernel_rfl) (by simp) ?_
        refine AllReadyH.cons rfl (fun K hK => ?_) AllReadyH.nil
        refine step_append_outs rfl (.tmp 40) (.tmp 41) (by kernel_rfl) w.heap.size w5.heap.size v v3 o R.2 (by kernel_rfl) (by kernel_rfl) hOd hQd HWQ.out hlen hbd ?_
        intro v' we hOe gr
        have Se := Sd.grownT hown gr (fun y hy => by simp only [List.mem_cons, List.not_mem_nil, or_false] at hy; rcases hy with rfl | rfl <;> (dsimp only; decide)) (Nat.le_refl _)
        clear Sd hOd hQd gr hown
        refine hK.out _ _ ((Se.hs.1 1 _ _ _ rfl).1) (fun hHeld => ?_)
        clear hK K
        try simp only [Act.put, List.getElem_toArray, List.getElem_cons_succ, List.getElem_cons_zero, List.setIfInBounds_toArray, List.set_cons_succ, List.set_cons_zero]
        have hy := Se.hs.bk 0 rfl
        refine wpAnyH_ready (rs := [4]) (by kernel_rfl) (by simp) ?_
        refine AllReadyH.cons rfl (fun K hK => ?_) AllReadyH.nil
        refine exec_if_store (by kernel_rfl) 31 (.tmp 4) (.tmp 39) rfl Y (lT u D3 n c3).toArray (by kernel_rfl) (by kernel_rfl) _ _ hy (by kernel_rfl) (by kernel_rfl) (by kernel_rfl) ?_
        have Sf := Se.row 0 rfl (lT u D3 n c3)
        refine hK.out _ _ ((Sf.hs.1 1 _ _ _ rfl).1) (fun hHeld => ?_)
        clear hK K
        try simp only [Act.put, List.getElem_toArray, List.getElem_cons_succ, List.getElem_cons_zero, List.setIfInBounds_toArray, List.set_cons_succ, List.set_cons_zero]
        refine wpAnyH_take (i := 5) (v := ?_) rfl (by kernel_rfl) (by kernel_rfl) (by kernel_rfl) (fun _ _ _ h => h) (Or.inl ⟨by kernel_rfl, ?_⟩) (by assumption) ?_
        rotate_left
        · intro w' hSw; (try dsimp only at hSw); go_simp; with_reducible rfl
        try simp only [Act.put, List.getElem_toArray, List.getElem_cons_succ, List.getElem_cons_zero, List.setIfInBounds_toArray, List.set_cons_succ, List.set_cons_zero]
        refine wpAnyH_done (by kernel_rfl) ?_ _
        have hOF := hOe.store Se.hs 0 rfl (lT u D3 n c3).toArray
        have hyF := Sf.hs.bk 0 rfl
        have e := HSS.out
        rw [HUU.out, hL.out, HOO.out, HRR.out] at e
        subst e
        go_wp2
        exact bodyPost_ret (v := .tuple #[.agg (lT u D3 n c3).toArray, v']) (results_two rfl _ _ Y _ _ _ _ rfl _ rfl hyF Tryd.underlying31 rfl (by kernel_rfl)) rfl ⟨D3, c3, _, rfl, HZ3.out, Sf.nobox, hOF⟩

end Go.Proofs.YteplefdnnehdgaaDoor

/- The reader: a copy, a new reader, whether it is short, the next bytes. -/
namespace Go.Proofs.YteplefdnnehdgaaDoor
set_option maxRecDepth 100000
open Go.ChangeShapes Go.WideShapes Go.ChangeAt Go.RowKit
set_option linter.unusedVariables false

theorem copyOf_any (A : Option Addr) (c : Nat) (l : List UInt8) (n lo hi : Nat) (hn : Hid (l.length = n)) (hm : n ≤ 140737488355328) (w : World) (hr : RB w A lo hi l) (hhi : hi ≤ w.heap.size) :
    Calls Tryd.prog 53 #[.slice A n c] w fun e w' => e = .returned (.slice (some ⟨w.heap.size, 0, none⟩) n n) ∧ Bk w' w.heap.size 5 (l.map bc) ∧ Below w.heap.size w w' := by
  have hmk := make_bytes n hm
  go_enter Tryd.func53, Tryd.ntmps53
  go_wp2_with (with_reducible refine wpList_copy_splice rfl (.tmp 7) (.tmp 8) 50 50 rfl 5 Tryd.underlying50 Tryd.sizeByte _ _ _ _ _ _ rfl rfl w.heap.size 0 (List.replicate n (Value.int .u8 0)) 5 (heap_alloc_new w _) (l.map bc) (len_min hn.out) (copy_src hr (below_new hhi) _) (fit_all hn.out) (one_bcs l) w.heap.size w (below_new (Nat.le_refl _)) (Nat.le_refl _) ?_; intro w' hg hb)
  go_ret
  refine ⟨rfl, ?_, hb⟩
  have h := hg.out
  rw [splice_all _ _ (by simp [hn.out])] at h
  exact h

theorem new_any (A : Option Addr) (c : Nat) (l : List UInt8) (n lo hi : Nat) (hn : Hid (l.length = n)) (hm : n ≤ 140737488355328) (w : World) (hr : RB w A lo hi l) (hhi : hi ≤ w.heap.size) :
    Calls Tryd.prog 30 #[.slice A n c] w fun e w' => ∃ h A', e = .returned (.pointer (some ⟨h, 0, none⟩)) ∧ RD 98 w' w.heap.size w'.heap.size h A' l false ∧ Below w.heap.size w w' := by
  go_enter Tryd.func30, Tryd.ntmps30
  go_wp2_with ((with_reducible refine (copyOf_any A c l n lo hi hn hm _ hr hhi).mono ?_); rintro e w1 ⟨rfl, HB, hb⟩)
  go_ret
  refine ⟨w1.heap.size, some ⟨w.heap.size, 0, none⟩, rfl, ⟨hb.size, by simp, ?_, ?_⟩, hb.alloc hb.size _⟩
  · rw [hn.out]; exact heap_alloc_new w1 _
  · exact (HB.rb w.heap.size w1.heap.size (Nat.le_refl _) HB.lt).below (below_new (Nat.le_refl _)) (Nat.le_refl _)

theorem short_any (lo hi h : Nat) (A : Option Addr) (l : List UInt8) (s : Bool) (w : World) (hr : RD 98 w lo hi h A l s) :
    Calls Tryd.prog 32 #[.pointer (some ⟨h, 0, none⟩)] w fun e w' => e = .returned (.bool s) ∧ w = w' := by
  have hc := hr.2.2.1.cell 1
  simp at hc
  go_enter Tryd.func32, Tryd.ntmps32
  go_wp2
  go_ret
  exact ⟨rfl, rfl⟩

/-- So many bytes can't be read. -/
def BadN (s : Bool) (len : Nat) (n : Int) : Prop := s = true ∨ n < 0 ∨ (len : Int) < n

theorem rd_short {T : TypeId} {w : World} {lo hi h : Nat} {A : Option Addr} {l : List UInt8} {s : Bool} (r : RD T w lo hi h A l s) :
    RD T (w.setCell ⟨h, 1, none⟩ (.bool true)) lo hi h A l true ∧ Below lo w (w.setCell ⟨h, 1, none⟩ (.bool true)) ∧ (w.setCell ⟨h, 1, none⟩ (.bool true)).heap.size = w.heap.size := by
  obtain ⟨h1, h2, h3, h4⟩ := r
  exact ⟨⟨h1, h2, h3.set 1 _, h4.set (.inr (Nat.le_refl _)) _⟩, (Below.refl _ _).setCell h1 _, by simp [World.setCell]⟩

theorem rd_next {T : TypeId} {w : World} {lo hi h : Nat} {A : Option Addr} {l : List UInt8} {s : Bool} (r : RD T w lo hi h A l s) (k : Nat) (hk : k ≤ l.length) :
    RD T (w.setCell ⟨h, 0, none⟩ (.slice (cutA A k l.length) (l.length - k) (l.length - k))) lo hi h (cutA A k l.length) (l.drop k) s ∧ RB (w.setCell ⟨h, 0, none⟩ (.slice (cutA A k l.length) (l.length - k) (l.length - k))) A lo h (l.take k) ∧
    Below lo w (w.setCell ⟨h, 0, none⟩ (.slice (cutA A k l.length) (l.length - k) (l.length - k))) ∧ (w.setCell ⟨h, 0, none⟩ (.slice (cutA A k l.length) (l.length - k) (l.length - k))).heap.size = w.heap.size := by
  obtain ⟨h1, h2, h3, h4⟩ := r
  refine ⟨⟨h1, h2, ?_, (h4.drop k l.length (Nat.le_refl _)).set (.inr (Nat.le_refl _)) _⟩, (h4.take k).set (.inr (Nat.le_refl _)) _, (Below.refl _ _).setCell h1 _, by simp [World.setCell]⟩
  rw [List.length_drop]
  exact h3.set 0 _

theorem next_bad (lo hi h : Nat) (A : Option Addr) (l : List UInt8) (s : Bool) (n : Int) (w : World) (hr : RD 98 w lo hi h A l s) (hm : l.length ≤ 140737488355328) (h0 : -9223372036854775808 ≤ n) (h1 : n ≤ 9223372036854775807) (hbad : BadN s l.length n) :
    Calls Tryd.prog 54 #[.pointer (some ⟨h, 0, none⟩), .int .i64 n] w fun e w' => e = .returned (.slice none 0 0) ∧ RD 98 w' lo hi h A l true ∧ Below lo w w' ∧ w'.heap.size = w.heap.size := by
  have hc := hr.2.2.1.cell 0
  have hd := hr.2.2.1.cell 1
  have hf := hr.2.2.1.thaw 1
  simp at hc hd
  have K := Lib.hid (rd_short hr)
  clear hr
  by_cases hs : s = true
  · subst hs
    go_enter Tryd.func54, Tryd.ntmps54
    go_wp2
    go_ret
    exact ⟨rfl, K.out⟩
  · have hs' : s = false := by simpa using hs
    subst hs'
    clear hs
    by_cases hn : n < 0
    · go_enter Tryd.func54, Tryd.ntmps54
      go_wp2
      go_ret
      exact ⟨rfl, K.out⟩
    · have hl : (l.length : Int) < n := by
        unfold BadN at hbad
        rcases hbad with h | h | h
        · cases h
        · exact absurd h hn
        · exact h
      have hn0 : decide (n < 0) = false := by simpa using hn
      clear hbad hn
      go_enter Tryd.func54, Tryd.ntmps54
      go_wp2
      go_ret
      exact ⟨rfl, K.out⟩

theorem next_ok (lo hi h : Nat) (A : Option Addr) (l : List UInt8) (k : Nat) (w : World) (hr : RD 98 w lo hi h A l false) (hm : l.length ≤ 140737488355328) (hk : k ≤ l.length) :
    Calls Tryd.prog 54 #[.pointer (some ⟨h, 0, none⟩), .int .i64 (k : Int)] w fun e w' => e = .returned (.slice A k l.length) ∧ RD 98 w' lo hi h (cutA A k l.length) (l.drop k) false ∧ RB w' A lo h (l.take k) ∧ Below lo w w' ∧ w'.heap.size = w.heap.size := by
  have hc := hr.2.2.1.cell 0
  have hd := hr.2.2.1.cell 1
  have hf := hr.2.2.1.thaw 0
  simp at hc hd
  have K := Lib.hid (rd_next hr k hk)
  clear hr
  go_enter Tryd.func54, Tryd.ntmps54
  go_wp2
  · go_ret
    have g : l.length = k := by assumption
    have e : cutA A k l.length = A := by simp [cutA, g]
    have e' : cutA A k k = A := by simp [cutA]
    have q := K.out
    rw [show l.length - k = 0 by omega, e] at q
    rw [e']
    exact ⟨rfl, q⟩
  · go_ret
    have g : ¬ l.length = k := by assumption
    have e : cutA A k l.length = A.map (·.add k) := by simp [cutA, g]
    have q := K.out
    rw [e] at q
    rw [e]
    exact ⟨rfl, q⟩

end Go.Proofs.YteplefdnnehdgaaDoor

/- Num, and the document's own. -/
namespace Go.Proofs.YteplefdnnehdgaaDoor
set_option maxRecDepth 100000
open Go.ChangeShapes Go.WideShapes Go.ChangeAt Go.RowKit
set_option linter.unusedVariables false

theorem or8w (y b : Int) (h0 : 0 ≤ y) (h1 : y < 18446744073709551616) (b0 : 0 ≤ b) (b1 : b < 256) : bits .or .u64 (IntKind.u64.wrap (y * 256)) b = (y * 256 + b) % 18446744073709551616 := by
  have e : IntKind.u64.wrap (y * 256) = (y % 72057594037927936) * 256 := by rw [IntKind.wrap_u64]; omega
  rw [e, or8_64 _ b (by omega) (by omega) b0 b1]
  omega

theorem num_bad (lo hi h : Nat) (A : Option Addr) (l : List UInt8) (s : Bool) (n : Int) (w : World) (hr : RD 98 w lo hi h A l s) (hm : l.length ≤ 140737488355328) (h0 : -9223372036854775808 ≤ n) (h1 : n ≤ 9223372036854775807) (hbad : BadN s l.length n) :
    Calls Tryd.prog 31 #[.pointer (some ⟨h, 0, none⟩), .int .i64 n] w fun e w' => e = .returned (.int .u64 0) ∧ RD 98 w' lo hi h A l true ∧ Below lo w w' ∧ w'.heap.size = w.heap.size := by
  go_enter Tryd.func31, Tryd.ntmps31
  go_wp2_with (go_at_call 54; (with_reducible refine (next_bad lo hi h A l s n _ hr hm h0 h1 hbad).mono ?_); rintro e w1 ⟨rfl, hr1, hb1, hz⟩; have HZ := Lib.hid hz; clear hz)
  go_rounds 1
  go_ret
  exact ⟨rfl, hr1, hb1, HZ.out⟩

theorem num_ok (lo hi h : Nat) (A : Option Addr) (l : List UInt8) (k : Nat) (sz : Int) (hsz : Hid (sz = k)) (w : World) (hr : RD 98 w lo hi h A l false) (hm : l.length ≤ 140737488355328) (hk : k ≤ l.length) :
    Calls Tryd.prog 31 #[.pointer (some ⟨h, 0, none⟩), .int .i64 sz] w fun e w' => e = .returned (.int .u64 (numU (l.take k))) ∧ RD 98 w' lo hi h (cutA A k l.length) (l.drop k) false ∧ Below lo w w' ∧ w'.heap.size = w.heap.size := by
  obtain rfl := hsz.out
  clear hsz
  obtain ⟨x, hx⟩ : ∃ x, x = l.take k := ⟨_, rfl⟩
  have htk : x.length = k := by rw [hx]; simp; omega
  have HT := Lib.hid htk
  rw [← hx]
  have HX := Lib.hid hx
  clear htk hx
  go_enter Tryd.func31, Tryd.ntmps31
  go_wp2_with (go_at_call 54; (with_reducible refine (next_ok lo hi h A l k _ hr hm hk).mono ?_); rintro e w1 ⟨rfl, hr1, hrb1, hb1, hz⟩; rw [← HX.out] at hrb1; have HZ := Lib.hid hz; clear hz)
  go_loop [5, 12] (fun t i => ∃ j : Nat, j ≤ k ∧ i = .int .i64 j ∧ t = .int .u64 (numU (x.take j))) (fun _ i => k - (intOf i).toNat)
  case atStart => exact ⟨0, Nat.zero_le _, rfl, rfl⟩
  case round =>
    obtain ⟨j, hj, rfl, rfl⟩ := hrel
    obtain ⟨q0, q1⟩ := numU_lo (x.take j)
    by_cases hlt : j < k
    · have hjx : j < x.length := by rw [HT.out]; exact hlt
      obtain ⟨ad, rfl, g1, g2, hc⟩ := hrb1 (by omega)
      have hcell := hc j hjx
      unfold bc at hcell
      have HN := Lib.hid (numU_take x j hjx)
      obtain ⟨y, hy⟩ : ∃ y, y = numU (x.take j) := ⟨_, rfl⟩
      rw [← hy] at q0 q1 HN ⊢
      obtain ⟨b, hb⟩ : ∃ b : Int, b = (x[j].toNat : Int) := ⟨_, rfl⟩
      have hb0 : 0 ≤ b := by omega
      have hb2 : b < 256 := by have := x[j].toNat_lt; omega
      rw [← hb] at hcell HN
      have HB := Lib.hid hb
      have HY := Lib.hid hy
      clear hb hy hc
      go_wp2
      go_round
      case rel => exact ⟨j + 1, by omega, by go_num, by rw [or8w y b q0 q1 hb0 hb2, HN.out]⟩
      case measure => simp [intOf]; omega
    · obtain rfl : j = k := by omega
      go_wp2
      go_ret
      rw [List.take_of_length_le (by rw [HT.out]; omega)]
      exact ⟨rfl, hr1, hb1, HZ.out⟩

end Go.Proofs.YteplefdnnehdgaaDoor

/- The reader's next bytes and numbers, with what else is left as it was: all blocks but its own. -/
namespace Go.Proofs.YteplefdnnehdgaaDoor
set_option maxRecDepth 100000
open Go.ChangeShapes Go.WideShapes Go.ChangeAt Go.RowKit
set_option linter.unusedVariables false

/-- Nothing but block 'h' has turned, and nothing is new. -/
def Only (h : Nat) (w w' : World) : Prop := w'.heap.size = w.heap.size ∧ ∀ b, b ≠ h → w'.heap[b]? = w.heap[b]?

theorem Only.bk {h g : Nat} {w w' : World} {t : TypeId} {cs : List Value} (o : Only h w w') (k : Bk w g t cs) (hg : g ≠ h) : Bk w' g t cs := (o.2 g hg).trans k

theorem only_set (w : World) (h i : Nat) (u : Value) : Only h w (w.setCell ⟨h, i, none⟩ u) := ⟨by simp [World.setCell], fun b hb => Below.heap_setCell w _ u b hb⟩

theorem rd_shortO {T : TypeId} {w : World} {lo hi h : Nat} {A : Option Addr} {l : List UInt8} {s : Bool} (r : RD T w lo hi h A l s) :
    RD T (w.setCell ⟨h, 1, none⟩ (.bool true)) lo hi h A l true ∧ Below lo w (w.setCell ⟨h, 1, none⟩ (.bool true)) ∧ Only h w (w.setCell ⟨h, 1, none⟩ (.bool true)) := by
  obtain ⟨h1, h2, h3, h4⟩ := r
  exact ⟨⟨h1, h2, h3.set 1 _, h4.set (.inr (Nat.le_refl _)) _⟩, (Below.refl _ _).setCell h1 _, only_set _ _ _ _⟩

theorem rd_nextO {T : TypeId} {w : World} {lo hi h : Nat} {A : Option Addr} {l : List UInt8} {s : Bool} (r : RD T w lo hi h A l s) (k : Nat) (hk : k ≤ l.length) :
    RD T (w.setCell ⟨h, 0, none⟩ (.slice (cutA A k l.length) (l.length - k) (l.length - k))) lo hi h (cutA A k l.length) (l.drop k) s ∧ RB (w.setCell ⟨h, 0, none⟩ (.slice (cutA A k l.length) (l.length - k) (l.length - k))) A lo h (l.take k) ∧
    Below lo w (w.setCell ⟨h, 0, none⟩ (.slice (cutA A k l.length) (l.length - k) (l.length - k))) ∧ Only h w (w.setCell ⟨h, 0, none⟩ (.slice (cutA A k l.length) (l.length - k) (l.length - k))) := by
  obtain ⟨h1, h2, h3, h4⟩ := r
  refine ⟨⟨h1, h2, ?_, (h4.drop k l.length (Nat.le_refl _)).set (.inr (Nat.le_refl _)) _⟩, (h4.take k).set (.inr (Nat.le_refl _)) _, (Below.refl _ _).setCell h1 _, only_set _ _ _ _⟩
  rw [List.length_drop]
  exact h3.set 0 _

theorem next_badO (lo hi h : Nat) (A : Option Addr) (l : List UInt8) (s : Bool) (n : Int) (w : World) (hr : RD 98 w lo hi h A l s) (hm : l.length ≤ 140737488355328) (h0 : -9223372036854775808 ≤ n) (h1 : n ≤ 9223372036854775807) (hbad : BadN s l.length n) :
    Calls Tryd.prog 54 #[.pointer (some ⟨h, 0, none⟩), .int .i64 n] w fun e w' => e = .returned (.slice none 0 0) ∧ RD 98 w' lo hi h A l true ∧ Below lo w w' ∧ Only h w w' := by
  have hc := hr.2.2.1.cell 0
  have hd := hr.2.2.1.cell 1
  have hf := hr.2.2.1.thaw 1
  simp at hc hd
  have K := Lib.hid (rd_shortO hr)
  clear hr
  by_cases hs : s = true
  · subst hs
    go_enter Tryd.func54, Tryd.ntmps54
    go_wp2
    go_ret
    exact ⟨rfl, K.out⟩
  · have hs' : s = false := by simpa using hs
    subst hs'
    clear hs
    by_cases hn : n < 0
    · go_enter Tryd.func54, Tryd.ntmps54
      go_wp2
      go_ret
      exact ⟨rfl, K.out⟩
    · have hl : (l.length : Int) < n := by
        unfold BadN at hbad
        rcases hbad with h | h | h
        · cases h
        · exact absurd h hn
        · exact h
      have hn0 : decide (n < 0) = false := by simpa using hn
      clear hbad hn
      go_enter Tryd.func54, Tryd.ntmps54
      go_wp2
      go_ret
      exact ⟨rfl, K.out⟩

theorem next_okO (lo hi h : Nat) (A : Option Addr) (l : List UInt8) (k : Nat) (w : World) (hr : RD 98 w lo hi h A l false) (hm : l.length ≤ 140737488355328) (hk : k ≤ l.length) :
    Calls Tryd.prog 54 #[.pointer (some ⟨h, 0, none⟩), .int .i64 (k : Int)] w fun e w' => e = .returned (.slice A k l.length) ∧ RD 98 w' lo hi h (cutA A k l.length) (l.drop k) false ∧ RB w' A lo h (l.take k) ∧ Below lo w w' ∧ Only h w w' := by
  have hc := hr.2.2.1.cell 0
  have hd := hr.2.2.1.cell 1
  have hf := hr.2.2.1.thaw 0
  simp at hc hd
  have K := Lib.hid (rd_nextO hr k hk)
  clear hr
  go_enter Tryd.func54, Tryd.ntmps54
  go_wp2
  · go_ret
    have g : l.length = k := by assumption
    have e : cutA A k l.length = A := by simp [cutA, g]
    have e' : cutA A k k = A := by simp [cutA]
    have q := K.out
    rw [show l.length - k = 0 by omega, e] at q
    rw [e']
    exact ⟨rfl, q⟩
  · go_ret
    have g : ¬ l.length = k := by assumption
    have e : cutA A k l.length = A.map (·.add k) := by simp [cutA, g]
    have q := K.out
    rw [e] at q
    rw [e]
    exact ⟨rfl, q⟩

theorem num_badO (lo hi h : Nat) (A : Option Addr) (l : List UInt8) (s : Bool) (n : Int) (w : World) (hr : RD 98 w lo hi h A l s) (hm : l.length ≤ 140737488355328) (h0 : -9223372036854775808 ≤ n) (h1 : n ≤ 9223372036854775807) (hbad : BadN s l.length n) :
    Calls Tryd.prog 31 #[.pointer (some ⟨h, 0, none⟩), .int .i64 n] w fun e w' => e = .returned (.int .u64 0) ∧ RD 98 w' lo hi h A l true ∧ Below lo w w' ∧ Only h w w' := by
  go_enter Tryd.func31, Tryd.ntmps31
  go_wp2_with (go_at_call 54; (with_reducible refine (next_badO lo hi h A l s n _ hr hm h0 h1 hbad).mono ?_); rintro e w1 ⟨rfl, hr1, hb1, hz⟩; have HZ := Lib.hid hz; clear hz)
  go_rounds 1
  go_ret
  exact ⟨rfl, hr1, hb1, HZ.out⟩

theorem num_okO (lo hi h : Nat) (A : Option Addr) (l : List UInt8) (k : Nat) (sz : Int) (hsz : Hid (sz = k)) (w : World) (hr : RD 98 w lo hi h A l false) (hm : l.length ≤ 140737488355328) (hk : k ≤ l.length) :
    Calls Tryd.prog 31 #[.pointer (some ⟨h, 0, none⟩), .int .i64 sz] w fun e w' => e = .returned (.int .u64 (numU (l.take k))) ∧ RD 98 w' lo hi h (cutA A k l.length) (l.drop k) false ∧ Below lo w w' ∧ Only h w w' := by
  obtain rfl := hsz.out
  clear hsz
  obtain ⟨x, hx⟩ : ∃ x, x = l.take k := ⟨_, rfl⟩
  have htk : x.length = k := by rw [hx]; simp; omega
  have HT := Lib.hid htk
  rw [← hx]
  have HX := Lib.hid hx
  clear htk hx
  go_enter Tryd.func31, Tryd.ntmps31
  go_wp2_with (go_at_call 54; (with_reducible refine (next_okO lo hi h A l k _ hr hm hk).mono ?_); rintro e w1 ⟨rfl, hr1, hrb1, hb1, hz⟩; rw [← HX.out] at hrb1; have HZ := Lib.hid hz; clear hz)
  go_loop [5, 12] (fun t i => ∃ j : Nat, j ≤ k ∧ i = .int .i64 j ∧ t = .int .u64 (numU (x.take j))) (fun _ i => k - (intOf i).toNat)
  case atStart => exact ⟨0, Nat.zero_le _, rfl, rfl⟩
  case round =>
    obtain ⟨j, hj, rfl, rfl⟩ := hrel
    obtain ⟨q0, q1⟩ := numU_lo (x.take j)
    by_cases hlt : j < k
    · have hjx : j < x.length := by rw [HT.out]; exact hlt
      obtain ⟨ad, rfl, g1, g2, hc⟩ := hrb1 (by omega)
      have hcell := hc j hjx
      unfold bc at hcell
      have HN := Lib.hid (numU_take x j hjx)
      obtain ⟨y, hy⟩ : ∃ y, y = numU (x.take j) := ⟨_, rfl⟩
      rw [← hy] at q0 q1 HN ⊢
      obtain ⟨b, hb⟩ : ∃ b : Int, b = (x[j].toNat : Int) := ⟨_, rfl⟩
      have hb0 : 0 ≤ b := by omega
      have hb2 : b < 256 := by have := x[j].toNat_lt; omega
      rw [← hb] at hcell HN
      have HB := Lib.hid hb
      have HY := Lib.hid hy
      clear hb hy hc
      go_wp2
      go_round
      case rel => exact ⟨j + 1, by omega, by go_num, by rw [or8w y b q0 q1 hb0 hb2, HN.out]⟩
      case measure => simp [intOf]; omega
    · obtain rfl : j = k := by omega
      go_wp2
      go_ret
      rw [List.take_of_length_le (by rw [HT.out]; omega)]
      exact ⟨rfl, hr1, hb1, HZ.out⟩

/-- A number read, whatever the reader's state: its value, what is left, whether the end came too soon. -/
def nV (l : List UInt8) (s : Bool) (k : Nat) : Int := if s = true ∨ l.length < k then 0 else numU (l.take k)
def nL (l : List UInt8) (s : Bool) (k : Nat) : List UInt8 := if s = true ∨ l.length < k then l else l.drop k
def nS (l : List UInt8) (s : Bool) (k : Nat) : Bool := if s = true ∨ l.length < k then true else false

/-- What 'Num' leaves. -/
def NumEnd (T : TypeId) (lo hi h : Nat) (v : Int) (l : List UInt8) (s : Bool) (w : World) (e : Ending) (w' : World) : Prop :=
  ∃ A', e = .returned (.int .u64 v) ∧ RD T w' lo hi h A' l s ∧ Below lo w w' ∧ Only h w w'

theorem num_any (lo hi h : Nat) (A : Option Addr) (l : List UInt8) (s : Bool) (k : Nat) (sz : Int) (hsz : Hid (sz = k)) (hk : k ≤ 1000) (w : World) (hr : RD 98 w lo hi h A l s) (hm : l.length ≤ 100000) :
    Calls Tryd.prog 31 #[.pointer (some ⟨h, 0, none⟩), .int .i64 sz] w (NumEnd 98 lo hi h (nV l s k) (nL l s k) (nS l s k) w) := by
  by_cases hc : s = true ∨ l.length < k
  · have hbad : BadN s l.length sz := by
      rw [hsz.out]
      rcases hc with h | h
      · exact .inl h
      · exact .inr (.inr (by omega))
    have hs := hsz.out
    have e1 : nV l s k = 0 := if_pos hc
    have e2 : nL l s k = l := if_pos hc
    have e3 : nS l s k = true := if_pos hc
    rw [e1, e2, e3]
    refine (num_badO lo hi h A l s sz w hr (by omega) (by omega) (by omega) hbad).mono ?_
    rintro e w' ⟨rfl, h1, h2, h3⟩
    exact ⟨_, rfl, h1, h2, h3⟩
  · have hs : s = false := by cases s; rfl; exact absurd (.inl rfl) hc
    have e1 : nV l s k = numU (l.take k) := if_neg hc
    have e2 : nL l s k = l.drop k := if_neg hc
    have e3 : nS l s k = false := if_neg hc
    rw [e1, e2, e3]
    subst hs
    refine (num_okO lo hi h A l k sz hsz w hr (by omega) (by omega)).mono ?_
    rintro e w' ⟨rfl, h1, h2, h3⟩
    exact ⟨_, rfl, h1, h2, h3⟩

theorem nL_len (l : List UInt8) (s : Bool) (k : Nat) : (nL l s k).length ≤ l.length := by
  unfold nL
  split
  · exact Nat.le_refl _
  · simp

theorem nV_lo (l : List UInt8) (s : Bool) (k : Nat) : 0 ≤ nV l s k ∧ nV l s k < 18446744073709551616 := by
  unfold nV
  split
  · omega
  · exact numU_lo _

end Go.Proofs.YteplefdnnehdgaaDoor
