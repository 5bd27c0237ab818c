/- Several texts in one, one behind the other: HeardRefTcn, HeardRefBytes, TimerEq, TreeSame, TreeRefSame, BytesArg. -/
import Derived.Test.YteplefdnnehdgaaGreatDoorPk19
import Derived.Test.YteplefdnnehdgaaGreatDoorPk10
import Derived.Test.YteplefdnnehdgaaGreatDoorPk24
import Derived.Test.YteplefdnnehdgaaGreatDoorPk09
import Derived.Test.YteplefdnnehdgaaGreatDoorPk18
import Derived.Test.YteplefdnnehdgaaGreatDoorPk25
import Derived.Test.YteplefdnnehdgaaGreatDoorRows
import Derived.Test.YteplefdnnehdgaaGreatDoorPk01
import Derived.Laws.StructEq
import Derived.Test.YteplefdnnehdgaaGreatDoorPk04
import Derived.LoopTactic
import Derived.Deep.Slices
import Derived.Deep.Fields
import Derived.ChangeSame
import Derived.Lib.SmallJoins

/- The document's Tcn of stage 15: contract. -/
namespace Go.Proofs.YteplefdnnehdgaaGreatDoor
set_option maxRecDepth 100000
open Go.ChangeShapes Go.WideShapes Go.ChangeAt Go.RowKit
set_option linter.unusedVariables false
set_option linter.unusedSimpArgs false

set_option maxHeartbeats 4000000 in
theorem rtcnh_is (t : Th) (A : Option Addr) (n cap : Nat) (L : List Po) (i : Int) (hi : -9223372036854775808 ≤ i ∧ i ≤ 9223372036854775807) (hL : Hid (L.length = n)) (hf : n ≤ 200) (ht : Hid (ThB t)) (hn : Hid (-9223372036854775808 ≤ t.n1 ∧ t.n1 ≤ 9223372036854775807 ∧ -9223372036854775808 ≤ t.n2 ∧ t.n2 ≤ 9223372036854775807 ∧ -9223372036854775808 ≤ t.n3 ∧ t.n3 ≤ 9223372036854775807)) (hb : Hid (∀ x ∈ L, PoB x)) (hc : Hid (A = none → cap = 0)) (w : World) (hp : Hid (PoAt w A w.heap.size L)) :
    Calls Tryz.prog 19 #[.agg (lT t A n cap).toArray, .int .i64 i] w (AllEnd2 w (tcnHeardR t L i).1.1 A n L ((tcnHeardR t L i).1.2, (tcnHeardR t L i).2)) := by
  obtain ⟨S0, hS0⟩ : ∃ S0, tcnHeardR t L i = S0 := ⟨_, rfl⟩
  rw [hS0]
  have HS0 := Lib.hid hS0
  clear hS0
  obtain ⟨q, hq⟩ : ∃ q, (if 0 ≤ i then (match L[i.toNat]? with | none => false | some p => !decide (p.st = 0)) else false) = q := ⟨_, rfl⟩
  have HON := fun W (h : Below w.heap.size w W) => Lib.hid (ron_is t A n cap L hL i q (Lib.hid hq) W (Lib.hid ((hp.out.below h (Nat.le_refl _)).wide h.size)))
  have HQ := Lib.hid hq
  clear hq
  obtain ⟨wb, hwb, S⟩ := hs_two w 31 31 (lT t A n cap) [.int .u64 0, .int .u64 0, .int .u32 0, .int .i64 0, .int .i64 0, .int .i64 0, .int .i64 0, .int .i64 0, .int .i64 0, .int .i64 0, .bool false, .bool false, .bool false, .int .i64 0, .bool false, .int .i64 0, .bool false, .int .i64 0, .slice none 0 0]
  go_enter Tryz.func19, Tryz.ntmps19
  go_upto_region 1 with fail
  clear hwb
  obtain ⟨X, hX⟩ : ∃ X, w.heap.size = X := ⟨_, rfl⟩
  rw [hX] at S
  obtain ⟨Y, hY⟩ : ∃ Y, X + 1 = Y := ⟨_, rfl⟩
  rw [hY] at S
  rw [hX]
  rw [hY]
  clear hX hY
  have hx := S.bk 1 rfl
  go_wp2_with (with_reducible refine wpList_load_rowG (by kernel_rfl) 31 (.tmp 2) rfl X (by kernel_rfl) _ _ (0, 0) _ hx Tryz.underlying31 rfl (by kernel_rfl) ?_)
  (with_reducible refine (HON _ S.old).out.mono ?_); rintro e w1 ⟨rfl, b1⟩
  have S1 := S.below b1
  clear S hx HON b1
  have hs0 := HS0.out
  unfold tcnHeardR at hs0
  have hq := HQ.out
  cases q with
  | false =>
    have hs0 : ((t, L), []) = S0 := by
      rw [← hs0]
      by_cases i0 : 0 ≤ i
      · rw [if_pos i0] at hq ⊢
        cases hl : L[i.toNat]? with
        | none => rfl
        | some p =>
          rw [hl] at hq
          have : p.st = 0 := by simpa using hq
          simp only [if_pos this]
      · rw [if_neg i0]
    clear hq
    subst hs0
    have hx := S1.bk 1 rfl
    have hy := S1.bk 0 rfl
    have S9 := S1.row 0 rfl (lT t A n cap)
    have hyF := S9.bk 0 rfl
    go_wp2_with (first | (with_reducible refine wpList_load_row rfl 31 (.tmp 2) rfl X (by kernel_rfl) _ _ (0, 0) _ hx Tryz.underlying31 rfl (by kernel_rfl) ?_) | (refine wpList_store_row rfl 31 _ _ rfl Y _ rfl rfl _ _ hy (by kernel_rfl) (by kernel_rfl) (by kernel_rfl) ?_))
    exact bodyPost_ret (v := .tuple #[.agg (lT t A n cap).toArray, .slice none 0 0]) (results_two rfl _ _ Y _ _ _ _ rfl _ rfl hyF Tryz.underlying31 rfl (by kernel_rfl)) rfl ⟨A, cap, _, rfl, hc.out, .inl ⟨rfl, rfl⟩, OutsR.nil _ _, S9.old⟩
  | true =>
    have h0 : 0 ≤ i := by
      by_cases i0 : 0 ≤ i
      · exact i0
      · rw [if_neg i0] at hq; cases hq
    rw [if_pos h0] at hq hs0
    obtain ⟨k, rfl⟩ : ∃ k : Nat, i = k := ⟨i.toNat, by omega⟩
    rw [Int.toNat_natCast] at hq hs0
    obtain ⟨x, hx0⟩ : ∃ x, L[k]? = some x := by
      cases hl : L[k]? with
      | none => rw [hl] at hq; cases hq
      | some p => exact ⟨p, rfl⟩
    rw [hx0] at hq hs0
    have hst : x.st ≠ 0 := by simpa using hq
    simp only [if_neg hst] at hs0
    have hkn : k < n := by have := po_lt hx0; have := hL.out; omega
    have hki : (k : Int) < (n : Int) := by omega
    have hkz : ¬ (n : Int) ≤ (k : Int) := by omega
    have HXK := Lib.hid hx0
    obtain ⟨d, hd⟩ : ∃ d, desB x t.ow = d := ⟨_, rfl⟩
    have HDS := fun W (h : Below w.heap.size w W) => Lib.hid (rdes15_is t A n cap L hL k x HXK d (Lib.hid hd) W (Lib.hid ((hp.out.below h (Nat.le_refl _)).wide h.size)))
    rw [hd] at hs0
    have HSS := Lib.hid hs0
    clear hq hx0 hst hd hs0 h0 hi
    have hx := S1.bk 1 rfl
    go_wp2_with (with_reducible refine wpList_load_rowG (by kernel_rfl) 31 (.tmp 2) rfl X (by kernel_rfl) _ _ (0, 0) _ hx Tryz.underlying31 rfl (by kernel_rfl) ?_)
    (with_reducible refine (HDS _ S1.old).out.mono ?_); rintro e w2 ⟨rfl, b2⟩
    have S2 := S1.below b2
    clear S1 hx HDS b2
    have hs0 := HSS.out
    cases d with
    | false =>
      simp only [Bool.false_eq_true, if_false] at hs0
      subst hs0
      have hx := S2.bk 1 rfl
      have hy := S2.bk 0 rfl
      have S9 := S2.row 0 rfl (lT t A n cap)
      have hyF := S9.bk 0 rfl
      go_wp2_with (first | (with_reducible refine wpList_load_row rfl 31 (.tmp 2) rfl X (by kernel_rfl) _ _ (0, 0) _ hx Tryz.underlying31 rfl (by kernel_rfl) ?_) | (refine wpList_store_row rfl 31 _ _ rfl Y _ rfl rfl _ _ hy (by kernel_rfl) (by kernel_rfl) (by kernel_rfl) ?_))
      exact bodyPost_ret (v := .tuple #[.agg (lT t A n cap).toArray, .slice none 0 0]) (results_two rfl _ _ Y _ _ _ _ rfl _ rfl hyF Tryz.underlying31 rfl (by kernel_rfl)) rfl ⟨A, cap, _, rfl, hc.out, .inl ⟨rfl, rfl⟩, OutsR.nil _ _, S9.old⟩
    | true =>
      simp only [if_true] at hs0
      have hs0' := Lib.hid hs0
      clear hs0
      have HDT := Lib.hid (rdetect_is t A n cap ht w2)
      obtain ⟨u, hu⟩ : ∃ u, detT t = u := ⟨_, rfl⟩
      have htu : ThB u := by rw [← hu]; unfold detT; split; exact ht.out; split; exact ht.out; exact ht.out
      have hnu : Hid (show Prop from (-9223372036854775808 ≤ u.n1 ∧ u.n1 ≤ 9223372036854775807 ∧ -9223372036854775808 ≤ u.n2 ∧ u.n2 ≤ 9223372036854775807 ∧ -9223372036854775808 ≤ u.n3 ∧ u.n3 ≤ 9223372036854775807)) := Lib.hid (by rw [← hu]; unfold detT; split; exact hn.out; split; exact hn.out; exact hn.out)
      unfold DetEnd at HDT
      rw [hu] at HDT
      have HUU := Lib.hid hu
      clear hu
      go_upto_region 3 with fail
      have hx := S2.bk 1 rfl
      go_wp2_with (with_reducible refine wpList_load_row rfl 31 (.tmp 2) rfl X (by kernel_rfl) _ _ (0, 0) _ hx Tryz.underlying31 rfl (by kernel_rfl) ?_)
      (with_reducible refine HDT.out.mono ?_); rintro e w3 ⟨v, rfl, hO, b3⟩
      have S3 := S2.below b3
      clear hx HDT b3
      go_upto_region 4 with (refine wpList_store_row rfl 31 _ _ rfl _ _ rfl rfl _ _ (heap_alloc_new _ _) (by kernel_rfl) (by kernel_rfl) (by kernel_rfl) ?_)
      rw [alloc_row]
      have bN := new_below w3 (.cells (lT u A n cap).toArray 31)
      have S4 := S3.al rfl 31 (lT u A n cap)
      have hO4 := hO.below bN
      obtain ⟨U, hU⟩ : ∃ U, w3.heap.size = U := ⟨_, rfl⟩
      rw [hU] at S4 ⊢
      obtain ⟨w4, hw4⟩ : ∃ y, w3.alloc (.cells (lT u A n cap).toArray 31) = y := ⟨_, rfl⟩
      rw [hw4] at S4 hO4 ⊢
      clear hw4 hU bN S3 hO
      have HB2 := Lib.hid S2.old.size
      clear S2
      have SA := S4.al rfl 65 []
      have c18 := SA.cell 1 18 rfl rfl
      have hp1 := Lib.hid ((hp.out.below S4.old (Nat.le_refl _)).below ((Below.refl w4.heap.size w4).alloc (Nat.le_refl _) (.cells #[] 65)) S4.old.size)
      go_upto_region 5 with (at_builtin; refine append_po _ rfl (.tmp 26) (.tmp 28) rfl (.slice (some ⟨w4.heap.size, 0, none⟩) 0 0) rfl w4.heap.size ⟨rfl, .inr ⟨w4.heap.size, 0, #[], rfl, Nat.le_refl _, (MapKept.heap_alloc w4 _).1, Nat.le_refl _, Nat.zero_le _, rfl, rfl⟩⟩ A n cap L rfl w.heap.size hp1.out hL hc hf (by simp) w4 ((Below.refl _ _).alloc (Nat.le_refl _) _) ?_; intro D cap' w5 hown hb5 hz; have HZ := Lib.hid hz; have S5 := TS.take S4 (own_ts hb5 (Nat.le_refl _) hown); have hO5 := hO4.below hb5; clear hown hb5 hz S4 SA c18 hp1 hO4; have c18 := S5.hs.cell 0 18 rfl rfl; have f18 := S5.hs.thaw 0 18 rfl)
      have S6 : TS w [(U, 31, lT u D n cap'), (Y, 31, [.int .u64 0, .int .u64 0, .int .u32 0, .int .i64 0, .int .i64 0, .int .i64 0, .int .i64 0, .int .i64 0, .int .i64 0, .int .i64 0, .bool false, .bool false, .bool false, .int .i64 0, .bool false, .int .i64 0, .bool false, .int .i64 0, .slice none 0 0]), (X, 31, lT t A n cap)] D L _ := S5.set 0 rfl 18 (.slice D n cap')
      have hO6 := hO5.but (w' := w5.setCell ⟨U, 18, none⟩ (.slice D n cap')) (S5.hs.1 0 _ _ _ rfl).1 (by decide) (by decide) (fun b hb => Below.heap_setCell w5 ⟨U, 18, none⟩ _ b hb)
      generalize w5.setCell ⟨U, 18, none⟩ (.slice D n cap') = w6 at S6 hO6 ⊢
      clear S5 hO5 c18 f18
      obtain ⟨g, rfl, -⟩ := S6.at HXK.out
      have c18 := S6.hs.cell 0 18 rfl rfl
      have p7 := S6.port_cell HXK.out 7 rfl
      obtain ⟨_, e', _, _, hfz⟩ := S6.at HXK.out
      cases e'
      have f7 := hfz (k * 15 + 7)
      clear hfz
      obtain ⟨pc, hpc⟩ := S6.port_block HXK.out
      have S7 : TS w [(U, 31, lT u (some ⟨g, 0, none⟩) n cap'), (Y, 31, [.int .u64 0, .int .u64 0, .int .u32 0, .int .i64 0, .int .i64 0, .int .i64 0, .int .i64 0, .int .i64 0, .int .i64 0, .int .i64 0, .bool false, .bool false, .bool false, .int .i64 0, .bool false, .int .i64 0, .bool false, .int .i64 0, .slice none 0 0]), (X, 31, lT t A n cap)] (some ⟨g, 0, none⟩) (L.set k ({ x with ak := true } : Po)) (w6.setCell ⟨g, k * 15 + 7, none⟩ (.bool true)) := S6.put (y := ({ x with ak := true } : Po)) HXK.out 7 [.bool true] (by simp) rfl
      have hO7 := hO6.but (w' := w6.setCell ⟨g, k * 15 + 7, none⟩ (.bool true)) hpc (by decide) (by decide) (fun b hb => Below.heap_setCell w6 ⟨g, k * 15 + 7, none⟩ _ b hb)
      go_upto_region 6 with fail
      generalize w6.setCell ⟨g, k * 15 + 7, none⟩ (.bool true) = w7 at S7 hO7 ⊢
      clear S6 hO6 c18 p7 f7 hpc
      have HBN := Lib.hid (show ∀ y ∈ L.set k ({ x with ak := true } : Po), PoB y from fun y hy => by
        rcases List.mem_or_eq_of_mem_set hy with z | rfl
        · exact hb.out y z
        · have := hb.out x (List.mem_of_getElem? HXK.out)
          unfold PoB at *
          exact this)
      have HCF := Lib.hid (rconf_is u (some ⟨g, 0, none⟩) n cap' (L.set k ({ x with ak := true } : Po)) k (Lib.hid (by rw [List.length_set]; exact hL.out)) hf (Lib.hid htu) hnu HBN (by omega) (Lib.hid (fun e => by cases e)) w7 (Lib.hid S7.ports))
      obtain ⟨R, hR⟩ : ∃ R, confR u (L.set k ({ x with ak := true } : Po)) k = R := ⟨_, rfl⟩
      rw [hR] at HCF
      have HRR := Lib.hid hR
      clear hR
      have hx := S7.hs.bk 0 rfl
      go_wp2_with (with_reducible refine wpList_load_row rfl 31 (.tmp 6) rfl U (by kernel_rfl) _ _ (0, 0) _ hx Tryz.underlying31 rfl (by kernel_rfl) ?_)
      (with_reducible refine HCF.out.mono ?_); rintro e w8 ⟨D2, c2, v2, rfl, hz2, k2, hO2⟩
      have S8 := S7.hs.below k2.old
      have hO8 := hO7.below k2.old
      have RT8 := k2.rowT
      have HZ2 := Lib.hid hz2
      have HB7 := Lib.hid S7.old.size
      clear hx HCF S7 hO7 k2 hz2
      go_upto_region 7 with (refine wpList_store_row rfl 31 _ _ rfl _ _ rfl rfl _ _ (heap_alloc_new _ _) (by kernel_rfl) (by kernel_rfl) (by kernel_rfl) ?_)
      rw [alloc_row]
      have bN := new_below w8 (.cells (lT u D2 n c2).toArray 31)
      have S9 := S8.al rfl 31 (lT u D2 n c2)
      have hO9 := hO8.below bN
      have hQ9 := hO2.below bN
      have RT9 := RT8.below bN
      obtain ⟨V, hV⟩ : ∃ U, w8.heap.size = U := ⟨_, rfl⟩
      rw [hV] at S9 ⊢
      obtain ⟨w9, hw9⟩ : ∃ y, w8.alloc (.cells (lT u D2 n c2).toArray 31) = y := ⟨_, rfl⟩
      rw [hw9] at S9 hO9 hQ9 RT9 ⊢
      clear hw9 hV bN S8 hO8 hO2 RT8
      have e := hs0'.out
      rw [HUU.out, hL.out, HRR.out] at e
      subst e
      have hlen : (detO t n).length + R.2.length ≤ 100000 := by
        have h1 := confR_few u (L.set k ({ x with ak := true } : Po)) k
        rw [HRR.out] at h1
        have h2 : (detO t n).length ≤ 1 := by
          unfold detO tcnR
          split
          · simp
          · split
            · simp
            · split <;> simp
        omega
      have hYle : w.heap.size ≤ Y := (S9.1 2 _ _ _ rfl).2
      refine wp_region_held_drew (S := (fun w' => Bk w' V 31 (lT u D2 n c2))) (by kernel_rfl) ((S9.drew.1 0 _ _ _ rfl).1) (fun hHeld => ?_)
      have S10 := S9.drew
      have hO10 := (hO9.mono HB2.out).below ((Below.refl _ _).drew)
      have hQ10 := hQ9.below ((Below.refl _ _).drew)
      have RT10 := RT9.below ((Below.refl _ _).drew)
      obtain ⟨v9, hv9⟩ : ∃ y, w9.drew = y := ⟨_, rfl⟩
      rw [hv9] at S10 hO10 hQ10 RT10 hHeld ⊢
      clear hv9 S9 hO9 hQ9 RT9
      have hb10 : w.heap.size ≤ v9.heap.size := S10.old.size
      obtain ⟨_, _, hown⟩ := hO10.own
      refine wpAnyH_take (i := 0) (v := _) rfl (by kernel_rfl) (by kernel_rfl) (by kernel_rfl) (fun _ _ _ h => h) (Or.inl ⟨by kernel_rfl, fun w' hSw => exec_load_row 31 _ rfl V (by kernel_rfl) _ _ (0, 0) _ (hSw) Tryz.underlying31 rfl (by kernel_rfl)⟩) (by assumption) ?_
      try simp only [Act.put, List.getElem_toArray, List.getElem_cons_succ, List.getElem_cons_zero, List.setIfInBounds_toArray, List.set_cons_succ, List.set_cons_zero]
      refine wpAnyH_take (i := 1) (v := ?_) rfl (by kernel_rfl) (by kernel_rfl) (by kernel_rfl) (fun _ _ _ h => h) (Or.inl ⟨by kernel_rfl, ?_⟩) (by assumption) ?_
      rotate_left
      · intro w' hSw; (try dsimp only at hSw); go_simp; with_reducible rfl
      try simp only [Act.put, List.getElem_toArray, List.getElem_cons_succ, List.getElem_cons_zero, List.setIfInBounds_toArray, List.set_cons_succ, List.set_cons_zero]
      refine wpAnyH_take (i := 2) (v := ?_) rfl (by kernel_rfl) (by kernel_rfl) (by kernel_rfl) (fun _ _ _ h => h) (Or.inl ⟨by kernel_rfl, ?_⟩) (by assumption) ?_
      rotate_left
      · intro w' hSw; (try dsimp only at hSw); go_simp; with_reducible rfl
      try simp only [Act.put, List.getElem_toArray, List.getElem_cons_succ, List.getElem_cons_zero, List.setIfInBounds_toArray, List.set_cons_succ, List.set_cons_zero]
      refine wpAnyH_ready (rs := [3]) (by kernel_rfl) (by simp) ?_
      refine AllReadyH.cons rfl (fun K hK => ?_) AllReadyH.nil
      refine step_append_outs rfl (.tmp 43) (.tmp 44) (by kernel_rfl) w.heap.size w7.heap.size v v2 (detO t n) R.2 (by kernel_rfl) (by kernel_rfl) hO10 hQ10 HB7.out hlen hb10 ?_
      intro v' w11 hO11 gr
      have kV := ((S10.1 0 _ _ _ rfl).1).grown hown (by decide) gr
      have kY := ((S10.1 2 _ _ _ rfl).1).grown hown (by decide) gr
      have RT11 : RowT w11 D2 R.1 := RT10.imp id (fun ⟨g, r, e, k⟩ => ⟨g, r, e, k.grown hown (by decide) gr⟩)
      have B11 := grown_below S10.old hown gr (Nat.le_refl _)
      refine hK.out _ _ (kV) (fun hHeld => ?_)
      clear hK K
      try simp only [Act.put, List.getElem_toArray, List.getElem_cons_succ, List.getElem_cons_zero, List.setIfInBounds_toArray, List.set_cons_succ, List.set_cons_zero]
      have hy : w11.heap[Y]? = some (.cells ([.int .u64 0, .int .u64 0, .int .u32 0, .int .i64 0, .int .i64 0, .int .i64 0, .int .i64 0, .int .i64 0, .int .i64 0, .int .i64 0, .bool false, .bool false, .bool false, .int .i64 0, .bool false, .int .i64 0, .bool false, .int .i64 0, .slice none 0 0] : List Value).toArray 31 (0, 0)) := kY
      have kV2 : Bk (w11.setRow Y (lT u D2 n c2).toArray) V 31 (lT u D2 n c2) := (setRow_other w11 Y V _ (by have h1 := S10.2.1 0 2 _ _ (by decide) rfl rfl; exact h1)).trans kV
      refine wpAnyH_ready (rs := [4]) (by kernel_rfl) (by simp) ?_
      refine AllReadyH.cons rfl (fun K hK => ?_) AllReadyH.nil
      refine exec_if_store (by kernel_rfl) 31 (.tmp 4) (.tmp 42) rfl Y (lT u D2 n c2).toArray (by kernel_rfl) (by kernel_rfl) _ _ hy (by kernel_rfl) (by kernel_rfl) (by kernel_rfl) ?_
      refine hK.out _ _ (kV2) (fun hHeld => ?_)
      clear hK K
      try simp only [Act.put, List.getElem_toArray, List.getElem_cons_succ, List.getElem_cons_zero, List.setIfInBounds_toArray, List.set_cons_succ, List.set_cons_zero]
      refine wpAnyH_take (i := 5) (v := ?_) rfl (by kernel_rfl) (by kernel_rfl) (by kernel_rfl) (fun _ _ _ h => h) (Or.inl ⟨by kernel_rfl, ?_⟩) (by assumption) ?_
      rotate_left
      · intro w' hSw; (try dsimp only at hSw); go_simp; with_reducible rfl
      try simp only [Act.put, List.getElem_toArray, List.getElem_cons_succ, List.getElem_cons_zero, List.setIfInBounds_toArray, List.set_cons_succ, List.set_cons_zero]
      refine wpAnyH_done (by kernel_rfl) ?_ _
      have hyF := setRow_heap w11 Y _ (lT u D2 n c2).toArray _ _ hy
      have RT12 := RT11.row (cs := (lT u D2 n c2)) kY
      have hO12 := hO11.but (w' := w11.setRow Y (lT u D2 n c2).toArray) kY (by decide) (by decide) (fun b hb => setRow_other w11 Y b _ hb)
      have B12 : Below w.heap.size w (w11.setRow Y (lT u D2 n c2).toArray) := below_setRow B11 hYle _
      go_wp2
      exact bodyPost_ret (v := .tuple #[.agg (lT u D2 n c2).toArray, v']) (results_two rfl _ _ Y _ _ _ _ rfl _ rfl hyF Tryz.underlying31 rfl (by kernel_rfl)) rfl ⟨D2, c2, v', rfl, HZ2.out, .inr RT12, hO12, B12⟩

end Go.Proofs.YteplefdnnehdgaaGreatDoor

/- The document's Bytes of stage 15: contract. -/
namespace Go.Proofs.YteplefdnnehdgaaGreatDoor
set_option maxRecDepth 100000
open Go.ChangeShapes Go.WideShapes Go.ChangeAt Go.RowKit
set_option linter.unusedVariables false
set_option linter.unusedSimpArgs false

set_option maxHeartbeats 4000000 in
theorem rbytes_is (t : Th) (A : Option Addr) (n cap : Nat) (L : List Po) (i : Int) (A2 : Option Addr) (m c2 : Nat) (l : List UInt8) (hi : -9223372036854775808 ≤ i ∧ i ≤ 9223372036854775807) (hl : Hid (l.length = m)) (hm : m ≤ 10000) (hmc : m ≤ c2) (hL : Hid (L.length = n)) (hf : n ≤ 200) (hU : Hid (Unlike L)) (ht : Hid (ThB t)) (hn : Hid (-9223372036854775808 ≤ t.n1 ∧ t.n1 ≤ 9223372036854775807 ∧ -9223372036854775808 ≤ t.n2 ∧ t.n2 ≤ 9223372036854775807 ∧ -9223372036854775808 ≤ t.n3 ∧ t.n3 ≤ 9223372036854775807)) (hb : Hid (∀ x ∈ L, PoB x)) (hc : Hid (A = none → cap = 0)) (w : World) (hr : Hid (RB w A2 0 w.heap.size l)) (hp : Hid (PoAt w A w.heap.size L)) :
    Calls Tryz.prog 7 #[.agg (lT t A n cap).toArray, .int .i64 i, .slice A2 m c2] w (BytesEnd w n (bytesR t L i l)) := by
  obtain ⟨S0, hS0⟩ : ∃ S0, bytesR t L i l = S0 := ⟨_, rfl⟩
  rw [hS0]
  have HS0 := Lib.hid hS0
  clear hS0
  obtain ⟨q, hq⟩ : ∃ q, (if 0 ≤ i then (match L[i.toNat]? with | none => false | some p => !decide (p.st = 0)) else false) = q := ⟨_, rfl⟩
  have HON := fun W (h : Below w.heap.size w W) => Lib.hid (ron_is t A n cap L hL i q (Lib.hid hq) W (Lib.hid ((hp.out.below h (Nat.le_refl _)).wide h.size)))
  have HQ := Lib.hid hq
  clear hq
  obtain ⟨wb, hwb, S⟩ := hs_two w 31 31 (lT t A n cap) [.int .u64 0, .int .u64 0, .int .u32 0, .int .i64 0, .int .i64 0, .int .i64 0, .int .i64 0, .int .i64 0, .int .i64 0, .int .i64 0, .bool false, .bool false, .bool false, .int .i64 0, .bool false, .int .i64 0, .bool false, .int .i64 0, .slice none 0 0]
  go_enter Tryz.func7, Tryz.ntmps7
  go_upto_region 1 with fail
  clear hwb
  obtain ⟨X, hX⟩ : ∃ X, w.heap.size = X := ⟨_, rfl⟩
  rw [hX] at S
  obtain ⟨Y, hY⟩ : ∃ Y, X + 1 = Y := ⟨_, rfl⟩
  rw [hY] at S
  rw [hX]
  rw [hY]
  clear hX hY
  have hx := S.bk 1 rfl
  go_wp2_with (with_reducible refine wpList_load_rowG (by kernel_rfl) 31 (.tmp 3) rfl X (by kernel_rfl) _ _ (0, 0) _ hx Tryz.underlying31 rfl (by kernel_rfl) ?_)
  (with_reducible refine (HON _ S.old).out.mono ?_); rintro e w1 ⟨rfl, b1⟩
  have S1 := S.below b1
  clear S hx HON b1
  have hs0 := HS0.out
  unfold bytesR at hs0
  have hq := HQ.out
  cases q with
  | false =>
    have hs0 : (((t, L), []), 8) = S0 := by
      rw [← hs0]
      by_cases i0 : 0 ≤ i
      · rw [if_pos i0] at hq ⊢
        cases hl : L[i.toNat]? with
        | none => rfl
        | some p =>
          rw [hl] at hq
          have : p.st = 0 := by simpa using hq
          simp only [if_pos this]
      · rw [if_neg i0]
    clear hq
    subst hs0
    have hx := S1.bk 1 rfl
    have hy := S1.bk 0 rfl
    have S9 := S1.row 0 rfl (lT t A n cap)
    have hyF := S9.bk 0 rfl
    go_wp2_with (first | (with_reducible refine wpList_load_row rfl 31 (.tmp 3) rfl X (by kernel_rfl) _ _ (0, 0) _ hx Tryz.underlying31 rfl (by kernel_rfl) ?_) | (refine wpList_store_row rfl 31 _ _ rfl Y _ rfl rfl _ _ hy (by kernel_rfl) (by kernel_rfl) (by kernel_rfl) ?_))
    exact bodyPost_ret (v := .tuple #[.agg (lT t A n cap).toArray, .slice none 0 0, .int .i64 8]) (results_three (p := 6) (r := 7) (s := 8) rfl _ _ Y _ _ _ _ rfl _ rfl _ rfl hyF Tryz.underlying31 rfl (by kernel_rfl)) rfl ⟨A, cap, _, rfl, hc.out, (hp.out.below S9.old (Nat.le_refl _)).wide S9.old.size, OutsR.nil _ _, S9.old⟩
  | true =>
    have h0 : 0 ≤ i := by
      by_cases i0 : 0 ≤ i
      · exact i0
      · rw [if_neg i0] at hq; cases hq
    obtain ⟨k, rfl⟩ : ∃ k : Nat, i = k := ⟨i.toNat, by omega⟩
    rw [if_pos h0, Int.toNat_natCast] at hq
    clear hs0
    obtain ⟨p, hp0⟩ : ∃ p, L[k]? = some p := by
      cases hl : L[k]? with
      | none => rw [hl] at hq; cases hq
      | some p => exact ⟨p, rfl⟩
    rw [hp0] at hq
    have hst : p.st ≠ 0 := by simpa using hq
    have hkn : k < n := by have := po_lt hp0; have := hL.out; omega
    have hki : (k : Int) < (n : Int) := by omega
    have hkz : ¬ (n : Int) ≤ (k : Int) := by omega
    have HXK := Lib.hid hp0
    have hs0 := HS0.out
    rw [bytesR_at hp0 hst] at hs0
    obtain ⟨fq, hfq⟩ : ∃ q, forQ l t.ow p.id = q := ⟨_, rfl⟩
    obtain ⟨fe, hfe⟩ : ∃ q, fE l t.ow p.id = q := ⟨_, rfl⟩
    have HFO : ∀ W, Below w.heap.size w W → Hid (Calls Tryz.prog 18 #[.slice A2 m c2, .int .u64 t.ow, .int .u16 p.id] W fun e w' => e = .returned (.tuple #[.agg (lB fq).toArray, .int .i64 fe]) ∧ Below W.heap.size W w') := fun W h => Lib.hid (by
      have hr2 := (hr.out.below h (Nat.le_refl _)).wide (Nat.le_refl 0) h.size
      have h2 := reffor_any A2 c2 l m hl hm hmc t.ow p.id W hr2
      unfold ForEnd at h2
      rw [← hfq, ← hfe]
      exact h2)
    have HFI := Lib.hid (show BqIn fq by rw [← hfq]; exact forQ_in _ _ _)
    rw [hfq, hfe] at hs0
    have HSS := Lib.hid hs0
    clear hq hp0 hs0 h0 hi hst hfq hfe HS0 HQ hr
    obtain ⟨ad, rfl⟩ := hp.out.some HXK.out
    have HPI : ∀ W, Below w.heap.size w W → W.cell? (ad.add (k * 15)) = some (.int .u16 p.id) := fun W h => by
      obtain ⟨_, e0, -, h0, -⟩ := (hp.out.below h (Nat.le_refl _)).cells HXK.out
      cases e0
      exact h0
    go_upto_region 3 with fail
    try simp only [Act.put]
    go_cut [9, 10] (fun V e wx => ∃ Vg, V = .pointer (some ⟨Vg, 0, none⟩) ∧ e = .int .i64 fe ∧ Hs w ((Vg, 56, lB fq) :: [(Y, 31, [.int .u64 0, .int .u64 0, .int .u32 0, .int .i64 0, .int .i64 0, .int .i64 0, .int .i64 0, .int .i64 0, .int .i64 0, .int .i64 0, .bool false, .bool false, .bool false, .int .i64 0, .bool false, .int .i64 0, .bool false, .int .i64 0, .slice none 0 0]), (X, 31, lT t (some ad) n cap)]) wx)
    case first =>
      refine wp_region_held_drew (S := (fun w' => Hs w [(Y, 31, [.int .u64 0, .int .u64 0, .int .u32 0, .int .i64 0, .int .i64 0, .int .i64 0, .int .i64 0, .int .i64 0, .int .i64 0, .int .i64 0, .bool false, .bool false, .bool false, .int .i64 0, .bool false, .int .i64 0, .bool false, .int .i64 0, .slice none 0 0]), (X, 31, lT t (some ad) n cap)] w')) (by kernel_rfl) (S1.drew) (fun hHeld => ?_)
      have S2 := S1.drew
      obtain ⟨v3, hv3⟩ : ∃ v, w1.drew = v := ⟨_, rfl⟩
      rw [hv3] at S2 hHeld ⊢
      clear hv3 S1
      refine wpAnyH_take (i := 0) (v := ?_) rfl (by kernel_rfl) (by kernel_rfl) (by kernel_rfl) (fun _ _ _ h => h) (Or.inl ⟨by kernel_rfl, ?_⟩) (by assumption) ?_
      rotate_left
      · intro w' hSw; (try dsimp only at hSw); go_simp; with_reducible rfl
      try simp only [Act.put, List.getElem_toArray, List.getElem_cons_succ, List.getElem_cons_zero, List.setIfInBounds_toArray, List.set_cons_succ, List.set_cons_zero]
      refine wpAnyH_take (i := 1) (v := ?_) rfl (by kernel_rfl) (by kernel_rfl) (by kernel_rfl) (fun _ _ _ h => h) (Or.inl ⟨by kernel_rfl, ?_⟩) (by assumption) ?_
      rotate_left
      · intro w' hSw; (try dsimp only at hSw); go_simp; with_reducible rfl
      try simp only [Act.put, List.getElem_toArray, List.getElem_cons_succ, List.getElem_cons_zero, List.setIfInBounds_toArray, List.set_cons_succ, List.set_cons_zero]
      refine wpAnyH_take (i := 2) (v := ?_) rfl (by kernel_rfl) (by kernel_rfl) (by kernel_rfl) (fun _ _ _ h => h) (Or.inl ⟨by kernel_rfl, ?_⟩) (by assumption) ?_
      rotate_left
      · intro w' hSw; (try dsimp only at hSw); have c0 := (hSw.cell 1 0 rfl rfl); go_simp; with_reducible rfl
      try simp only [Act.put, List.getElem_toArray, List.getElem_cons_succ, List.getElem_cons_zero, List.setIfInBounds_toArray, List.set_cons_succ, List.set_cons_zero]
      refine wpAnyH_take (i := 3) (v := ?_) rfl (by kernel_rfl) (by kernel_rfl) (by kernel_rfl) (fun _ _ _ h => h) (Or.inl ⟨by kernel_rfl, ?_⟩) (by assumption) ?_
      rotate_left
      · intro w' hSw; (try dsimp only at hSw); go_simp; with_reducible rfl
      try simp only [Act.put, List.getElem_toArray, List.getElem_cons_succ, List.getElem_cons_zero, List.setIfInBounds_toArray, List.set_cons_succ, List.set_cons_zero]
      refine wpAnyH_take (i := 4) (v := ?_) rfl (by kernel_rfl) (by kernel_rfl) (by kernel_rfl) (fun _ _ _ h => h) (Or.inl ⟨by kernel_rfl, ?_⟩) (by assumption) ?_
      rotate_left
      · intro w' hSw; (try dsimp only at hSw); have c0 := (hSw.cell 1 18 rfl rfl); go_simp; with_reducible rfl
      try simp only [Act.put, List.getElem_toArray, List.getElem_cons_succ, List.getElem_cons_zero, List.setIfInBounds_toArray, List.set_cons_succ, List.set_cons_zero]
      refine wpAnyH_take (i := 5) (v := ?_) rfl (by kernel_rfl) (by kernel_rfl) (by kernel_rfl) (fun _ _ _ h => h) (Or.inl ⟨by kernel_rfl, ?_⟩) (by assumption) ?_
      rotate_left
      · intro w' hSw; (try dsimp only at hSw); go_simp; with_reducible rfl
      try simp only [Act.put, List.getElem_toArray, List.getElem_cons_succ, List.getElem_cons_zero, List.setIfInBounds_toArray, List.set_cons_succ, List.set_cons_zero]
      refine wpAnyH_take (i := 6) (v := ?_) rfl (by kernel_rfl) (by kernel_rfl) (by kernel_rfl) (fun _ _ _ h => h) (Or.inl ⟨by kernel_rfl, ?_⟩) (by assumption) ?_
      rotate_left
      · intro w' hSw; (try dsimp only at hSw); go_simp; with_reducible rfl
      try simp only [Act.put, List.getElem_toArray, List.getElem_cons_succ, List.getElem_cons_zero, List.setIfInBounds_toArray, List.set_cons_succ, List.set_cons_zero]
      refine wpAnyH_take (i := 7) (v := ?_) rfl (by kernel_rfl) (by kernel_rfl) (by kernel_rfl) (fun _ _ _ h => h) (Or.inl ⟨by kernel_rfl, ?_⟩) (by assumption) ?_
      rotate_left
      · intro w' hSw; (try dsimp only at hSw); go_simp; with_reducible rfl
      try simp only [Act.put, List.getElem_toArray, List.getElem_cons_succ, List.getElem_cons_zero, List.setIfInBounds_toArray, List.set_cons_succ, List.set_cons_zero]
      refine wpAnyH_take (i := 8) (v := ?_) rfl (by kernel_rfl) (by kernel_rfl) (by kernel_rfl) (fun _ _ _ h => h) (Or.inl ⟨by kernel_rfl, ?_⟩) (by assumption) ?_
      rotate_left
      · intro w' hSw; (try dsimp only at hSw); have c0 := (HPI w' hSw.old); go_simp; with_reducible rfl
      try simp only [Act.put, List.getElem_toArray, List.getElem_cons_succ, List.getElem_cons_zero, List.setIfInBounds_toArray, List.set_cons_succ, List.set_cons_zero]
      refine wpAnyH_ready (rs := [9, 13]) (by kernel_rfl) (by simp) ?_
      refine AllReadyH.cons rfl (fun K hK => ?_) (AllReadyH.cons rfl (fun K hK => ?_) AllReadyH.nil)
      · go_simp
        (with_reducible refine (HFO _ S2.old).out.mono ?_); rintro e w4 ⟨rfl, b4⟩
        have S3 := S2.below b4
        refine hK.out _ _ (S3) (fun hHeld => ?_)
        clear hK K
        try simp only [Act.put, List.getElem_toArray, List.getElem_cons_succ, List.getElem_cons_zero, List.setIfInBounds_toArray, List.set_cons_succ, List.set_cons_zero]
        refine wpAnyH_take (i := 10) (v := ?_) rfl (by kernel_rfl) (by kernel_rfl) (by kernel_rfl) (fun _ _ _ h => h) (Or.inl ⟨by kernel_rfl, ?_⟩) (by assumption) ?_
        rotate_left
        · intro w' hSw; (try dsimp only at hSw); go_simp; with_reducible rfl
        try simp only [Act.put, List.getElem_toArray, List.getElem_cons_succ, List.getElem_cons_zero, List.setIfInBounds_toArray, List.set_cons_succ, List.set_cons_zero]
        refine wpAnyH_take (i := 11) (v := ?_) rfl (by kernel_rfl) (by kernel_rfl) (by kernel_rfl) (fun _ _ _ h => h) (Or.inl ⟨by kernel_rfl, ?_⟩) (by assumption) ?_
        rotate_left
        · intro w' hSw; (try dsimp only at hSw); go_simp; with_reducible rfl
        try simp only [Act.put, List.getElem_toArray, List.getElem_cons_succ, List.getElem_cons_zero, List.setIfInBounds_toArray, List.set_cons_succ, List.set_cons_zero]
        refine wpAnyH_take (i := 12) (v := ?_) rfl (by kernel_rfl) (by kernel_rfl) (by kernel_rfl) (fun _ _ _ h => h) (Or.inl ⟨by kernel_rfl, ?_⟩) (by assumption) ?_
        rotate_left
        · intro w' hSw; (try dsimp only at hSw); go_simp; with_reducible rfl
        try simp only [Act.put, List.getElem_toArray, List.getElem_cons_succ, List.getElem_cons_zero, List.setIfInBounds_toArray, List.set_cons_succ, List.set_cons_zero]
        refine wpAnyH_ready (rs := [13]) (by kernel_rfl) (by simp) ?_
        refine AllReadyH.cons rfl (fun K hK => ?_) AllReadyH.nil
        go_simp
        have S4 := Hs.al S3 (g := _) rfl 56 [.bool false, .bool false, .bool false, .int .u64 0, .int .u32 0, .int .u64 0, .int .u16 0, .int .u16 0, .int .u16 0, .int .u16 0, .int .u16 0]
        refine hK.out _ _ (S4.tail) (fun hHeld => ?_)
        clear hK K
        try simp only [Act.put, List.getElem_toArray, List.getElem_cons_succ, List.getElem_cons_zero, List.setIfInBounds_toArray, List.set_cons_succ, List.set_cons_zero]
        refine wpAnyH_ready (rs := [14]) (by kernel_rfl) (by simp) ?_
        refine AllReadyH.cons rfl (fun K hK => ?_) AllReadyH.nil
        have hz := S4.bk 0 rfl
        refine exec_if_store (by kernel_rfl) 56 (.tmp 9) (.tmp 31) rfl _ (lB fq).toArray (by kernel_rfl) (by kernel_rfl) _ _ hz (by kernel_rfl) (by kernel_rfl) (by kernel_rfl) ?_
        have S9 := S4.row 0 rfl (lB fq)
        refine hK.out _ _ (S9.tail) (fun hHeld => ?_)
        clear hK K
        try simp only [Act.put, List.getElem_toArray, List.getElem_cons_succ, List.getElem_cons_zero, List.setIfInBounds_toArray, List.set_cons_succ, List.set_cons_zero]
        refine wpAnyH_take (i := 15) (v := ?_) rfl (by kernel_rfl) (by kernel_rfl) (by kernel_rfl) (fun _ _ _ h => h) (Or.inl ⟨by kernel_rfl, ?_⟩) (by assumption) ?_
        rotate_left
        · intro w' hSw; (try dsimp only at hSw); go_simp; with_reducible rfl
        try simp only [Act.put, List.getElem_toArray, List.getElem_cons_succ, List.getElem_cons_zero, List.setIfInBounds_toArray, List.set_cons_succ, List.set_cons_zero]
        refine wpAnyH_done (by kernel_rfl) ?_ _
        go_wp2_with fail
        go_meet
        exact ⟨_, rfl, rfl, S9⟩
      · go_simp
        have S3 := Hs.al S2 (g := _) rfl 56 [.bool false, .bool false, .bool false, .int .u64 0, .int .u32 0, .int .u64 0, .int .u16 0, .int .u16 0, .int .u16 0, .int .u16 0, .int .u16 0]
        refine hK.out _ _ (S3.tail) (fun hHeld => ?_)
        clear hK K
        try simp only [Act.put, List.getElem_toArray, List.getElem_cons_succ, List.getElem_cons_zero, List.setIfInBounds_toArray, List.set_cons_succ, List.set_cons_zero]
        refine wpAnyH_ready (rs := [9]) (by kernel_rfl) (by simp) ?_
        refine AllReadyH.cons rfl (fun K hK => ?_) AllReadyH.nil
        go_simp
        (with_reducible refine (HFO _ S3.old).out.mono ?_); rintro e w4 ⟨rfl, b4⟩
        have S4 := S3.below b4
        refine hK.out _ _ (S4.tail) (fun hHeld => ?_)
        clear hK K
        try simp only [Act.put, List.getElem_toArray, List.getElem_cons_succ, List.getElem_cons_zero, List.setIfInBounds_toArray, List.set_cons_succ, List.set_cons_zero]
        refine wpAnyH_take (i := 10) (v := ?_) rfl (by kernel_rfl) (by kernel_rfl) (by kernel_rfl) (fun _ _ _ h => h) (Or.inl ⟨by kernel_rfl, ?_⟩) (by assumption) ?_
        rotate_left
        · intro w' hSw; (try dsimp only at hSw); go_simp; with_reducible rfl
        try simp only [Act.put, List.getElem_toArray, List.getElem_cons_succ, List.getElem_cons_zero, List.setIfInBounds_toArray, List.set_cons_succ, List.set_cons_zero]
        refine wpAnyH_take (i := 11) (v := ?_) rfl (by kernel_rfl) (by kernel_rfl) (by kernel_rfl) (fun _ _ _ h => h) (Or.inl ⟨by kernel_rfl, ?_⟩) (by assumption) ?_
        rotate_left
        · intro w' hSw; (try dsimp only at hSw); go_simp; with_reducible rfl
        try simp only [Act.put, List.getElem_toArray, List.getElem_cons_succ, List.getElem_cons_zero, List.setIfInBounds_toArray, List.set_cons_succ, List.set_cons_zero]
        refine wpAnyH_take (i := 12) (v := ?_) rfl (by kernel_rfl) (by kernel_rfl) (by kernel_rfl) (fun _ _ _ h => h) (Or.inl ⟨by kernel_rfl, ?_⟩) (by assumption) ?_
        rotate_left
        · intro w' hSw; (try dsimp only at hSw); go_simp; with_reducible rfl
        try simp only [Act.put, List.getElem_toArray, List.getElem_cons_succ, List.getElem_cons_zero, List.setIfInBounds_toArray, List.set_cons_succ, List.set_cons_zero]
        refine wpAnyH_ready (rs := [14]) (by kernel_rfl) (by simp) ?_
        refine AllReadyH.cons rfl (fun K hK => ?_) AllReadyH.nil
        have hz := S4.bk 0 rfl
        refine exec_if_store (by kernel_rfl) 56 (.tmp 9) (.tmp 31) rfl _ (lB fq).toArray (by kernel_rfl) (by kernel_rfl) _ _ hz (by kernel_rfl) (by kernel_rfl) (by kernel_rfl) ?_
        have S9 := S4.row 0 rfl (lB fq)
        refine hK.out _ _ (S9.tail) (fun hHeld => ?_)
        clear hK K
        try simp only [Act.put, List.getElem_toArray, List.getElem_cons_succ, List.getElem_cons_zero, List.setIfInBounds_toArray, List.set_cons_succ, List.set_cons_zero]
        refine wpAnyH_take (i := 15) (v := ?_) rfl (by kernel_rfl) (by kernel_rfl) (by kernel_rfl) (fun _ _ _ h => h) (Or.inl ⟨by kernel_rfl, ?_⟩) (by assumption) ?_
        rotate_left
        · intro w' hSw; (try dsimp only at hSw); go_simp; with_reducible rfl
        try simp only [Act.put, List.getElem_toArray, List.getElem_cons_succ, List.getElem_cons_zero, List.setIfInBounds_toArray, List.set_cons_succ, List.set_cons_zero]
        refine wpAnyH_done (by kernel_rfl) ?_ _
        go_wp2_with fail
        go_meet
        exact ⟨_, rfl, rfl, S9⟩
    case rest =>
      obtain ⟨V, rfl, rfl, S2⟩ := hcut
      rename World => w2
      clear S1 HFO HPI
      have hs0 := HSS.out
      obtain ⟨b0, hb0⟩ : ∃ b, (fe != 0) = b := ⟨_, rfl⟩
      rw [hb0] at hs0
      cases b0 with
      | true =>
        rw [if_pos rfl] at hs0
        go_upto_region 5 with fail
        clear hb0
        subst hs0
        have hx := S2.bk 2 rfl
        have hy := S2.bk 1 rfl
        have S9 := S2.row 1 rfl (lT t (some ad) n cap)
        have hyF := S9.bk 1 rfl
        go_wp2_with (first | (with_reducible refine wpList_load_row rfl 31 (.tmp 3) rfl X (by kernel_rfl) _ _ (0, 0) _ hx Tryz.underlying31 rfl (by kernel_rfl) ?_) | (refine wpList_store_row rfl 31 _ _ rfl Y _ rfl rfl _ _ hy (by kernel_rfl) (by kernel_rfl) (by kernel_rfl) ?_))
        exact bodyPost_ret (v := .tuple #[.agg (lT t (some ad) n cap).toArray, .slice none 0 0, .int .i64 fe]) (results_three (p := 6) (r := 7) (s := 8) rfl _ _ Y _ _ _ _ rfl _ rfl _ rfl hyF Tryz.underlying31 rfl (by kernel_rfl)) rfl ⟨(some ad), cap, _, rfl, hc.out, (hp.out.below S9.old (Nat.le_refl _)).wide S9.old.size, OutsR.nil _ _, S9.old⟩
      | false =>
        rw [if_neg (by decide)] at hs0
        have HSS := Lib.hid hs0
        clear hs0
        go_upto_region 6 with fail
        clear hb0
        have v0 := S2.cell 0 0 rfl rfl
        obtain ⟨tc, htc⟩ : ∃ b, fq.tc = b := ⟨_, rfl⟩
        rw [htc] at v0
        have hs0 := HSS.out
        rw [htc] at hs0
        clear htc HSS
        cases tc with
        | true =>
          go_upto_region 7 with fail
          clear v0
          rw [if_pos rfl] at hs0
          have HSS := Lib.hid hs0
          clear hs0
          obtain ⟨R, hR⟩ : ∃ R, tcnHeardR t L k = R := ⟨_, rfl⟩
          have HC := Lib.hid (rtcnh_is t (some ad) n cap L k (by omega) hL hf ht hn hb hc w2 (Lib.hid ((hp.out.below S2.old (Nat.le_refl _)).wide S2.old.size)))
          rw [hR] at HC
          have HRR := Lib.hid hR
          clear hR
          have hx := S2.bk 2 rfl
          go_wp2_with (with_reducible refine wpList_load_row rfl 31 (.tmp 3) rfl X (by kernel_rfl) _ _ (0, 0) _ hx Tryz.underlying31 rfl (by kernel_rfl) ?_)
          (with_reducible refine HC.out.mono ?_); rintro e w3 ⟨D, c3, v, rfl, hz, hP3, hO, b3⟩
          have RT3 : (D = some ad ∧ R.1.2 = L) ∨ RowT w3 D R.1.2 := hP3
          have S3 := S2.below b3
          have hO3 := hO.mono S2.old.size
          clear S2 hx HC b3 hO hP3
          go_upto_region 8 with (refine wpList_store_row rfl 31 _ _ rfl _ _ rfl rfl _ _ (heap_alloc_new _ _) (by kernel_rfl) (by kernel_rfl) (by kernel_rfl) ?_)
          rw [alloc_row]
          have bN := new_below w3 (.cells (lT R.1.1 D n c3).toArray 31)
          have S4 := S3.al rfl 31 (lT R.1.1 D n c3)
          have hO4 := hO3.below bN
          have RT4 := RT3.imp id (fun q => q.below bN)
          obtain ⟨U, hU⟩ : ∃ q, w3.heap.size = q := ⟨_, rfl⟩
          rw [hU] at S4 ⊢
          obtain ⟨w4, hw4⟩ : ∃ y, w3.alloc (.cells (lT R.1.1 D n c3).toArray 31) = y := ⟨_, rfl⟩
          rw [hw4] at S4 hO4 RT4 ⊢
          clear hw4 hU bN S3 hO3 RT3
          have hu := S4.bk 0 rfl
          have hy := S4.bk 2 rfl
          have SF := S4.row 2 rfl (lT R.1.1 D n c3)
          have hyF := SF.bk 2 rfl
          have hOF := hO4.store S4 2 rfl (lT R.1.1 D n c3).toArray
          have PF : PoAt _ D _ R.1.2 := RT4.elim (fun ⟨e1, e2⟩ => (by have h := (hp.out.below SF.old (Nat.le_refl _)).wide SF.old.size; rw [← e1] at h; rw [e2]; exact h)) (fun q => (q.row (cs := lT R.1.1 D n c3) (S4.1 2 _ _ _ rfl).1).ports)
          have e := HSS.out
          rw [HRR.out] at e
          subst e
          go_wp2_with (first | (with_reducible refine wpList_load_row rfl 31 (.tmp 11) rfl U (by kernel_rfl) _ _ (0, 0) _ hu Tryz.underlying31 rfl (by kernel_rfl) ?_) | (refine wpList_store_row rfl 31 _ _ rfl Y _ rfl rfl _ _ hy (by kernel_rfl) (by kernel_rfl) (by kernel_rfl) ?_))
          exact bodyPost_ret (v := .tuple #[.agg (lT R.1.1 D n c3).toArray, v, .int .i64 0]) (results_three (p := 6) (r := 7) (s := 8) rfl _ _ Y _ _ _ _ rfl _ rfl _ rfl hyF Tryz.underlying31 rfl (by kernel_rfl)) rfl ⟨D, c3, _, rfl, hz, PF, hOF, SF.old⟩
        | false =>
          go_upto_region 9 with fail
          clear v0
          rw [if_neg (by decide)] at hs0
          have HSS := Lib.hid hs0
          clear hs0
          obtain ⟨R, hR⟩ : ∃ R, heardR t L k fq = R := ⟨_, rfl⟩
          have HC := Lib.hid (rcfgh_is t (some ad) n cap L k fq (by omega) HFI hL hf hU ht hn hb hc w2 (Lib.hid ((hp.out.below S2.old (Nat.le_refl _)).wide S2.old.size)))
          rw [hR] at HC
          have HRR := Lib.hid hR
          clear hR
          have hx := S2.bk 2 rfl
          have hxB := S2.bk 0 rfl
          go_wp2_with (first | (with_reducible refine wpList_load_row rfl 31 (.tmp 3) rfl X (by kernel_rfl) _ _ (0, 0) _ hx Tryz.underlying31 rfl (by kernel_rfl) ?_) | (with_reducible refine wpList_load_row rfl 56 (.tmp 9) rfl V (by kernel_rfl) _ _ (0, 0) _ hxB Tryz.underlying56 rfl (by kernel_rfl) ?_))
          (with_reducible refine HC.out.mono ?_); rintro e w3 ⟨D, c3, v, rfl, hz, hP3, hO, b3⟩
          have RT3 : (D = some ad ∧ R.1.2 = L) ∨ RowT w3 D R.1.2 := hP3
          have S3 := S2.below b3
          have hO3 := hO.mono S2.old.size
          clear S2 hx HC b3 hO hxB hP3
          go_upto_region 10 with (refine wpList_store_row rfl 31 _ _ rfl _ _ rfl rfl _ _ (heap_alloc_new _ _) (by kernel_rfl) (by kernel_rfl) (by kernel_rfl) ?_)
          rw [alloc_row]
          have bN := new_below w3 (.cells (lT R.1.1 D n c3).toArray 31)
          have S4 := S3.al rfl 31 (lT R.1.1 D n c3)
          have hO4 := hO3.below bN
          have RT4 := RT3.imp id (fun q => q.below bN)
          obtain ⟨U, hU⟩ : ∃ q, w3.heap.size = q := ⟨_, rfl⟩
          rw [hU] at S4 ⊢
          obtain ⟨w4, hw4⟩ : ∃ y, w3.alloc (.cells (lT R.1.1 D n c3).toArray 31) = y := ⟨_, rfl⟩
          rw [hw4] at S4 hO4 RT4 ⊢
          clear hw4 hU bN S3 hO3 RT3
          have hu := S4.bk 0 rfl
          have hy := S4.bk 2 rfl
          have SF := S4.row 2 rfl (lT R.1.1 D n c3)
          have hyF := SF.bk 2 rfl
          have hOF := hO4.store S4 2 rfl (lT R.1.1 D n c3).toArray
          have PF : PoAt _ D _ R.1.2 := RT4.elim (fun ⟨e1, e2⟩ => (by have h := (hp.out.below SF.old (Nat.le_refl _)).wide SF.old.size; rw [← e1] at h; rw [e2]; exact h)) (fun q => (q.row (cs := lT R.1.1 D n c3) (S4.1 2 _ _ _ rfl).1).ports)
          have e := HSS.out
          rw [HRR.out] at e
          subst e
          go_wp2_with (first | (with_reducible refine wpList_load_row rfl 31 (.tmp 13) rfl U (by kernel_rfl) _ _ (0, 0) _ hu Tryz.underlying31 rfl (by kernel_rfl) ?_) | (refine wpList_store_row rfl 31 _ _ rfl Y _ rfl rfl _ _ hy (by kernel_rfl) (by kernel_rfl) (by kernel_rfl) ?_))
          exact bodyPost_ret (v := .tuple #[.agg (lT R.1.1 D n c3).toArray, v, .int .i64 0]) (results_three (p := 6) (r := 7) (s := 8) rfl _ _ Y _ _ _ _ rfl _ rfl _ rfl hyF Tryz.underlying31 rfl (by kernel_rfl)) rfl ⟨D, c3, _, rfl, hz, PF, hOF, SF.old⟩

end Go.Proofs.YteplefdnnehdgaaGreatDoor

/- '==' of timers. -/
namespace Go.Proofs.YteplefdnnehdgaaGreatDoor
set_option maxRecDepth 100000
open Go.ChangeShapes Go.WideShapes Go.ChangeAt Go.RowKit
set_option linter.unusedVariables false

/-- '==' of timers. -/
theorem tmr_eq (o q : Bool) (v u : Int) (r : Bool) (hr : (decide (o = q) && decide (v = u)) = r) (w : World) : (Op.equalIn 10000 28 (.agg #[.bool o, .int .i64 v]) (.agg #[.bool q, .int .i64 u])).run Tryz.prog w = .ok r w := by
  rw [show (10000 : Nat) = 9999 + 1 from rfl, run_equalIn_struct w 9999 28 _ _ (by kernel_rfl) (by kernel_rfl)]
  simp only [Program.fieldsOf, Tryz.underlying28]
  subst hr
  cases o <;> cases q <;> go_simp <;> first | (done) | simp_all | (split <;> simp_all)

end Go.Proofs.YteplefdnnehdgaaGreatDoor

/- Same, of views that are alike, and the document's. -/
namespace Go.Proofs.YteplefdnnehdgaaGreatDoor
set_option maxRecDepth 100000
open Go.ChangeShapes Go.WideShapes Go.ChangeAt Go.RowKit
set_option linter.unusedVariables false

theorem tms_same (a b c : Int) (w : World) : (Op.equalIn 10000 26 (.agg #[.int .i64 a, .int .i64 b, .int .i64 c]) (.agg #[.int .i64 a, .int .i64 b, .int .i64 c])).run Tryz.prog w = .ok true w := by
  rw [show (10000 : Nat) = 9999 + 1 from rfl, run_equalIn_struct w 9999 26 _ _ (by kernel_rfl) (by kernel_rfl)]
  simp only [Program.fieldsOf, Tryz.underlying26]
  go_simp
theorem tmr_same (o : Bool) (v : Int) (w : World) : (Op.equalIn 10000 28 (.agg #[.bool o, .int .i64 v]) (.agg #[.bool o, .int .i64 v])).run Tryz.prog w = .ok true w :=
  tmr_eq o o v v true (by simp) w

end Go.Proofs.YteplefdnnehdgaaGreatDoor

/- The document's Same, of views that are alike. -/
namespace Go.Proofs.YteplefdnnehdgaaGreatDoor
set_option maxRecDepth 100000
open Go.ChangeShapes Go.WideShapes Go.ChangeAt Go.RowKit
set_option linter.unusedVariables false

set_option maxRecDepth 100000 in
set_option maxHeartbeats 1000000 in
theorem rsame_alike (t : Th) (A B : Option Addr) (n capA capB : Nat) (L : List Po) (hL : Hid (L.length = n)) (hf : n ≤ 200) (w : World) (hp : Hid (PoAt w A w.heap.size L)) (hq : Hid (PoAt w B w.heap.size L)) :
    Calls Tryz.prog 8 #[.agg (lT t A n capA).toArray, .agg (lT t B n capB).toArray] w fun e w' => e = .returned (.bool true) ∧ Below w.heap.size w w' := by
  obtain ⟨wb, hwb, S⟩ := hs_two w 31 31 (lT t A n capA) (lT t B n capB)
  go_enter Tryz.func8, Tryz.ntmps8
  go_upto_region 1 with fail
  clear hwb
  obtain ⟨X, hX⟩ : ∃ X, w.heap.size = X := ⟨_, rfl⟩
  rw [hX] at S
  obtain ⟨Y, hY⟩ : ∃ Y, X + 1 = Y := ⟨_, rfl⟩
  rw [hY] at S
  rw [hX]
  rw [hY]
  have HX := Lib.hid hX
  clear hX hY
  have E1 := tms_same t.n1 t.n2 t.n3
  have E2 := tms_same t.m1 t.m2 t.m3
  have E3 := tmr_same t.ho t.hv
  have E4 := tmr_same t.xo t.xv
  have E5 := tmr_same t.zo t.zv
  have x0 := S.cell 1 0 rfl rfl
  have x1 := S.cell 1 1 rfl rfl
  have x2 := S.cell 1 2 rfl rfl
  have x3 := S.cell 1 3 rfl rfl
  have x4 := S.cell 1 4 rfl rfl
  have x5 := S.cell 1 5 rfl rfl
  have x6 := S.cell 1 6 rfl rfl
  have x7 := S.cell 1 7 rfl rfl
  have x8 := S.cell 1 8 rfl rfl
  have x9 := S.cell 1 9 rfl rfl
  have x10 := S.cell 1 10 rfl rfl
  have x11 := S.cell 1 11 rfl rfl
  have x12 := S.cell 1 12 rfl rfl
  have x13 := S.cell 1 13 rfl rfl
  have x14 := S.cell 1 14 rfl rfl
  have x15 := S.cell 1 15 rfl rfl
  have x16 := S.cell 1 16 rfl rfl
  have x17 := S.cell 1 17 rfl rfl
  have x18 := S.cell 1 18 rfl rfl
  have y0 := S.cell 0 0 rfl rfl
  have y1 := S.cell 0 1 rfl rfl
  have y2 := S.cell 0 2 rfl rfl
  have y3 := S.cell 0 3 rfl rfl
  have y4 := S.cell 0 4 rfl rfl
  have y5 := S.cell 0 5 rfl rfl
  have y6 := S.cell 0 6 rfl rfl
  have y7 := S.cell 0 7 rfl rfl
  have y8 := S.cell 0 8 rfl rfl
  have y9 := S.cell 0 9 rfl rfl
  have y10 := S.cell 0 10 rfl rfl
  have y11 := S.cell 0 11 rfl rfl
  have y12 := S.cell 0 12 rfl rfl
  have y13 := S.cell 0 13 rfl rfl
  have y14 := S.cell 0 14 rfl rfl
  have y15 := S.cell 0 15 rfl rfl
  have y16 := S.cell 0 16 rfl rfl
  have y17 := S.cell 0 17 rfl rfl
  have y18 := S.cell 0 18 rfl rfl
  go_upto_region 3 with fail
  clear x0 x1 x2 x3 x4 x5 x6 x7 x8 x9 x10 x11 x12 x13 x14 x15 x16 x17 x18 y0 y1 y2 y3 y4 y5 y6 y7 y8 y9 y10 y11 y12 y13 y14 y15 y16 y17 y18 E1 E2 E3 E4 E5
  go_wp2
  go_loopw [5] (fun i wr => ∃ k : Nat, k ≤ n ∧ i = .int .i64 k ∧ Hs w [(Y, 31, lT t B n capB), (X, 31, lT t A n capA)] wr) (fun i _ => n - (intOf i).toNat)
  case atStart => exact ⟨0, Nat.zero_le _, rfl, S⟩
  case round =>
    clear S
    obtain ⟨k, hk, rfl, S⟩ := hrel
    have x18 := S.cell 1 18 rfl rfl
    by_cases hkn : k < n
    · obtain ⟨x, hx⟩ := po_at hL.out hkn
      have hki : (k : Int) < (n : Int) := by omega
      have hkz : ¬ (n : Int) ≤ (k : Int) := by omega
      have HP := Lib.hid ((hp.out.below S.old (Nat.le_refl _)).wide S.old.size)
      have HQ := Lib.hid ((hq.out.below S.old (Nat.le_refl _)).wide S.old.size)
      obtain ⟨a, hA⟩ := HP.out.some hx
      obtain ⟨b, hB⟩ := HQ.out.some hx
      have HX := Lib.hid hx
      have HA := Lib.hid hA
      have HB := Lib.hid hB
      have hE := same_row x
      rw [hA] at x18
      clear hx
      go_upto_region 6 with fail
      have c1 := fun q : LaterW wr => (S.below q.h).cell 1 18 rfl rfl
      have c2 := fun q : LaterW wr => (S.below q.h).cell 0 18 rfl rfl
      rw [hA] at c1
      rw [hB] at c2
      clear x18 hA hB
      refine region_later mixedL (by kernel_rfl) ?_
      go_big_quiet_step (fail)
      go_big_quiet_step (fail)
      go_big_quiet_step (fail)
      go_big_quiet_step (fail)
      (refine BigFrame.wpQuiet_want (by kernel_rfl) (fun K hK => ?_); refine quiet_load_at 65 _ rfl (a.add (k * 15)) (by kernel_rfl) _ _ (HP.out.atq (Nat.le_refl _) HX.out HA.out) Tryz.underlying65 rfl (by kernel_rfl) ?_; refine hK _ ?_; clear hK; go_simp)
      go_big_quiet_step (fail)
      go_big_quiet_step (fail)
      go_big_quiet_step (fail)
      go_big_quiet_step (fail)
      (refine BigFrame.wpQuiet_want (by kernel_rfl) (fun K hK => ?_); refine quiet_load_at 65 _ rfl (b.add (k * 15)) (by kernel_rfl) _ _ (HQ.out.atq (Nat.le_refl _) HX.out HB.out) Tryz.underlying65 rfl (by kernel_rfl) ?_; refine hK _ ?_; clear hK; go_simp)
      repeat (go_big_quiet_step (fail))
      refine wpQuiet_nil ?_
      intro r
      have S3 := S.below r.h
      generalize r.w' = w3 at S3 ⊢
      clear HP HQ S c1 c2
      go_wp2
      go_roundw
      case rel => exact ⟨k + 1, by omega, by go_num, S3⟩
      case measure => simp [intOf]; omega
    · have hkz : ¬ (k : Int) < (n : Int) := by omega
      go_wp2
      go_ret
      exact ⟨rfl, S.old⟩

end Go.Proofs.YteplefdnnehdgaaGreatDoor

/- Bytes that came in as an argument. -/
namespace Go.Proofs.YteplefdnnehdgaaGreatDoor
set_option maxRecDepth 100000
open Go.Joins Go.ChangeShapes Go.WideShapes Go.ChangeAt Go.RowKit Go.Deep
set_option linter.unusedVariables false

theorem bytes_arg {H : Type} {enc : TypeId × Value → H} {w : World} {r : Reach} {base b0 : Nat} {v : Value} {d : DataW H} {p : List MemPlace}
    (hv : Value.okWide Tryz.prog w r b0 32 v) (h : DataW.Trod enc Tryz.prog w base (fun _ => true) true 32 v d p) :
    ∃ a len cap z, v = .slice a len cap ∧ IsRow .u8 w a len cap z := by
  obtain ⟨a, len, cap, rfl⟩ := okWide_slice Tryz.underlying32 hv
  obtain ⟨fuel, hf⟩ := h
  rcases open_ints Tryz.underlying32 Tryz.underlying5 (by kernel_rfl) hf with ⟨hcs, _⟩ | ⟨x, l, c, zs, hcs, _, hl, hm, hz, _, hcell, hwz⟩
  · simp [Value.cells] at hcs
    obtain ⟨rfl, rfl, rfl⟩ := hcs
    exact ⟨_, _, _, [], rfl, .inl ⟨rfl, rfl, rfl, rfl⟩⟩
  · simp [Value.cells] at hcs
    obtain ⟨rfl, rfl, rfl⟩ := hcs
    exact ⟨_, _, _, zs, rfl, .inr ⟨_, rfl, hl, hm, by simpa using hz, hcell, hwz⟩⟩

end Go.Proofs.YteplefdnnehdgaaGreatDoor
