/- The law HeardReplies, walked. -/
import Derived.Test.YteplefdnnehdgaaDoorPk12
import Derived.Test.YteplefdnnehdgaaDoorPk14
import Derived.Test.YteplefdnnehdgaaDoorPk15
import Derived.Test.YteplefdnnehdgaaDoorPk16
import Derived.Deep.DeepCutAuto
import Derived.LoopTactic
import Derived.Deep.QuietTactic
import Derived.BigQuiet
namespace Go.Proofs.YteplefdnnehdgaaDoor
set_option maxRecDepth 100000
open Go.ChangeShapes Go.WideShapes Go.ChangeAt Go.RowKit
set_option linter.unusedVariables false
set_option linter.unusedSimpArgs false

/-- What is worse than what the port tells. -/
def worseQ (x : Bq) (p : Po) : Bq := { x with ro := p.hr + 1, co := p.hc, br := p.hb, po := p.hp }
theorem worse_in {x : Bq} {p : Po} (hx : BqIn x) (hp : PoB p) (h : p.hr ≠ 18446744073709551615) : BqIn (worseQ x p) := by
  unfold BqIn BpIn at *
  unfold PoB at hp
  unfold worseQ
  dsimp only
  omega
theorem worse_no (x : Bq) (p : Po) (o : Int) : supB (confV (worseQ x p)) (heldV p) o = false := by
  have h := wpI_cases (confV (worseQ x p)) (heldV p)
  have e1 : (confV (worseQ x p)).r = p.hr + 1 := rfl
  have e2 : (heldV p).r = p.hr := rfl
  rcases h with ⟨c, e⟩ | ⟨c, e⟩ | ⟨c, e⟩
  · omega
  · omega
  · exact supB_gt e
theorem worse_heard {t : Th} {L : List Po} {k : Nat} {p : Po} (x : Bq) (hp : L[k]? = some p) (hs : p.st ≠ 0) : heardR t L k (worseQ x p) = if desB p t.ow = true then ((t, (confR t L k).1), (confR t L k).2) else ((t, L), []) := by
  rw [heardR_at hp hs, worse_no, if_neg (by decide)]

set_option maxHeartbeats 4000000 in
theorem HeardReplies_walk (t : Th) (A : Option Addr) (n cap : Nat) (L : List Po) (i : Int) (x : Bq) (w : World) (hd : Hd w) (ht : ThB t) (hm : TmB t) (hL : L.length = n) (hn : n ≤ 9223372036854775807) (hz : A = none → cap = 0) (hb : ∀ x ∈ L, PoB x) (hp : PoAt w A w.heap.size L) (hi : (Lit.int .u8 i).wf = true) (hxb : BqIn x) :
    Calls Tryd.prog 4 #[.agg (lT t A n cap).toArray, .int .u8 i, .agg (lB x).toArray] w fun e w' => e = .returned (.bool true) ∧ Below w.heap.size w w' := by
  have hi := bounds_u8 hi
  have HA := fun W (h : Below w.heap.size w W) => Lib.hid (awake15_is W (hd.below h (Nat.le_refl _)))
  have HD := Lib.hid hd
  have HB := Lib.hid hb
  have HTB := Lib.hid ht
  have HNB := Lib.hid (show (-9223372036854775808 ≤ t.n1 ∧ t.n1 ≤ 9223372036854775807 ∧ -9223372036854775808 ≤ t.n2 ∧ t.n2 ≤ 9223372036854775807 ∧ -9223372036854775808 ≤ t.n3 ∧ t.n3 ≤ 9223372036854775807) from hm)
  have HL := Lib.hid hL
  have HP := Lib.hid hp
  have HCZ := Lib.hid hz
  have HXB := Lib.hid hxb
  have HF := fun W (h : Below w.heap.size w W) => Lib.hid (fit_is t A n cap L HL hn W (Lib.hid ((HP.out.below h (Nat.le_refl _)).wide h.size)))
  clear hb hL hz hp ht hn hd hm hxb
  obtain ⟨wb, hwb, S⟩ := hs_two w 31 35 (lT t A n cap) (lB x)
  go_enter Tryd.func4, Tryd.ntmps4
  go_upto_region 1 with fail
  clear hwb
  obtain ⟨X, hX⟩ : ∃ X, w.heap.size = X := ⟨_, rfl⟩
  rw [hX] at S
  rw [hX]
  obtain ⟨B, hB⟩ : ∃ B, X + 1 = B := ⟨_, rfl⟩
  rw [hB] at S
  rw [hB]
  clear hB
  clear hX
  go_wp2_with fail
  (with_reducible refine (HA _ S.old).out.mono ?_); rintro e w1 ⟨rfl, b1⟩
  have S1 := S.below b1
  clear S b1
  have hx := S1.bk 1 rfl
  go_wp2_with (with_reducible refine wpList_load_rowG (by kernel_rfl) 31 (.tmp 3) rfl X (by kernel_rfl) _ _ (0, 0) _ hx Tryd.underlying31 rfl (by kernel_rfl) ?_)
  (with_reducible refine (HF _ S1.old).out.mono ?_); rintro e w2 ⟨q, rfl, hq, b2⟩
  have S2 := S1.below b2
  have HQ := Lib.hid hq
  clear S1 hx HF b2 hq
  cases q with
  | false =>
    go_wp2_with fail
    (with_reducible refine (HA _ S2.old).out.mono ?_); rintro e wq ⟨rfl, bq⟩
    have Sq := S2.below bq
    go_wp2
    go_ret
    exact ⟨rfl, Sq.old⟩
  | true =>
    have HN := Lib.hid (HQ.out rfl).1
    have HU := Lib.hid (HQ.out rfl).2
    clear HQ
    have hn2 : n ≤ 200 := by have := HN.out; omega
    have c18 := S2.cell 1 18 rfl rfl
    by_cases h0 : n = 0
    · subst h0
      go_wp2_with fail
      (with_reducible refine (HA _ S2.old).out.mono ?_); rintro e wq ⟨rfl, bq⟩
      have Sq := S2.below bq
      go_wp2
      go_ret
      exact ⟨rfl, Sq.old⟩
    · have hz0 : ((n : Int) == 0) = false := by simpa using h0
      obtain ⟨k, hk⟩ : ∃ k : Nat, Int.tmod i (n : Int) = k := ⟨(Int.tmod i n).toNat, by have := Int.tmod_nonneg (n : Int) hi.1; omega⟩
      have hkn : k < n := by have := Int.tmod_lt_of_pos i (show (0 : Int) < n by omega); omega
      obtain ⟨p, hp0⟩ := po_at HL.out hkn
      have HX := Lib.hid hp0
      clear hp0
      have hki : (k : Int) < (n : Int) := by omega
      have hkz : ¬ (n : Int) ≤ (k : Int) := by omega
      have hw8 : IntKind.i64.wrap i = i := by simp [IntKind.wrap, IntKind.bits, IntKind.signed]; omega
      obtain ⟨ad0, rfl⟩ := HP.out.some HX.out
      go_upto_region 4 with fail
      clear c18 hw8 hk hz0
      have c18 := S2.cell 1 18 rfl rfl
      have hat : ∀ i v, (lP p)[i]? = some v → w2.cell? ((ad0.add (k * 15)).add i) = some v := ((HP.out.below S2.old (Nat.le_refl _)).at HX.out rfl)
      go_upto_region 5 with (first | (with_reducible refine wpList_load_at rfl 41 (.tmp 35) rfl (ad0.add (k * 15)) (by kernel_rfl) _ _ hat Tryd.underlying41 rfl (by kernel_rfl) ?_) | (refine wpList_store_row rfl 41 _ _ rfl _ _ rfl rfl _ _ (heap_alloc_new _ _) (by kernel_rfl) (by kernel_rfl) (by kernel_rfl) ?_))
      rw [alloc_row]
      have S3 := S2.al rfl 41 (lP p)
      obtain ⟨P, hP⟩ : ∃ P, w2.heap.size = P := ⟨_, rfl⟩
      rw [hP] at S3 ⊢
      obtain ⟨w3, hw3⟩ : ∃ y, w2.alloc (.cells (lP p).toArray 41) = y := ⟨_, rfl⟩
      rw [hw3] at S3 ⊢
      clear hw3 hP S2 c18 hat
      have p1 := S3.cell 0 1 rfl rfl
      by_cases hst : p.st = 0
      · go_wp2
        go_ret
        exact ⟨rfl, S3.old⟩
      · have hstb : (p.st == 0) = false := by simpa using hst
        have HST := Lib.hid hst
        clear hst
        go_upto_region 7 with fail
        clear p1 hstb
        have hxB := S3.bk 1 rfl
        go_upto_region 8 with (first | (with_reducible refine wpList_load_row rfl 35 (.tmp 5) rfl B (by kernel_rfl) _ _ (0, 0) _ hxB Tryd.underlying35 rfl (by kernel_rfl) ?_) | (refine wpList_store_row rfl 35 _ _ rfl _ _ rfl rfl _ _ (heap_alloc_new _ _) (by kernel_rfl) (by kernel_rfl) (by kernel_rfl) ?_))
        rw [alloc_row]
        have S4 := S3.al rfl 35 (lB x)
        obtain ⟨W, hW⟩ : ∃ P, w3.heap.size = P := ⟨_, rfl⟩
        rw [hW] at S4 ⊢
        obtain ⟨w4, hw4⟩ : ∃ y, w3.alloc (.cells (lB x).toArray 35) = y := ⟨_, rfl⟩
        rw [hw4] at S4 ⊢
        clear hw4 hW S3 hxB
        try simp only [Act.put]
        go_cut [] (fun wx => Hs w [(W, 35, lB ({ x with ro := p.hr, co := p.hc, br := p.hb, po := p.hp } : Bq)), (P, 41, lP p), (B, 35, lB x), (X, 31, lT t (some ad0) n cap)] wx)
        case first =>
          refine wp_region_held_drew (S := (fun w' => Bk w' P 41 (lP p))) (by kernel_rfl) ((S4.1 1 _ _ _ rfl).1) (fun hHeld => ?_)
          have S5 := S4.drew
          obtain ⟨v5, hv5⟩ : ∃ y, w4.drew = y := ⟨_, rfl⟩
          rw [hv5] at S5 hHeld ⊢
          clear hv5 S4
          refine wpAnyH_take (i := 0) (v := ?_) rfl (by kernel_rfl) (by kernel_rfl) (by kernel_rfl) (fun _ _ _ h => h) (Or.inl ⟨by kernel_rfl, ?_⟩) (by assumption) ?_
          rotate_left
          · intro w' hSw; (try dsimp only at hSw); go_simp; with_reducible rfl
          try simp only [Act.put, List.getElem_toArray, List.getElem_cons_succ, List.getElem_cons_zero, List.setIfInBounds_toArray, List.set_cons_succ, List.set_cons_zero]
          refine wpAnyH_take (i := 1) (v := ?_) rfl (by kernel_rfl) (by kernel_rfl) (by kernel_rfl) (fun _ _ _ h => h) (Or.inl ⟨by kernel_rfl, ?_⟩) (by assumption) ?_
          rotate_left
          · intro w' hSw; (try dsimp only at hSw); go_simp; with_reducible rfl
          try simp only [Act.put, List.getElem_toArray, List.getElem_cons_succ, List.getElem_cons_zero, List.setIfInBounds_toArray, List.set_cons_succ, List.set_cons_zero]
          refine wpAnyH_take (i := 2) (v := ?_) rfl (by kernel_rfl) (by kernel_rfl) (by kernel_rfl) (fun _ _ _ h => h) (Or.inl ⟨by kernel_rfl, ?_⟩) (by assumption) ?_
          rotate_left
          · intro w' hSw; (try dsimp only at hSw); have c0 := (show w'.cell? ⟨P, 3, none⟩ = some (.int .u64 p.hr) from hSw.cell 3); go_simp; with_reducible rfl
          try simp only [Act.put, List.getElem_toArray, List.getElem_cons_succ, List.getElem_cons_zero, List.setIfInBounds_toArray, List.set_cons_succ, List.set_cons_zero]
          refine wpAnyH_take (i := 3) (v := ?_) rfl (by kernel_rfl) (by kernel_rfl) (by kernel_rfl) (fun _ _ _ h => h) (Or.inl ⟨by kernel_rfl, ?_⟩) (by assumption) ?_
          rotate_left
          · intro w' hSw; (try dsimp only at hSw); go_simp; with_reducible rfl
          try simp only [Act.put, List.getElem_toArray, List.getElem_cons_succ, List.getElem_cons_zero, List.setIfInBounds_toArray, List.set_cons_succ, List.set_cons_zero]
          refine wpAnyH_take (i := 4) (v := ?_) rfl (by kernel_rfl) (by kernel_rfl) (by kernel_rfl) (fun _ _ _ h => h) (Or.inl ⟨by kernel_rfl, ?_⟩) (by assumption) ?_
          rotate_left
          · intro w' hSw; (try dsimp only at hSw); go_simp; with_reducible rfl
          try simp only [Act.put, List.getElem_toArray, List.getElem_cons_succ, List.getElem_cons_zero, List.setIfInBounds_toArray, List.set_cons_succ, List.set_cons_zero]
          refine wpAnyH_take (i := 5) (v := ?_) rfl (by kernel_rfl) (by kernel_rfl) (by kernel_rfl) (fun _ _ _ h => h) (Or.inl ⟨by kernel_rfl, ?_⟩) (by assumption) ?_
          rotate_left
          · intro w' hSw; (try dsimp only at hSw); have c0 := (show w'.cell? ⟨P, 4, none⟩ = some (.int .u32 p.hc) from hSw.cell 4); go_simp; with_reducible rfl
          try simp only [Act.put, List.getElem_toArray, List.getElem_cons_succ, List.getElem_cons_zero, List.setIfInBounds_toArray, List.set_cons_succ, List.set_cons_zero]
          refine wpAnyH_take (i := 6) (v := ?_) rfl (by kernel_rfl) (by kernel_rfl) (by kernel_rfl) (fun _ _ _ h => h) (Or.inl ⟨by kernel_rfl, ?_⟩) (by assumption) ?_
          rotate_left
          · intro w' hSw; (try dsimp only at hSw); go_simp; with_reducible rfl
          try simp only [Act.put, List.getElem_toArray, List.getElem_cons_succ, List.getElem_cons_zero, List.setIfInBounds_toArray, List.set_cons_succ, List.set_cons_zero]
          refine wpAnyH_take (i := 7) (v := ?_) rfl (by kernel_rfl) (by kernel_rfl) (by kernel_rfl) (fun _ _ _ h => h) (Or.inl ⟨by kernel_rfl, ?_⟩) (by assumption) ?_
          rotate_left
          · intro w' hSw; (try dsimp only at hSw); go_simp; with_reducible rfl
          try simp only [Act.put, List.getElem_toArray, List.getElem_cons_succ, List.getElem_cons_zero, List.setIfInBounds_toArray, List.set_cons_succ, List.set_cons_zero]
          refine wpAnyH_take (i := 8) (v := ?_) rfl (by kernel_rfl) (by kernel_rfl) (by kernel_rfl) (fun _ _ _ h => h) (Or.inl ⟨by kernel_rfl, ?_⟩) (by assumption) ?_
          rotate_left
          · intro w' hSw; (try dsimp only at hSw); have c0 := (show w'.cell? ⟨P, 5, none⟩ = some (.int .u64 p.hb) from hSw.cell 5); go_simp; with_reducible rfl
          try simp only [Act.put, List.getElem_toArray, List.getElem_cons_succ, List.getElem_cons_zero, List.setIfInBounds_toArray, List.set_cons_succ, List.set_cons_zero]
          refine wpAnyH_take (i := 9) (v := ?_) rfl (by kernel_rfl) (by kernel_rfl) (by kernel_rfl) (fun _ _ _ h => h) (Or.inl ⟨by kernel_rfl, ?_⟩) (by assumption) ?_
          rotate_left
          · intro w' hSw; (try dsimp only at hSw); go_simp; with_reducible rfl
          try simp only [Act.put, List.getElem_toArray, List.getElem_cons_succ, List.getElem_cons_zero, List.setIfInBounds_toArray, List.set_cons_succ, List.set_cons_zero]
          refine wpAnyH_take (i := 10) (v := ?_) rfl (by kernel_rfl) (by kernel_rfl) (by kernel_rfl) (fun _ _ _ h => h) (Or.inl ⟨by kernel_rfl, ?_⟩) (by assumption) ?_
          rotate_left
          · intro w' hSw; (try dsimp only at hSw); go_simp; with_reducible rfl
          try simp only [Act.put, List.getElem_toArray, List.getElem_cons_succ, List.getElem_cons_zero, List.setIfInBounds_toArray, List.set_cons_succ, List.set_cons_zero]
          refine wpAnyH_take (i := 11) (v := ?_) rfl (by kernel_rfl) (by kernel_rfl) (by kernel_rfl) (fun _ _ _ h => h) (Or.inl ⟨by kernel_rfl, ?_⟩) (by assumption) ?_
          rotate_left
          · intro w' hSw; (try dsimp only at hSw); have c0 := (show w'.cell? ⟨P, 6, none⟩ = some (.int .u16 p.hp) from hSw.cell 6); go_simp; with_reducible rfl
          try simp only [Act.put, List.getElem_toArray, List.getElem_cons_succ, List.getElem_cons_zero, List.setIfInBounds_toArray, List.set_cons_succ, List.set_cons_zero]
          refine wpAnyH_take (i := 12) (v := ?_) rfl (by kernel_rfl) (by kernel_rfl) (by kernel_rfl) (fun _ _ _ h => h) (Or.inl ⟨by kernel_rfl, ?_⟩) (by assumption) ?_
          rotate_left
          · intro w' hSw; (try dsimp only at hSw); go_simp; with_reducible rfl
          try simp only [Act.put, List.getElem_toArray, List.getElem_cons_succ, List.getElem_cons_zero, List.setIfInBounds_toArray, List.set_cons_succ, List.set_cons_zero]
          refine wpAnyH_ready (rs := [13]) (by kernel_rfl) (by simp) ?_
          refine AllReadyH.cons rfl (fun K hK => ?_) AllReadyH.nil
          have c3 := S5.cell 0 3 rfl rfl
          have f3 := S5.thaw 0 3 rfl
          go_simp
          have S6 := S5.set 0 rfl 3 (.int .u64 p.hr)
          clear c3 f3
          refine hK.out _ _ ((S6.1 1 _ _ _ rfl).1) (fun hHeld => ?_)
          clear hK K
          try simp only [Act.put, List.getElem_toArray, List.getElem_cons_succ, List.getElem_cons_zero, List.setIfInBounds_toArray, List.set_cons_succ, List.set_cons_zero]
          obtain ⟨v6, hvv⟩ : ∃ y, v5.setCell ⟨W, 3, none⟩ (.int .u64 p.hr) = y := ⟨_, rfl⟩
          rw [hvv] at S6 hHeld ⊢
          clear hvv S5
          refine wpAnyH_take (i := 14) (v := ?_) rfl (by kernel_rfl) (by kernel_rfl) (by kernel_rfl) (fun _ _ _ h => h) (Or.inl ⟨by kernel_rfl, ?_⟩) (by assumption) ?_
          rotate_left
          · intro w' hSw; (try dsimp only at hSw); go_simp; with_reducible rfl
          try simp only [Act.put, List.getElem_toArray, List.getElem_cons_succ, List.getElem_cons_zero, List.setIfInBounds_toArray, List.set_cons_succ, List.set_cons_zero]
          refine wpAnyH_ready (rs := [15]) (by kernel_rfl) (by simp) ?_
          refine AllReadyH.cons rfl (fun K hK => ?_) AllReadyH.nil
          have c4 := S6.cell 0 4 rfl rfl
          have f4 := S6.thaw 0 4 rfl
          go_simp
          have S7 := S6.set 0 rfl 4 (.int .u32 p.hc)
          clear c4 f4
          refine hK.out _ _ ((S7.1 1 _ _ _ rfl).1) (fun hHeld => ?_)
          clear hK K
          try simp only [Act.put, List.getElem_toArray, List.getElem_cons_succ, List.getElem_cons_zero, List.setIfInBounds_toArray, List.set_cons_succ, List.set_cons_zero]
          obtain ⟨v7, hvv⟩ : ∃ y, v6.setCell ⟨W, 4, none⟩ (.int .u32 p.hc) = y := ⟨_, rfl⟩
          rw [hvv] at S7 hHeld ⊢
          clear hvv S6
          refine wpAnyH_take (i := 16) (v := ?_) rfl (by kernel_rfl) (by kernel_rfl) (by kernel_rfl) (fun _ _ _ h => h) (Or.inl ⟨by kernel_rfl, ?_⟩) (by assumption) ?_
          rotate_left
          · intro w' hSw; (try dsimp only at hSw); go_simp; with_reducible rfl
          try simp only [Act.put, List.getElem_toArray, List.getElem_cons_succ, List.getElem_cons_zero, List.setIfInBounds_toArray, List.set_cons_succ, List.set_cons_zero]
          refine wpAnyH_ready (rs := [17]) (by kernel_rfl) (by simp) ?_
          refine AllReadyH.cons rfl (fun K hK => ?_) AllReadyH.nil
          have c5 := S7.cell 0 5 rfl rfl
          have f5 := S7.thaw 0 5 rfl
          go_simp
          have S8 := S7.set 0 rfl 5 (.int .u64 p.hb)
          clear c5 f5
          refine hK.out _ _ ((S8.1 1 _ _ _ rfl).1) (fun hHeld => ?_)
          clear hK K
          try simp only [Act.put, List.getElem_toArray, List.getElem_cons_succ, List.getElem_cons_zero, List.setIfInBounds_toArray, List.set_cons_succ, List.set_cons_zero]
          obtain ⟨v8, hvv⟩ : ∃ y, v7.setCell ⟨W, 5, none⟩ (.int .u64 p.hb) = y := ⟨_, rfl⟩
          rw [hvv] at S8 hHeld ⊢
          clear hvv S7
          refine wpAnyH_take (i := 18) (v := ?_) rfl (by kernel_rfl) (by kernel_rfl) (by kernel_rfl) (fun _ _ _ h => h) (Or.inl ⟨by kernel_rfl, ?_⟩) (by assumption) ?_
          rotate_left
          · intro w' hSw; (try dsimp only at hSw); go_simp; with_reducible rfl
          try simp only [Act.put, List.getElem_toArray, List.getElem_cons_succ, List.getElem_cons_zero, List.setIfInBounds_toArray, List.set_cons_succ, List.set_cons_zero]
          refine wpAnyH_ready (rs := [19]) (by kernel_rfl) (by simp) ?_
          refine AllReadyH.cons rfl (fun K hK => ?_) AllReadyH.nil
          have c6 := S8.cell 0 6 rfl rfl
          have f6 := S8.thaw 0 6 rfl
          go_simp
          have S9 := S8.set 0 rfl 6 (.int .u16 p.hp)
          clear c6 f6
          refine hK.out _ _ ((S9.1 1 _ _ _ rfl).1) (fun hHeld => ?_)
          clear hK K
          try simp only [Act.put, List.getElem_toArray, List.getElem_cons_succ, List.getElem_cons_zero, List.setIfInBounds_toArray, List.set_cons_succ, List.set_cons_zero]
          obtain ⟨v9, hvv⟩ : ∃ y, v8.setCell ⟨W, 6, none⟩ (.int .u16 p.hp) = y := ⟨_, rfl⟩
          rw [hvv] at S9 hHeld ⊢
          clear hvv S8
          refine wpAnyH_done (by kernel_rfl) ?_ _
          go_wp2_with fail
          go_meet
          exact S9
        case rest =>
          have S5 := hcut
          clear hcut S4
          rename World => w5
          have p3 := S5.cell 1 3 rfl rfl
          by_cases hmx : p.hr = 18446744073709551615
          · have hmb : (p.hr == 18446744073709551615) = true := by simpa using hmx
            go_wp2
            go_ret
            exact ⟨rfl, S5.old⟩
          · have hmb : (p.hr == 18446744073709551615) = false := by simpa using hmx
            have HMX := Lib.hid hmx
            clear hmx
            go_upto_region 11 with fail
            clear hmb
            have c3 := S5.cell 0 3 rfl rfl
            have f3 := S5.thaw 0 3 rfl
            have hwu : IntKind.u64.wrap (p.hr + 1) = p.hr + 1 := by have h := HB.out p (List.mem_of_getElem? HX.out); have h2 := HMX.out; unfold PoB at h; simp [IntKind.wrap, IntKind.bits, IntKind.signed]; omega
            go_upto_region 12 with fail
            have S6 : Hs w [(W, 35, lB (worseQ x p)), (P, 41, lP p), (B, 35, lB x), (X, 31, lT t (some ad0) n cap)] (w5.setCell ⟨W, 3, none⟩ (.int .u64 (p.hr + 1))) := S5.set 0 rfl 3 (.int .u64 (p.hr + 1))
            generalize w5.setCell ⟨W, 3, none⟩ (.int .u64 (p.hr + 1)) = w6 at S6 ⊢
            clear S5 p3 c3 f3 hwu
            have HWI := Lib.hid (worse_in HXB.out (HB.out p (List.mem_of_getElem? HX.out)) HMX.out)
            have HRR := Lib.hid (worse_heard (t := t) x HX.out HST.out)
            obtain ⟨R, hR⟩ : ∃ R, heardR t L k (worseQ x p) = R := ⟨_, rfl⟩
            rw [hR] at HRR
            have HCC := Lib.hid (hconf_is t (some ad0) n cap L k (worseQ x p) (by omega) HWI HL hn2 HTB HNB HB HCZ _ (HD.out.below S6.old (Nat.le_refl _)) (Lib.hid ((HP.out.below S6.old (Nat.le_refl _)).wide S6.old.size)))
            rw [hR] at HCC
            clear hR
            have hx := S6.bk 3 rfl
            have hxB := S6.bk 0 rfl
            go_wp2_with (first | (with_reducible refine wpList_load_rowG (by kernel_rfl) 31 (.tmp 3) rfl X (by kernel_rfl) _ _ (0, 0) _ hx Tryd.underlying31 rfl (by kernel_rfl) ?_) | (with_reducible refine wpList_load_row rfl 35 (.tmp 9) rfl W (by kernel_rfl) _ _ (0, 0) _ hxB Tryd.underlying35 rfl (by kernel_rfl) ?_))
            (with_reducible refine (HCC).out.mono ?_); rintro e x1 ⟨D1, k1, v1, rfl, hz1, T1, hO1⟩
            have S_1a := S6.below T1.old
            go_upto_region 13 with (refine wpList_store_row rfl 31 _ _ rfl _ _ rfl rfl _ _ (heap_alloc_new _ _) (by kernel_rfl) (by kernel_rfl) (by kernel_rfl) ?_)
            rw [alloc_row]
            have bN := new_below x1 (.cells (lT R.1.1 D1 n k1).toArray 31)
            have KU_1 := AN.new (t := R.1.1) (n := n) (R := ((R.1.2, R.2) : List Po × List Ou)) hz1 T1.ports hO1
            have S_1 := S_1a.below bN
            obtain ⟨U, hG⟩ : ∃ G, x1.heap.size = G := ⟨_, rfl⟩
            rw [hG] at KU_1 ⊢
            obtain ⟨y1, hy⟩ : ∃ y, x1.alloc (.cells (lT R.1.1 D1 n k1).toArray 31) = y := ⟨_, rfl⟩
            rw [hy] at S_1 KU_1  ⊢
            clear hy hG bN hz1 hO1 T1 S6 S_1a
            clear hx hxB HCC
            obtain ⟨d, hd⟩ : ∃ d, desB p t.ow = d := ⟨_, rfl⟩
            have hRR := HRR.out
            rw [hd] at hRR
            have HDS := fun W => Lib.hid (desig_row p t.ow d (Lib.hid hd) W)
            have HRD := Lib.hid hRR
            clear hd hRR HRR
            have hpx := S_1.bk 1 rfl
            have c0 := S_1.cell 3 0 rfl rfl
            go_wp2_with (with_reducible refine wpList_load_row rfl 41 (.tmp 8) rfl P (by kernel_rfl) _ _ (0, 0) _ hpx Tryd.underlying41 rfl (by kernel_rfl) ?_)
            (with_reducible refine (HDS _).out.mono ?_); rintro e w8 ⟨rfl, b8⟩
            have S8 := S_1.below b8
            have K8 := KU_1.below b8
            clear S_1 KU_1 hpx c0 HDS b8
            have hRR := HRD.out
            cases d with
            | false =>
              rw [if_neg (by decide)] at hRR
              subst hRR
              obtain ⟨A1, q1, e⟩ := K8.outs.shape
              obtain rfl : v1 = .slice A1 0 q1 := e
              have HS := Lib.hid (rsame_alike t D1 (some ad0) n k1 cap L HL hn2 w8 (Lib.hid K8.ports) (Lib.hid ((HP.out.below S8.old (Nat.le_refl _)).wide S8.old.size)))
              have hu := K8.bk
              have hx := S8.bk 3 rfl
              go_wp2_with (first | (with_reducible refine wpList_load_rowG (by kernel_rfl) 31 (.tmp 10) rfl U (by kernel_rfl) _ _ (0, 0) _ hu Tryd.underlying31 rfl (by kernel_rfl) ?_) | (with_reducible refine wpList_load_rowG (by kernel_rfl) 31 (.tmp 3) rfl X (by kernel_rfl) _ _ (0, 0) _ hx Tryd.underlying31 rfl (by kernel_rfl) ?_))
              (with_reducible refine HS.out.mono ?_); rintro e w9 ⟨rfl, b9⟩
              have BO := (S8.below b9).old
              clear S8 K8 hu hx HS b9
              go_wp2
              go_ret
              exact ⟨rfl, BO⟩
            | true =>
              rw [if_pos rfl] at hRR
              have hC := confR_at (t := t) HX.out
              go_upto_region 15 with fail
              have p13 := S8.cell 1 13 rfl rfl
              obtain ⟨ho, hho⟩ : ∃ h, p.ho = h := ⟨_, rfl⟩
              rw [hho] at p13 hC
              cases ho with
              | true =>
                rw [if_pos rfl] at hC
                rw [hC] at hRR
                subst hRR
                have hy1 : (L.set k (owingP p))[k]? = some (owingP p) := List.getElem?_set_self (po_lt HX.out)
                obtain ⟨ad1, rfl⟩ := K8.ports.some hy1
                have d18 := K8.cell (i := 18) rfl
                obtain ⟨A1, q1, e⟩ := K8.outs.shape
                obtain rfl : v1 = .slice A1 0 q1 := e
                have d8 := K8.port hy1 7 rfl
                have BO := S8.old
                clear S8 K8 hy1 hC hho
                go_wp2
                go_ret
                exact ⟨rfl, BO⟩
              | false =>
                rw [if_neg (by decide)] at hC
                by_cases hage : t.n1 ≤ toldI t L
                · rw [if_pos hage] at hC
                  rw [hC] at hRR
                  subst hRR
                  obtain ⟨A1, q1, e⟩ := K8.outs.shape
                  obtain rfl : v1 = .slice A1 0 q1 := e
                  have BO := S8.old
                  clear S8 K8 hC hho hage
                  go_wp2
                  go_ret
                  exact ⟨rfl, BO⟩
                · rw [if_neg hage] at hC
                  rw [hC] at hRR
                  subst hRR
                  have hy1 : (L.set k (sentP p))[k]? = some (sentP p) := List.getElem?_set_self (po_lt HX.out)
                  obtain ⟨ad1, rfl⟩ := K8.ports.some hy1
                  have d18 := K8.cell (i := 18) rfl
                  obtain ⟨A1, q1, e⟩ := K8.outs.shape
                  obtain rfl : v1 = .slice A1 1 q1 := e
                  have d13 := K8.port hy1 12 rfl
                  obtain ⟨c, go, hco, rfl, -, hcl, -⟩ := K8.outs.at (k := 0) rfl
                  have o0 : w8.cell? ⟨go, 0, none⟩ = some (.int .i64 k) := by
                    have := hcl 0 _ rfl
                    rw [hco] at this
                    simpa using this
                  have hkk : ((k : Int) == (k : Int)) = true := by simp
                  have BO := S8.old
                  clear S8 K8 hC hho hage hy1 hcl hco
                  go_wp2
                  go_ret
                  exact ⟨rfl, BO⟩

end Go.Proofs.YteplefdnnehdgaaDoor
