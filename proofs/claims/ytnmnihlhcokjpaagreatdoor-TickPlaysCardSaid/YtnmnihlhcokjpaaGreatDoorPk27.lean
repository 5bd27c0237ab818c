/- Several texts in one, one behind the other: TreeRefSel. -/
import Derived.Test.YtnmnihlhcokjpaaGreatDoorPk25
import Derived.Test.YtnmnihlhcokjpaaGreatDoorPk04
import Derived.Test.YtnmnihlhcokjpaaGreatDoorPk05
import Derived.LoopTactic

/- The document's Select: contract. -/
namespace Go.Proofs.YtnmnihlhcokjpaaGreatDoor
set_option maxRecDepth 100000
open Go.ChangeShapes Go.WideShapes Go.ChangeAt Go.RowKit
set_option linter.unusedVariables false
set_option linter.unusedSimpArgs false

/-- What the inner loop has found behind j ports, and, where the answer is no, of all. -/
def TB (o : Int) (L : List Po) (n j i : Nat) (b : Bool) : Prop := (b = true → Top o L j i) ∧ (b = false → ¬ Top o L n i)
theorem tb_start {o : Int} {L : List Po} {n i : Nat} {x : Po} (hx : L[i]? = some x) {b : Bool} (hb : mayB x o = b) : TB o L n 0 i b := by
  refine ⟨fun e => ⟨x, hx, by rw [hb, e], fun a ha => by omega⟩, fun e h => ?_⟩
  obtain ⟨p, h1, h2, _⟩ := h
  rw [hx] at h1
  cases h1
  rw [hb, e] at h2
  cases h2
theorem tb_skip {o : Int} {L : List Po} {n j i : Nat} (h : TB o L n j i true) (hs : j = i ∨ ∀ y, L[j]? = some y → mayB y o = false) : TB o L n (j + 1) i true := by
  refine ⟨fun _ => ?_, fun e => by cases e⟩
  obtain ⟨p, h1, h2, h3⟩ := h.1 rfl
  refine ⟨p, h1, h2, fun a ha hn q hq hm => ?_⟩
  by_cases e : a = j
  · subst e
    rcases hs with rfl | hs
    · exact absurd rfl hn
    · rw [hs q hq] at hm
      cases hm
  · exact h3 a (by omega) hn q hq hm
theorem tb_next {o : Int} {L : List Po} {n j i : Nat} {x y : Po} (h : TB o L n j i true) (hx : L[i]? = some x) (hy : L[j]? = some y) (hm : mayB y o = true) (hji : j ≠ i) (hjn : j < n) {b : Bool} (hb : betterB y x = b) : TB o L n (j + 1) i (!b) := by
  refine ⟨fun e => ?_, fun e hT => ?_⟩
  · obtain ⟨p, h1, h2, h3⟩ := h.1 rfl
    refine ⟨p, h1, h2, fun a ha hn q hq hm => ?_⟩
    by_cases e' : a = j
    · subst e'
      rw [hy] at hq
      cases hq
      rw [hx] at h1
      cases h1
      rw [hb]
      simpa using e
    · exact h3 a (by omega) hn q hq hm
  · obtain ⟨p, h1, h2, h3⟩ := hT
    rw [hx] at h1
    cases h1
    have := h3 j hjn hji y hy hm
    rw [hb] at this
    subst this
    cases e
theorem rs_yes {o : Int} {L : List Po} {k : Nat} (h : Top o L L.length k) : RS o L (k + 1) (some k) := ⟨Nat.lt_succ_self k, h⟩
theorem rs_no {o : Int} {L : List Po} {k : Nat} {r : Option Nat} (h : RS o L k r) (hn : ¬ Top o L L.length k) : RS o L (k + 1) r := by
  cases r with
  | none =>
    intro i hi
    by_cases e : i = k
    · subst e; exact hn
    · exact h i (by omega)
  | some j => exact ⟨by have := h.1; omega, h.2⟩
theorem selT_over (t : Th) (L : List Po) (r : Option Nat) (a b c : Int) : ({ selT t L r with rp := a, ro := b, co := c } : Th) = { t with rp := a, ro := b, co := c } := by
  cases r with
  | none => rfl
  | some j =>
    simp only [selT]
    split <;> rfl
theorem selT_some {t : Th} {L : List Po} {k : Nat} {x : Po} (h : L[k]? = some x) : selT t L (some k) = { t with rp := (k : Int), ro := x.hr, co := farI x.hc x.co } := by simp only [selT, h]
theorem selT_ow (t : Th) (L : List Po) (r : Option Nat) : (selT t L r).ow = t.ow := by
  cases r with
  | none => rfl
  | some j =>
    simp only [selT]
    split <;> rfl

set_option maxRecDepth 100000 in
set_option maxHeartbeats 1000000 in
theorem rselect_is (t : Th) (A : Option Addr) (n cap : Nat) (L : List Po) (hL : Hid (L.length = n)) (hf : n ≤ 200) (hb : Hid (∀ x ∈ L, PoB x)) (hu : Hid (Unlike L)) (hc : Hid (A = none → cap = 0)) (w : World) (hp : Hid (PoAt w A w.heap.size L)) :
    Calls Tryz.prog 61 #[.agg (lT t A n cap).toArray] w (TOut w (selectT t L) n L) := by
  obtain ⟨wb, hwb, S⟩ := hs_two w 31 31 (lT t A n cap) [.int .u64 0, .int .u64 0, .int .u32 0, .int .i64 0, .int .i64 0, .int .i64 0, .int .i64 0, .int .i64 0, .int .i64 0, .int .i64 0, .bool false, .bool false, .bool false, .int .i64 0, .bool false, .int .i64 0, .bool false, .int .i64 0, .slice none 0 0]
  go_enter Tryz.func61, Tryz.ntmps61
  go_upto_region 1 with fail
  clear hwb
  obtain ⟨X, hX⟩ : ∃ X, w.heap.size = X := ⟨_, rfl⟩
  rw [hX] at S
  obtain ⟨Y, hY⟩ : ∃ Y, X + 1 = Y := ⟨_, rfl⟩
  rw [hY] at S
  rw [hX]
  rw [hY]
  clear hX hY
  have hp1 := Lib.hid ((hp.out.below S.old (Nat.le_refl _)).wide S.old.size)
  have HC := Lib.hid (rcopied_is t A n cap L hL hf hc wb hp1)
  have hx := S.bk 1 rfl
  go_wp2_with (refine wpList_load_row rfl 31 _ rfl X rfl _ _ (0, 0) _ hx Tryz.underlying31 rfl (by kernel_rfl) ?_)
  (with_reducible refine HC.out.mono ?_); rintro e w1 ⟨D, cap', rfl, hz, k1⟩
  have S1 := TS.take S k1
  have HZ := Lib.hid hz
  clear S hx HC hp1 k1 hz
  have hx := S1.hs.bk 1 rfl
  go_upto_region 2 with (refine wpList_store_row rfl 31 _ _ rfl X _ rfl rfl _ _ hx (by kernel_rfl) (by kernel_rfl) (by kernel_rfl) ?_)
  have S2 : TS w [(Y, 31, [.int .u64 0, .int .u64 0, .int .u32 0, .int .i64 0, .int .i64 0, .int .i64 0, .int .i64 0, .int .i64 0, .int .i64 0, .int .i64 0, .bool false, .bool false, .bool false, .int .i64 0, .bool false, .int .i64 0, .bool false, .int .i64 0, .slice none 0 0]), (X, 31, lT t D n cap')] D L _ := S1.row 1 rfl (lT t D n cap')
  generalize w1.setRow X (lT t D n cap').toArray = w2 at S2 ⊢
  clear S1 hx
  have c0 := S2.hs.cell 1 0 rfl rfl
  have c1 := S2.hs.cell 1 1 rfl rfl
  have c2 := S2.hs.cell 1 2 rfl rfl
  have c3 := S2.hs.cell 1 3 rfl rfl
  have f1 := S2.hs.thaw 1 1 rfl
  have f2 := S2.hs.thaw 1 2 rfl
  have f3 := S2.hs.thaw 1 3 rfl
  go_upto_region 3 with fail
  have S3 : TS w [(Y, 31, [.int .u64 0, .int .u64 0, .int .u32 0, .int .i64 0, .int .i64 0, .int .i64 0, .int .i64 0, .int .i64 0, .int .i64 0, .int .i64 0, .bool false, .bool false, .bool false, .int .i64 0, .bool false, .int .i64 0, .bool false, .int .i64 0, .slice none 0 0]), (X, 31, lT (selT t L none) D n cap')] D L _ := ((S2.set 1 rfl 3 (.int .i64 (-1))).set 1 rfl 1 (.int .u64 t.ow)).set 1 rfl 2 (.int .u32 0)
  generalize ((w2.setCell ⟨X, 3, none⟩ (.int .i64 (-1))).setCell ⟨X, 1, none⟩ (.int .u64 t.ow)).setCell ⟨X, 2, none⟩ (.int .u32 0) = w3 at S3 ⊢
  clear S2 c0 c1 c2 c3 f1 f2 f3
  go_wp2
  go_loopw [3] (fun i wr => ∃ (k : Nat) (r : Option Nat), k ≤ n ∧ i = .int .i64 k ∧ Hid (RS t.ow L k r) ∧ TS w [(Y, 31, [.int .u64 0, .int .u64 0, .int .u32 0, .int .i64 0, .int .i64 0, .int .i64 0, .int .i64 0, .int .i64 0, .int .i64 0, .int .i64 0, .bool false, .bool false, .bool false, .int .i64 0, .bool false, .int .i64 0, .bool false, .int .i64 0, .slice none 0 0]), (X, 31, lT (selT t L r) D n cap')] D L wr) (fun i _ => n - (intOf i).toNat)
  case atStart => exact ⟨0, none, Nat.zero_le _, rfl, Lib.hid (fun i h => by omega), S3⟩
  case round =>
    clear S3
    obtain ⟨k, r, hk, rfl, hrs, S⟩ := hrel
    obtain ⟨t', ht'⟩ : ∃ t', selT t L r = t' := ⟨_, rfl⟩
    have HT' := Lib.hid ht'
    have how : Hid (t'.ow = t.ow) := Lib.hid (by rw [← ht', selT_ow])
    rw [ht'] at S
    clear ht'
    have c18 := S.hs.cell 1 18 rfl rfl
    by_cases hkn : k < n
    · obtain ⟨x, hx⟩ := po_at hL.out hkn
      have hki : (k : Int) < (n : Int) := by omega
      have HX := Lib.hid hx
      have hPx := Lib.hid (hb.out x (List.mem_of_getElem? hx))
      clear hx
      obtain ⟨m, hm⟩ : ∃ m, mayB x t.ow = m := ⟨_, rfl⟩
      have HM := Lib.hid hm
      have hm' : Hid (mayB x t'.ow = m) := Lib.hid (by rw [how.out, hm])
      clear hm
      go_upto_region 6 with fail
      have HR := Lib.hid (rmay_is t' D n cap' L hL k x HX m hm' wr (Lib.hid S.ports))
      have hx := S.hs.bk 1 rfl
      go_wp2_with (with_reducible refine wpList_load_row rfl 31 (.tmp 1) rfl X (by kernel_rfl) _ _ (0, 0) _ hx Tryz.underlying31 rfl (by kernel_rfl) ?_)
      (with_reducible refine HR.out.mono ?_); rintro e v1 ⟨rfl, b1⟩
      have T1 := S.below b1
      clear S hx HR b1 c18 hki hm'
      go_wp2
      go_loopw [4, 5] (fun b i wr => ∃ (j : Nat) (q : Bool), j ≤ n ∧ i = .int .i64 j ∧ b = .bool q ∧ Hid (TB t.ow L n j k q) ∧ TS w [(Y, 31, [.int .u64 0, .int .u64 0, .int .u32 0, .int .i64 0, .int .i64 0, .int .i64 0, .int .i64 0, .int .i64 0, .int .i64 0, .int .i64 0, .bool false, .bool false, .bool false, .int .i64 0, .bool false, .int .i64 0, .bool false, .int .i64 0, .slice none 0 0]), (X, 31, lT t' D n cap')] D L wr) (fun b i _ => n - (intOf i).toNat)
      case atStart => exact ⟨0, m, Nat.zero_le _, rfl, rfl, Lib.hid (tb_start HX.out HM.out), T1⟩
      case round =>
        clear T1
        obtain ⟨j, q, hj, rfl, rfl, htb, S⟩ := hrel
        have c18 := S.hs.cell 1 18 rfl rfl
        by_cases hjn : j < n
        · have hji : (j : Int) < (n : Int) := by omega
          cases q with
          | false =>
            go_wp2
            rw [HT'.out.symm] at S
            go_roundw
            case rel => exact ⟨k + 1, r, by omega, by go_num, Lib.hid (rs_no hrs.out (by have e := htb.out.2 rfl; rw [← hL.out] at e; exact e)), S⟩
            case measure => simp [intOf]; omega
          | true =>
            obtain ⟨y, hy⟩ := po_at hL.out hjn
            have HY := Lib.hid hy
            have hPy := Lib.hid (hb.out y (List.mem_of_getElem? hy))
            clear hy
            by_cases hjk : j = k
            · have hjk0 : ((j : Int) == (k : Int)) = true := by simp [hjk]
              go_wp2
              go_roundw
              case rel => exact ⟨j + 1, true, hjn, by go_num, rfl, Lib.hid (tb_skip htb.out (.inl hjk)), S⟩
              case measure => simp [intOf]; omega
            · have hjk0 : ((j : Int) == (k : Int)) = false := by simp <;> omega
              obtain ⟨m2, hm2⟩ : ∃ m, mayB y t.ow = m := ⟨_, rfl⟩
              have HM2 := Lib.hid hm2
              have hm2' : Hid (mayB y t'.ow = m2) := Lib.hid (by rw [how.out, hm2])
              clear hm2
              have HR := Lib.hid (rmay_is t' D n cap' L hL j y HY m2 hm2' wr (Lib.hid S.ports))
              have hx := S.hs.bk 1 rfl
              go_upto_region 10 with fail
              go_wp2_with (with_reducible refine wpList_load_rowG (by kernel_rfl) 31 (.tmp 1) rfl X (by kernel_rfl) _ _ (0, 0) _ hx Tryz.underlying31 rfl (by kernel_rfl) ?_)
              (with_reducible refine HR.out.mono ?_); rintro e v2 ⟨rfl, b2⟩
              have T2 := S.below b2
              clear S hx HR b2 c18 hm2'
              cases m2 with
              | false =>
                go_wp2
                go_roundw
                case rel => exact ⟨j + 1, true, hjn, by go_num, rfl, Lib.hid (tb_skip htb.out (.inr (fun z hz => by rw [HY.out] at hz; cases hz; exact HM2.out))), T2⟩
                case measure => simp [intOf]; omega
              | true =>
                go_upto_region 11 with fail
                obtain ⟨ad, hA⟩ := T2.ports.some HX.out
                have HA := Lib.hid hA
                have HP := Lib.hid T2.ports
                have hki : (k : Int) < (n : Int) := by omega
                have hkz : ¬ (n : Int) ≤ (k : Int) := by omega
                have hjz : ¬ (n : Int) ≤ (j : Int) := by omega
                have HVX := fun W => Lib.hid (via_r x hPx.out W)
                have HVY := fun W => Lib.hid (via_r y hPy.out W)
                have c18 : ∀ w', Below v2.heap.size v2 w' → w'.cell? ⟨X, 18, none⟩ = some (.slice (some ad) n cap') := fun w' b => by have := (T2.below b).hs.cell 1 18 rfl rfl; rw [hA] at this; exact this
                clear hA
                refine wp_region_held_drew (S := (fun w' => Below v2.heap.size v2 w')) (by kernel_rfl) ((Below.refl _ _).drew) (fun hHeld => ?_)
                refine wpAnyH_take (i := 0) (v := ?_) rfl (by kernel_rfl) (by kernel_rfl) (by kernel_rfl) (fun _ _ _ h => h) (Or.inl ⟨by kernel_rfl, ?_⟩) (by assumption) ?_
                rotate_left
                · intro w' hSw; (try dsimp only at hSw); go_simp; with_reducible rfl
                try simp only [Act.put, List.setIfInBounds_toArray, List.set_cons_succ]
                refine wpAnyH_take (i := 1) (v := ?_) rfl (by kernel_rfl) (by kernel_rfl) (by kernel_rfl) (fun _ _ _ h => h) (Or.inl ⟨by kernel_rfl, ?_⟩) (by assumption) ?_
                rotate_left
                · intro w' hSw; (try dsimp only at hSw); have c0 := c18 _ hSw; go_simp; with_reducible rfl
                try simp only [Act.put, List.setIfInBounds_toArray, List.set_cons_succ]
                refine wpAnyH_take (i := 2) (v := ?_) rfl (by kernel_rfl) (by kernel_rfl) (by kernel_rfl) (fun _ _ _ h => h) (Or.inl ⟨by kernel_rfl, ?_⟩) (by assumption) ?_
                rotate_left
                · intro w' hSw; (try dsimp only at hSw); go_simp; with_reducible rfl
                try simp only [Act.put, List.setIfInBounds_toArray, List.set_cons_succ]
                refine wpAnyH_take (i := 3) (v := ?_) rfl (by kernel_rfl) (by kernel_rfl) (by kernel_rfl) (fun _ _ _ h => h) (Or.inl ⟨by kernel_rfl, ?_⟩) (by assumption) ?_
                rotate_left
                · intro w' hSw; (try dsimp only at hSw); go_simp; with_reducible rfl
                try simp only [Act.put, List.setIfInBounds_toArray, List.set_cons_succ]
                refine wpAnyH_take (i := 4) (v := _) rfl (by kernel_rfl) (by kernel_rfl) (by kernel_rfl) (fun _ _ _ h => h) (Or.inl ⟨by kernel_rfl, fun w' hSw => exec_load_at 63 _ rfl (ad.add (k * 15)) (by kernel_rfl) _ _ ((HP.out.below hSw (Nat.le_refl _)).at HX.out HA.out) Tryz.underlying63 rfl (by kernel_rfl)⟩) (by assumption) ?_
                try simp only [Act.put, List.setIfInBounds_toArray, List.set_cons_succ]
                refine wpAnyH_take (i := 6) (v := ?_) rfl (by kernel_rfl) (by kernel_rfl) (by kernel_rfl) (fun _ _ _ h => h) (Or.inl ⟨by kernel_rfl, ?_⟩) (by assumption) ?_
                rotate_left
                · intro w' hSw; (try dsimp only at hSw); go_simp; with_reducible rfl
                try simp only [Act.put, List.setIfInBounds_toArray, List.set_cons_succ]
                refine wpAnyH_take (i := 7) (v := ?_) rfl (by kernel_rfl) (by kernel_rfl) (by kernel_rfl) (fun _ _ _ h => h) (Or.inl ⟨by kernel_rfl, ?_⟩) (by assumption) ?_
                rotate_left
                · intro w' hSw; (try dsimp only at hSw); have c0 := c18 _ hSw; go_simp; with_reducible rfl
                try simp only [Act.put, List.setIfInBounds_toArray, List.set_cons_succ]
                refine wpAnyH_take (i := 8) (v := ?_) rfl (by kernel_rfl) (by kernel_rfl) (by kernel_rfl) (fun _ _ _ h => h) (Or.inl ⟨by kernel_rfl, ?_⟩) (by assumption) ?_
                rotate_left
                · intro w' hSw; (try dsimp only at hSw); go_simp; with_reducible rfl
                try simp only [Act.put, List.setIfInBounds_toArray, List.set_cons_succ]
                refine wpAnyH_take (i := 9) (v := ?_) rfl (by kernel_rfl) (by kernel_rfl) (by kernel_rfl) (fun _ _ _ h => h) (Or.inl ⟨by kernel_rfl, ?_⟩) (by assumption) ?_
                rotate_left
                · intro w' hSw; (try dsimp only at hSw); go_simp; with_reducible rfl
                try simp only [Act.put, List.setIfInBounds_toArray, List.set_cons_succ]
                refine wpAnyH_take (i := 10) (v := _) rfl (by kernel_rfl) (by kernel_rfl) (by kernel_rfl) (fun _ _ _ h => h) (Or.inl ⟨by kernel_rfl, fun w' hSw => exec_load_at 63 _ rfl (ad.add (j * 15)) (by kernel_rfl) _ _ ((HP.out.below hSw (Nat.le_refl _)).at HY.out HA.out) Tryz.underlying63 rfl (by kernel_rfl)⟩) (by assumption) ?_
                try simp only [Act.put, List.getElem_toArray, List.getElem_cons_succ, List.getElem_cons_zero, List.setIfInBounds_toArray, List.set_cons_succ]
                refine wpAnyH_by4 49 55 6 7 (fun f z1 z2 z3 z4 w' => ValF f 5 (.agg ([.int .u64 (thruV x).r, .int .u32 (thruV x).c, .int .u64 (thruV x).b, .int .u16 (thruV x).p] : List Value).toArray) z1 ∧ ValF f 11 (.agg ([.int .u64 (thruV y).r, .int .u32 (thruV y).c, .int .u64 (thruV y).b, .int .u16 (thruV y).p] : List Value).toArray) z2 ∧ BoxF f 12 14 130 4 v2.heap.size w' z3 z1 ∧ BoxF f 13 15 130 4 v2.heap.size w' z4 z2 ∧ (f 12 = true → f 13 = true → z3 ≠ z4) ∧ (∀ s ∈ ([14, 15] : List Nat), f s = true → ∀ c ∈ ([5, 11, 12, 13] : List Nat), f c = true) ∧ (f 11 = true → f 5 = true)) (by kernel_rfl) [5, 11, 12, 13, 14, 15] (by kernel_rfl) (by kernel_rfl) (by kernel_rfl) (by kernel_rfl) hHeld ⟨(off_imp rfl), (off_imp rfl), (BoxF.off rfl), (BoxF.off rfl), (off_imp rfl), (by intro s hs e; simp only [List.mem_cons, List.not_mem_nil, or_false] at hs; rcases hs with rfl | rfl <;> cases e), (off_imp rfl)⟩ ?_ ?_
                rotate_left
                refine StepsI.cons4 rfl (fun f z1 z2 z3 z4 w5 h1 h2 hS hJ => ?_) ?_
                · have c0 := hJ.1
                  have c1 := hJ.2.1
                  have b0 := hJ.2.2.1
                  have b1 := hJ.2.2.2.1
                  have q01 := hJ.2.2.2.2.1
                  have hn := hJ.2.2.2.2.2.1
                  have r1 := hJ.2.2.2.2.2.2
                  clear hJ
                  intro K hK
                  try simp only [puts4]
                  try simp only [Act.put, List.getElem_toArray, List.getElem_cons_succ, List.getElem_cons_zero, List.setIfInBounds_toArray, List.set_cons_succ, List.set_cons_zero]
                  go_simp
                  (with_reducible refine (HVX _).out.mono ?_); rintro e w6 ⟨rfl, b6⟩
                  refine hK.out (.agg ([.int .u64 (thruV x).r, .int .u32 (thruV x).c, .int .u64 (thruV x).b, .int .u16 (thruV x).p] : List Value).toArray) z2 z3 z4 _ w6 ?_ (by kernel_rfl) ?_
                  · exact hS.trans (b6.mono hS.size)
                  refine ⟨?_, ?_, ?_, ?_, ?_, ?_, ?_⟩
                  · exact fun _ => rfl
                  · exact (c1.up (by decide))
                  · exact ((BoxF.val b0 (no_store hn (by decide) h1 14 (by decide))).up (by decide) (by decide)).below b6
                  · exact (b1.up (by decide) (by decide)).below b6
                  · exact fun e => upB_imp (upB_imp q01 (by decide) e) (by decide)
                  · exact store_up hn (by decide) h1 (by decide)
                  · exact fun _ => upB_self _ _
                refine StepsI.cons4 rfl (fun f z1 z2 z3 z4 w5 h1 h2 hS hJ => ?_) ?_
                · have c0 := hJ.1
                  have c1 := hJ.2.1
                  have b0 := hJ.2.2.1
                  have b1 := hJ.2.2.2.1
                  have q01 := hJ.2.2.2.2.1
                  have hn := hJ.2.2.2.2.2.1
                  have r1 := hJ.2.2.2.2.2.2
                  clear hJ
                  intro K hK
                  try simp only [puts4]
                  try simp only [Act.put, List.getElem_toArray, List.getElem_cons_succ, List.getElem_cons_zero, List.setIfInBounds_toArray, List.set_cons_succ, List.set_cons_zero]
                  go_simp
                  (with_reducible refine (HVY _).out.mono ?_); rintro e w6 ⟨rfl, b6⟩
                  refine hK.out z1 (.agg ([.int .u64 (thruV y).r, .int .u32 (thruV y).c, .int .u64 (thruV y).b, .int .u16 (thruV y).p] : List Value).toArray) z3 z4 _ w6 ?_ (by kernel_rfl) ?_
                  · exact hS.trans (b6.mono hS.size)
                  refine ⟨?_, ?_, ?_, ?_, ?_, ?_, ?_⟩
                  · exact (c0.up (by decide))
                  · exact fun _ => rfl
                  · exact (b0.up (by decide) (by decide)).below b6
                  · exact ((BoxF.val b1 (no_store hn (by decide) h1 15 (by decide))).up (by decide) (by decide)).below b6
                  · exact fun e => upB_imp (upB_imp q01 (by decide) e) (by decide)
                  · exact store_up hn (by decide) h1 (by decide)
                  · exact fun _ => by rw [upB_ne _ (by decide)]; exact after_at h2 5 (by kernel_rfl)
                refine StepsI.cons4 rfl (fun f z1 z2 z3 z4 w5 h1 h2 hS hJ => ?_) ?_
                · have c0 := hJ.1
                  have c1 := hJ.2.1
                  have b0 := hJ.2.2.1
                  have b1 := hJ.2.2.2.1
                  have q01 := hJ.2.2.2.2.1
                  have hn := hJ.2.2.2.2.2.1
                  have r1 := hJ.2.2.2.2.2.2
                  clear hJ
                  intro K hK
                  try simp only [puts4]
                  try simp only [Act.put, List.getElem_toArray, List.getElem_cons_succ, List.getElem_cons_zero, List.setIfInBounds_toArray, List.set_cons_succ, List.set_cons_zero]
                  go_simp
                  have b6 := new_below w5 (.cells ([.int .u64 0, .int .u32 0, .int .u64 0, .int .u16 0] : List Value).toArray 130)
                  refine hK.out z1 z2 (.pointer (some ⟨w5.heap.size, 0, none⟩)) z4 _ (w5.alloc (.cells ([.int .u64 0, .int .u32 0, .int .u64 0, .int .u16 0] : List Value).toArray 130)) ?_ (by kernel_rfl) ?_
                  · exact hS.trans (b6.mono hS.size)
                  refine ⟨?_, ?_, ?_, ?_, ?_, ?_, ?_⟩
                  · exact (c0.up (by decide))
                  · exact (c1.up (by decide))
                  · exact BoxF.new (j := 12) (s := 14) (no_store hn (by decide) h1 14 (by decide)) (by decide) hS.size [.int .u64 0, .int .u32 0, .int .u64 0, .int .u16 0] rfl
                  · exact (b1.up (by decide) (by decide)).below b6
                  · exact fun _ e => (b1.ne (by rwa [upB_ne _ (by decide)] at e)).symm
                  · exact store_up hn (by decide) h1 (by decide)
                  · exact fun e => by rw [upB_ne _ (by decide)] at e ⊢; exact r1 e
                refine StepsI.cons4 rfl (fun f z1 z2 z3 z4 w5 h1 h2 hS hJ => ?_) ?_
                · have c0 := hJ.1
                  have c1 := hJ.2.1
                  have b0 := hJ.2.2.1
                  have b1 := hJ.2.2.2.1
                  have q01 := hJ.2.2.2.2.1
                  have hn := hJ.2.2.2.2.2.1
                  have r1 := hJ.2.2.2.2.2.2
                  clear hJ
                  intro K hK
                  try simp only [puts4]
                  try simp only [Act.put, List.getElem_toArray, List.getElem_cons_succ, List.getElem_cons_zero, List.setIfInBounds_toArray, List.set_cons_succ, List.set_cons_zero]
                  go_simp
                  have b6 := new_below w5 (.cells ([.int .u64 0, .int .u32 0, .int .u64 0, .int .u16 0] : List Value).toArray 130)
                  refine hK.out z1 z2 z3 (.pointer (some ⟨w5.heap.size, 0, none⟩)) _ (w5.alloc (.cells ([.int .u64 0, .int .u32 0, .int .u64 0, .int .u16 0] : List Value).toArray 130)) ?_ (by kernel_rfl) ?_
                  · exact hS.trans (b6.mono hS.size)
                  refine ⟨?_, ?_, ?_, ?_, ?_, ?_, ?_⟩
                  · exact (c0.up (by decide))
                  · exact (c1.up (by decide))
                  · exact (b0.up (by decide) (by decide)).below b6
                  · exact BoxF.new (j := 13) (s := 15) (no_store hn (by decide) h1 15 (by decide)) (by decide) hS.size [.int .u64 0, .int .u32 0, .int .u64 0, .int .u16 0] rfl
                  · exact fun e _ => b0.ne (by rwa [upB_ne _ (by decide)] at e)
                  · exact store_up hn (by decide) h1 (by decide)
                  · exact fun e => by rw [upB_ne _ (by decide)] at e ⊢; exact r1 e
                refine StepsI.store4 rfl 130 (.tmp 6) (.tmp 49) (by kernel_rfl) (by kernel_rfl) (by kernel_rfl) (fun f z1 z2 z3 z4 w5 h1 h2 hS hJ => ?_) ?_
                · have c0 := hJ.1
                  have c1 := hJ.2.1
                  have b0 := hJ.2.2.1
                  have b1 := hJ.2.2.2.1
                  have q01 := hJ.2.2.2.2.1
                  have hn := hJ.2.2.2.2.2.1
                  have r1 := hJ.2.2.2.2.2.2
                  clear hJ
                  have hall : ∀ c ∈ ([5, 11, 12, 13] : List Nat), f c = true := by
                    intro c hc
                    simp only [List.mem_cons, List.not_mem_nil, or_false] at hc
                    rcases hc with rfl | rfl | rfl | rfl
                    · exact (r1 (after_at h2 11 (by kernel_rfl)))
                    · exact (after_at h2 11 (by kernel_rfl))
                    · exact after_at h2 12 (by kernel_rfl)
                    · exact after_at h2 13 (by kernel_rfl)
                  obtain ⟨g, cs, hg1, hg2, hg3, hg4, -⟩ := b0 (hall 12 (by decide))
                  have hv := c0 (hall 5 (by decide))
                  subst hv
                  subst hg1
                  refine ⟨g, [.int .u64 (thruV x).r, .int .u32 (thruV x).c, .int .u64 (thruV x).b, .int .u16 (thruV x).p], cs, by kernel_rfl, by kernel_rfl, hg3, hg4.trans rfl, by kernel_rfl, by kernel_rfl, below_setRow hS hg2 _, ?_⟩
                  refine ⟨?_, ?_, ?_, ?_, ?_, ?_, ?_⟩
                  · exact (c0.up (by decide))
                  · exact (c1.up (by decide))
                  · exact BoxF.fill hg2 hg3 rfl rfl
                  · exact (b1.up (by decide) (by decide)).far (fun e => q01 (hall 12 (by decide)) (hall 13 (by decide)) e.symm)
                  · exact fun e => upB_imp (upB_imp q01 (by decide) e) (by decide)
                  · exact store_at hall (by decide)
                  · exact fun e => by rw [upB_ne _ (by decide)] at e ⊢; exact r1 e
                refine StepsI.store4 rfl 130 (.tmp 7) (.tmp 55) (by kernel_rfl) (by kernel_rfl) (by kernel_rfl) (fun f z1 z2 z3 z4 w5 h1 h2 hS hJ => ?_) ?_
                · have c0 := hJ.1
                  have c1 := hJ.2.1
                  have b0 := hJ.2.2.1
                  have b1 := hJ.2.2.2.1
                  have q01 := hJ.2.2.2.2.1
                  have hn := hJ.2.2.2.2.2.1
                  have r1 := hJ.2.2.2.2.2.2
                  clear hJ
                  have hall : ∀ c ∈ ([5, 11, 12, 13] : List Nat), f c = true := by
                    exact hn 14 (by decide) (after_at h2 14 (by kernel_rfl))
                  obtain ⟨g, cs, hg1, hg2, hg3, hg4, -⟩ := b1 (hall 13 (by decide))
                  have hv := c1 (hall 11 (by decide))
                  subst hv
                  subst hg1
                  refine ⟨g, [.int .u64 (thruV y).r, .int .u32 (thruV y).c, .int .u64 (thruV y).b, .int .u16 (thruV y).p], cs, by kernel_rfl, by kernel_rfl, hg3, hg4.trans rfl, by kernel_rfl, by kernel_rfl, below_setRow hS hg2 _, ?_⟩
                  refine ⟨?_, ?_, ?_, ?_, ?_, ?_, ?_⟩
                  · exact (c0.up (by decide))
                  · exact (c1.up (by decide))
                  · exact (b0.up (by decide) (by decide)).far (q01 (hall 12 (by decide)) (hall 13 (by decide)))
                  · exact BoxF.fill hg2 hg3 rfl rfl
                  · exact fun e => upB_imp (upB_imp q01 (by decide) e) (by decide)
                  · exact store_at hall (by decide)
                  · exact fun e => by rw [upB_ne _ (by decide)] at e ⊢; exact r1 e
                exact StepsI.nil
                intro f z1 z2 z3 z4 w5 hall hS hJ
                obtain ⟨c0, c1, b0, b1, q01, hn, r1⟩ := hJ
                have e5 : f 5 = true := hall 5 (Nat.le_of_ble_eq_true (by kernel_rfl))
                have e11 : f 11 = true := hall 11 (Nat.le_of_ble_eq_true (by kernel_rfl))
                have e12 : f 12 = true := hall 12 (Nat.le_of_ble_eq_true (by kernel_rfl))
                have e13 : f 13 = true := hall 13 (Nat.le_of_ble_eq_true (by kernel_rfl))
                have e14 : f 14 = true := hall 14 (Nat.le_of_ble_eq_true (by kernel_rfl))
                have e15 : f 15 = true := hall 15 (Nat.le_of_ble_eq_true (by kernel_rfl))
                have i1 := c0 e5
                have i2 := c1 e11
                obtain ⟨g1, cs1, hp1, -, hk1, -, hv1⟩ := b0 e12
                obtain ⟨g2, cs2, hp2, -, hk2, -, hv2⟩ := b1 e13
                have hv1 := hv1 e14
                have hv2 := hv2 e15
                rw [i1] at hv1
                rw [i2] at hv2
                have hc1 : cs1 = [.int .u64 (thruV x).r, .int .u32 (thruV x).c, .int .u64 (thruV x).b, .int .u16 (thruV x).p] := by injection hv1 with q; injection q with q; exact q.symm
                have hc2 : cs2 = [.int .u64 (thruV y).r, .int .u32 (thruV y).c, .int .u64 (thruV y).b, .int .u16 (thruV y).p] := by injection hv2 with q; injection q with q; exact q.symm
                subst hc1 hc2 i1 i2 hp1 hp2
                have T3 := T2.below hS
                have bl1 : ∀ v, (∃ q : LaterW w5, v = q.w') → v.heap[g1]? = some (.cells (_ : Array Value) 130 (0, 0)) := fun v ⟨q, e⟩ => e ▸ hk1.below q.h hk1.lt
                have bl2 : ∀ v, (∃ q : LaterW w5, v = q.w') → v.heap[g2]? = some (.cells (_ : Array Value) 130 (0, 0)) := fun v ⟨q, e⟩ => e ▸ hk2.below q.h hk2.lt
                have c18 : ∀ q : LaterW w5, q.w'.cell? ⟨X, 18, none⟩ = some (.slice (some ad) n cap') := fun q => by have := (T3.below q.h).hs.cell 1 18 rfl rfl; rw [HA.out] at this; exact this
                have ki : ∀ q : LaterW w5, q.w'.cell? (ad.add (k * 15)) = some (.int .u16 x.id) := fun q => by obtain ⟨a', e, -, h0, -⟩ := ((T3.below q.h).ports).cells HX.out; obtain rfl : ad = a' := Option.some.inj (HA.out.symm.trans e); exact h0
                have kj : ∀ q : LaterW w5, q.w'.cell? (ad.add (j * 15)) = some (.int .u16 y.id) := fun q => by obtain ⟨a', e, -, h0, -⟩ := ((T3.below q.h).ports).cells HY.out; obtain rfl : ad = a' := Option.some.inj (HA.out.symm.trans e); exact h0
                clear b0 b1 q01 hn r1 c0 c1 hall e5 e11 e12 e13 e14 e15 hv1 hv2 hk1 hk2 hHeld HVX HVY hS T2 HP
                obtain ⟨l1, hl1⟩ : ∃ l, lessB (thruV y) (thruV x) = l := ⟨_, rfl⟩
                obtain ⟨l2, hl2⟩ : ∃ l, lessB (thruV x) (thruV y) = l := ⟨_, rfl⟩
                obtain ⟨p3, hp3⟩ : ∃ p, decide (y.id < x.id) = p := ⟨_, rfl⟩
                have HB := Lib.hid (show betterB y x = (l1 || (!l2 && p3)) by rw [betterB_ref, hl1, hl2, hp3])
                have HL1 := fun q : LaterW w5 => Lib.hid (less_is (thruV y) (thruV x) l1 (Lib.hid hl1) q.w')
                have HL2 := fun q : LaterW w5 => Lib.hid (less_is (thruV x) (thruV y) l2 (Lib.hid hl2) q.w')
                clear hl1 hl2
                simp only [puts4, Act.put, List.getElem_toArray, List.getElem_cons_succ, List.getElem_cons_zero, List.setIfInBounds_toArray, List.set_cons_succ, List.set_cons_zero]
                go_upto_region 12 with fail
                cases l1 with
                | true =>
                  refine region_later mixedL (by kernel_rfl) ?_
                  (refine BigFrame.wpQuiet_want (by kernel_rfl) (fun K hK => ?_); refine quiet_load_row 130 _ rfl g2 (by kernel_rfl) _ _ (0, 0) _ (bl2) Tryz.underlying130 rfl (by kernel_rfl) ?_; refine hK _ ?_; clear hK; go_simp)
                  (refine BigFrame.wpQuiet_want (by kernel_rfl) (fun K hK => ?_); refine quiet_load_row 130 _ rfl g1 (by kernel_rfl) _ _ (0, 0) _ (bl1) Tryz.underlying130 rfl (by kernel_rfl) ?_; refine hK _ ?_; clear hK; go_simp)
                  go_big_quiet_step ((go_at_call 93; with_reducible exact Calls.later (HL1 _).out))
                  repeat (go_big_quiet_step (fail))
                  refine wpQuiet_nil ?_
                  intro r
                  have T4 := T3.below r.h
                  generalize r.w' = w7 at T4 ⊢
                  clear T3 HL1 HL2 bl1 bl2 ki kj c18
                  go_wp2
                  go_roundw
                  case rel => exact ⟨j + 1, false, hjn, by go_num, rfl, Lib.hid (tb_next htb.out HX.out HY.out HM2.out hjk hjn HB.out), T4⟩
                  case measure => simp [intOf]; omega
                | false =>
                  cases l2 with
                  | true =>
                    refine region_later mixedL (by kernel_rfl) ?_
                    (refine BigFrame.wpQuiet_want (by kernel_rfl) (fun K hK => ?_); refine quiet_load_row 130 _ rfl g2 (by kernel_rfl) _ _ (0, 0) _ (bl2) Tryz.underlying130 rfl (by kernel_rfl) ?_; refine hK _ ?_; clear hK; go_simp)
                    (refine BigFrame.wpQuiet_want (by kernel_rfl) (fun K hK => ?_); refine quiet_load_row 130 _ rfl g1 (by kernel_rfl) _ _ (0, 0) _ (bl1) Tryz.underlying130 rfl (by kernel_rfl) ?_; refine hK _ ?_; clear hK; go_simp)
                    go_big_quiet_step ((go_at_call 93; with_reducible exact Calls.later (HL1 _).out))
                    go_big_quiet_step (fail)
                    (refine BigFrame.wpQuiet_want (by kernel_rfl) (fun K hK => ?_); refine quiet_load_row 130 _ rfl g1 (by kernel_rfl) _ _ (0, 0) _ (bl1) Tryz.underlying130 rfl (by kernel_rfl) ?_; refine hK _ ?_; clear hK; go_simp)
                    (refine BigFrame.wpQuiet_want (by kernel_rfl) (fun K hK => ?_); refine quiet_load_row 130 _ rfl g2 (by kernel_rfl) _ _ (0, 0) _ (bl2) Tryz.underlying130 rfl (by kernel_rfl) ?_; refine hK _ ?_; clear hK; go_simp)
                    go_big_quiet_step ((go_at_call 93; with_reducible exact Calls.later (HL2 _).out))
                    repeat (go_big_quiet_step (fail))
                    refine wpQuiet_nil ?_
                    intro r
                    have T4 := T3.below r.h
                    generalize r.w' = w7 at T4 ⊢
                    clear T3 HL1 HL2 bl1 bl2 ki kj c18
                    go_wp2
                    go_roundw
                    case rel => exact ⟨j + 1, true, hjn, by go_num, rfl, Lib.hid (tb_next htb.out HX.out HY.out HM2.out hjk hjn HB.out), T4⟩
                    case measure => simp [intOf]; omega
                  | false =>
                    cases p3 with
                    | true =>
                      refine region_later mixedL (by kernel_rfl) ?_
                      (refine BigFrame.wpQuiet_want (by kernel_rfl) (fun K hK => ?_); refine quiet_load_row 130 _ rfl g2 (by kernel_rfl) _ _ (0, 0) _ (bl2) Tryz.underlying130 rfl (by kernel_rfl) ?_; refine hK _ ?_; clear hK; go_simp)
                      (refine BigFrame.wpQuiet_want (by kernel_rfl) (fun K hK => ?_); refine quiet_load_row 130 _ rfl g1 (by kernel_rfl) _ _ (0, 0) _ (bl1) Tryz.underlying130 rfl (by kernel_rfl) ?_; refine hK _ ?_; clear hK; go_simp)
                      go_big_quiet_step ((go_at_call 93; with_reducible exact Calls.later (HL1 _).out))
                      go_big_quiet_step (fail)
                      (refine BigFrame.wpQuiet_want (by kernel_rfl) (fun K hK => ?_); refine quiet_load_row 130 _ rfl g1 (by kernel_rfl) _ _ (0, 0) _ (bl1) Tryz.underlying130 rfl (by kernel_rfl) ?_; refine hK _ ?_; clear hK; go_simp)
                      (refine BigFrame.wpQuiet_want (by kernel_rfl) (fun K hK => ?_); refine quiet_load_row 130 _ rfl g2 (by kernel_rfl) _ _ (0, 0) _ (bl2) Tryz.underlying130 rfl (by kernel_rfl) ?_; refine hK _ ?_; clear hK; go_simp)
                      go_big_quiet_step ((go_at_call 93; with_reducible exact Calls.later (HL2 _).out))
                      repeat (go_big_quiet_step (fail))
                      refine wpQuiet_nil ?_
                      intro r
                      have T4 := T3.below r.h
                      generalize r.w' = w7 at T4 ⊢
                      clear T3 HL1 HL2 bl1 bl2 ki kj c18
                      go_wp2
                      go_roundw
                      case rel => exact ⟨j + 1, false, hjn, by go_num, rfl, Lib.hid (tb_next htb.out HX.out HY.out HM2.out hjk hjn HB.out), T4⟩
                      case measure => simp [intOf]; omega
                    | false =>
                      refine region_later mixedL (by kernel_rfl) ?_
                      (refine BigFrame.wpQuiet_want (by kernel_rfl) (fun K hK => ?_); refine quiet_load_row 130 _ rfl g2 (by kernel_rfl) _ _ (0, 0) _ (bl2) Tryz.underlying130 rfl (by kernel_rfl) ?_; refine hK _ ?_; clear hK; go_simp)
                      (refine BigFrame.wpQuiet_want (by kernel_rfl) (fun K hK => ?_); refine quiet_load_row 130 _ rfl g1 (by kernel_rfl) _ _ (0, 0) _ (bl1) Tryz.underlying130 rfl (by kernel_rfl) ?_; refine hK _ ?_; clear hK; go_simp)
                      go_big_quiet_step ((go_at_call 93; with_reducible exact Calls.later (HL1 _).out))
                      go_big_quiet_step (fail)
                      (refine BigFrame.wpQuiet_want (by kernel_rfl) (fun K hK => ?_); refine quiet_load_row 130 _ rfl g1 (by kernel_rfl) _ _ (0, 0) _ (bl1) Tryz.underlying130 rfl (by kernel_rfl) ?_; refine hK _ ?_; clear hK; go_simp)
                      (refine BigFrame.wpQuiet_want (by kernel_rfl) (fun K hK => ?_); refine quiet_load_row 130 _ rfl g2 (by kernel_rfl) _ _ (0, 0) _ (bl2) Tryz.underlying130 rfl (by kernel_rfl) ?_; refine hK _ ?_; clear hK; go_simp)
                      go_big_quiet_step ((go_at_call 93; with_reducible exact Calls.later (HL2 _).out))
                      repeat (go_big_quiet_step (fail))
                      refine wpQuiet_nil ?_
                      intro r
                      have T4 := T3.below r.h
                      generalize r.w' = w7 at T4 ⊢
                      clear T3 HL1 HL2 bl1 bl2 ki kj c18
                      go_wp2
                      go_roundw
                      case rel => exact ⟨j + 1, true, hjn, by go_num, rfl, Lib.hid (tb_next htb.out HX.out HY.out HM2.out hjk hjn HB.out), T4⟩
                      case measure => simp [intOf]; omega
        · have hji : ¬ (j : Int) < (n : Int) := by omega
          cases q with
          | false =>
            go_wp2
            rw [HT'.out.symm] at S
            go_roundw
            case rel => exact ⟨k + 1, r, by omega, by go_num, Lib.hid (rs_no hrs.out (by have e := htb.out.2 rfl; rw [← hL.out] at e; exact e)), S⟩
            case measure => simp [intOf]; omega
          | true =>
            have hje : j = n := by omega
            have hTop := Lib.hid (htb.out.1 rfl)
            rw [hje, ← hL.out] at hTop
            clear hje hji htb
            have hki : (k : Int) < (n : Int) := by omega
            have hkz : ¬ (n : Int) ≤ (k : Int) := by omega
            have c3 := S.hs.cell 1 3 rfl rfl
            have f3 := S.hs.thaw 1 3 rfl
            go_upto_region 16 with fail
            have S3 : TS w [(Y, 31, [.int .u64 0, .int .u64 0, .int .u32 0, .int .i64 0, .int .i64 0, .int .i64 0, .int .i64 0, .int .i64 0, .int .i64 0, .int .i64 0, .bool false, .bool false, .bool false, .int .i64 0, .bool false, .int .i64 0, .bool false, .int .i64 0, .slice none 0 0]), (X, 31, lT { t' with rp := (k : Int) } D n cap')] D L _ := S.set 1 rfl 3 (.int .i64 k)
            generalize wr.setCell ⟨X, 3, none⟩ (.int .i64 k) = v3 at S3 ⊢
            clear S c3 f3 c18
            obtain ⟨ad, hA⟩ := S3.ports.some HX.out
            have HA := Lib.hid hA
            have hne := S3.apart HX.out hA 1 rfl
            obtain ⟨a', e', hab, h0, h1⟩ := S3.ports.cells HX.out
            obtain rfl : ad = a' := Option.some.inj (hA.symm.trans e')
            have h3 : v3.cell? ⟨(ad.add (k * 15)).block, (ad.add (k * 15)).off + 3, none⟩ = some (.int .u64 x.hr) := h1 2 _ rfl
            have c18 := S3.hs.cell 1 18 rfl rfl
            rw [hA] at c18
            have c1 := S3.hs.cell 1 1 rfl rfl
            have f1 := S3.hs.thaw 1 1 rfl
            clear h0 h1 hA e'
            go_upto_region 17 with fail
            have S4 : TS w [(Y, 31, [.int .u64 0, .int .u64 0, .int .u32 0, .int .i64 0, .int .i64 0, .int .i64 0, .int .i64 0, .int .i64 0, .int .i64 0, .int .i64 0, .bool false, .bool false, .bool false, .int .i64 0, .bool false, .int .i64 0, .bool false, .int .i64 0, .slice none 0 0]), (X, 31, lT { t' with rp := (k : Int), ro := x.hr } D n cap')] D L _ := S3.set 1 rfl 1 (.int .u64 x.hr)
            generalize v3.setCell ⟨X, 1, none⟩ (.int .u64 x.hr) = v4 at S4 ⊢
            clear S3 c1 f1 c18 h3
            obtain ⟨a', e', -, h0, h1⟩ := S4.ports.cells HX.out
            obtain rfl : ad = a' := Option.some.inj (HA.out.symm.trans e')
            have h4 : v4.cell? ⟨(ad.add (k * 15)).block, (ad.add (k * 15)).off + 3 + 1, none⟩ = some (.int .u32 x.hc) := h1 3 _ rfl
            have h2 : v4.cell? ⟨(ad.add (k * 15)).block, (ad.add (k * 15)).off + 2, none⟩ = some (.int .u32 x.co) := h1 1 _ rfl
            have c18 := S4.hs.cell 1 18 rfl rfl
            rw [HA.out] at c18
            have c2 := S4.hs.cell 1 2 rfl rfl
            have f2 := S4.hs.thaw 1 2 rfl
            have HF := fun W => Lib.hid (rfar_is x.hc x.co (by have := hPx.out; unfold PoB at this; omega) (by have := hPx.out; unfold PoB at this; omega) (by have := hPx.out; unfold PoB at this; omega) (by have := hPx.out; unfold PoB at this; omega) W)
            have hne' : X ≠ (ad.add (k * 15)).block := by rw [Go.Proofs.YtnmnihlhcokjpaaGreatDoor.add_block]; exact hne
            clear h0 h1 e' hne hab
            refine wp_region_held_drew (S := (fun w' => w'.cell? ⟨X, 18, none⟩ = some (.slice (some ad) n cap') ∧ w'.cell? ⟨(ad.add (k * 15)).block, (ad.add (k * 15)).off + 3 + 1, none⟩ = some (.int .u32 x.hc) ∧ w'.cell? ⟨(ad.add (k * 15)).block, (ad.add (k * 15)).off + 2, none⟩ = some (.int .u32 x.co))) (by kernel_rfl) ⟨c18, h4, h2⟩ (fun hHeld => ?_)
            refine wpAnyH_take (i := 0) (v := ?_) rfl (by kernel_rfl) (by kernel_rfl) (by kernel_rfl) (fun _ _ _ h => h) (Or.inl ⟨by kernel_rfl, ?_⟩) (by assumption) ?_
            rotate_left
            · intro w hSw; (try dsimp only at hSw); go_simp; with_reducible rfl
            try simp only [Act.put, List.setIfInBounds_toArray, List.set_cons_succ]
            refine wpAnyH_take (i := 1) (v := ?_) rfl (by kernel_rfl) (by kernel_rfl) (by kernel_rfl) (fun _ _ _ h => h) (Or.inl ⟨by kernel_rfl, ?_⟩) (by assumption) ?_
            rotate_left
            · intro w hSw; (try dsimp only at hSw); go_simp; with_reducible rfl
            try simp only [Act.put, List.setIfInBounds_toArray, List.set_cons_succ]
            refine wpAnyH_take (i := 2) (v := ?_) rfl (by kernel_rfl) (by kernel_rfl) (by kernel_rfl) (fun _ _ _ h => h) (Or.inl ⟨by kernel_rfl, ?_⟩) (by assumption) ?_
            rotate_left
            · intro w hSw; (try dsimp only at hSw); go_simp; with_reducible rfl
            try simp only [Act.put, List.setIfInBounds_toArray, List.set_cons_succ]
            refine wpAnyH_take (i := 3) (v := ?_) rfl (by kernel_rfl) (by kernel_rfl) (by kernel_rfl) (fun _ _ _ h => h) (Or.inl ⟨by kernel_rfl, ?_⟩) (by assumption) ?_
            rotate_left
            · intro w hSw; (try dsimp only at hSw); go_simp; with_reducible rfl
            try simp only [Act.put, List.setIfInBounds_toArray, List.set_cons_succ]
            refine wpAnyH_take (i := 4) (v := ?_) rfl (by kernel_rfl) (by kernel_rfl) (by kernel_rfl) (fun _ _ _ h => h) (Or.inl ⟨by kernel_rfl, ?_⟩) (by assumption) ?_
            rotate_left
            · intro w hSw; (try dsimp only at hSw); go_simp; with_reducible rfl
            try simp only [Act.put, List.setIfInBounds_toArray, List.set_cons_succ]
            refine wpAnyH_take (i := 5) (v := ?_) rfl (by kernel_rfl) (by kernel_rfl) (by kernel_rfl) (fun _ _ _ h => h) (Or.inl ⟨by kernel_rfl, ?_⟩) (by assumption) ?_
            rotate_left
            · intro w hSw; (try dsimp only at hSw); go_simp; with_reducible rfl
            try simp only [Act.put, List.setIfInBounds_toArray, List.set_cons_succ]
            refine wpAnyH_take (i := 6) (v := ?_) rfl (by kernel_rfl) (by kernel_rfl) (by kernel_rfl) (fun _ _ _ h => h) (Or.inl ⟨by kernel_rfl, ?_⟩) (by assumption) ?_
            rotate_left
            · intro w hSw; (try dsimp only at hSw); go_simp; with_reducible rfl
            try simp only [Act.put, List.setIfInBounds_toArray, List.set_cons_succ]
            refine wpAnyH_take (i := 7) (v := ?_) rfl (by kernel_rfl) (by kernel_rfl) (by kernel_rfl) (fun _ _ _ h => h) (Or.inl ⟨by kernel_rfl, ?_⟩) (by assumption) ?_
            rotate_left
            · intro w hSw; (try dsimp only at hSw); go_simp; with_reducible rfl
            try simp only [Act.put, List.setIfInBounds_toArray, List.set_cons_succ]
            refine wpAnyH_take (i := 8) (v := ?_) rfl (by kernel_rfl) (by kernel_rfl) (by kernel_rfl) (fun _ _ _ h => h) (Or.inl ⟨by kernel_rfl, ?_⟩) (by assumption) ?_
            rotate_left
            · intro w hSw; (try dsimp only at hSw); go_simp; with_reducible rfl
            try simp only [Act.put, List.setIfInBounds_toArray, List.set_cons_succ]
            refine wpAnyH_take (i := 9) (v := ?_) rfl (by kernel_rfl) (by kernel_rfl) (by kernel_rfl) (fun _ _ _ h => h) (Or.inl ⟨by kernel_rfl, ?_⟩) (by assumption) ?_
            rotate_left
            · intro w hSw; (try dsimp only at hSw); go_simp; with_reducible rfl
            try simp only [Act.put, List.setIfInBounds_toArray, List.set_cons_succ]
            refine wpAnyH_take (i := 10) (v := ?_) rfl (by kernel_rfl) (by kernel_rfl) (by kernel_rfl) (fun _ _ _ h => h) (Or.inl ⟨by kernel_rfl, ?_⟩) (by assumption) ?_
            rotate_left
            · intro w hSw; (try dsimp only at hSw); go_simp; with_reducible rfl
            try simp only [Act.put, List.getElem_toArray, List.getElem_cons_succ, List.getElem_cons_zero, List.setIfInBounds_toArray, List.set_cons_succ]
            refine wpAnyH_take (i := 11) (v := ?_) rfl (by kernel_rfl) (by kernel_rfl) (by kernel_rfl) (fun _ _ _ h => h) (Or.inl ⟨by kernel_rfl, ?_⟩) (by assumption) ?_
            rotate_left
            · intro w hSw; (try dsimp only at hSw); go_simp; with_reducible rfl
            try simp only [Act.put, List.getElem_toArray, List.getElem_cons_succ, List.getElem_cons_zero, List.setIfInBounds_toArray, List.set_cons_succ]
            refine wpAnyH_take (i := 12) (v := ?_) rfl (by kernel_rfl) (by kernel_rfl) (by kernel_rfl) (fun _ _ _ h => h) (Or.inl ⟨by kernel_rfl, ?_⟩) (by assumption) ?_
            rotate_left
            · intro w hSw; (try dsimp only at hSw); go_simp; with_reducible rfl
            try simp only [Act.put, List.getElem_toArray, List.getElem_cons_succ, List.getElem_cons_zero, List.setIfInBounds_toArray, List.set_cons_succ]
            refine wpAnyH_ready (rs := [13]) (by kernel_rfl) (by simp) ?_
            refine AllReadyH.cons rfl (fun K hK => ?_) AllReadyH.nil
            go_simp
            (with_reducible refine (HF _).out.mono ?_); rintro e w5 ⟨rfl, rfl⟩
            refine hK.out _ _ (hHeld) (fun hHeld => ?_)
            clear hK K
            try simp only [Act.put, List.getElem_toArray, List.getElem_cons_succ, List.getElem_cons_zero, List.setIfInBounds_toArray, List.set_cons_succ]
            refine wpAnyH_take (i := 14) (v := ?_) rfl (by kernel_rfl) (by kernel_rfl) (by kernel_rfl) (fun _ _ _ h => h) (Or.inl ⟨by kernel_rfl, ?_⟩) (by assumption) ?_
            rotate_left
            · intro w hSw; (try dsimp only at hSw); go_simp; with_reducible rfl
            try simp only [Act.put, List.getElem_toArray, List.getElem_cons_succ, List.getElem_cons_zero, List.setIfInBounds_toArray, List.set_cons_succ]
            refine wpAnyH_ready (rs := [15]) (by kernel_rfl) (by simp) ?_
            refine AllReadyH.cons rfl (fun K hK => ?_) AllReadyH.nil
            go_simp
            refine hK.out _ _ (⟨(World.cell?_setCell_other _ _ _ _ (by simp)).trans hHeld.1, (World.cell?_setCell_far _ _ _ _ hne').trans hHeld.2.1, (World.cell?_setCell_far _ _ _ _ hne').trans hHeld.2.2⟩) (fun hHeld => ?_)
            clear hK K
            try simp only [Act.put, List.getElem_toArray, List.getElem_cons_succ, List.getElem_cons_zero, List.setIfInBounds_toArray, List.set_cons_succ]
            refine wpAnyH_done (by kernel_rfl) ?_ _
            have S5 : TS w [(Y, 31, [.int .u64 0, .int .u64 0, .int .u32 0, .int .i64 0, .int .i64 0, .int .i64 0, .int .i64 0, .int .i64 0, .int .i64 0, .int .i64 0, .bool false, .bool false, .bool false, .int .i64 0, .bool false, .int .i64 0, .bool false, .int .i64 0, .slice none 0 0]), (X, 31, lT { t' with rp := (k : Int), ro := x.hr, co := farI x.hc x.co } D n cap')] D L _ := S4.set 1 rfl 2 (.int .u32 (farI x.hc x.co))
            have e2 : ({ t' with rp := (k : Int), ro := x.hr, co := farI x.hc x.co } : Th) = selT t L (some k) := by rw [← HT'.out, selT_over, selT_some HX.out]
            rw [e2] at S5
            have S6 := S5.below (wy := World.drew _) ((Below.refl _ _).drew)
            generalize (v4.setCell ⟨X, 2, none⟩ (.int .u32 (farI x.hc x.co))).drew = v6 at S6 ⊢
            clear S4 S5 hHeld c18 h4 h2 c2 f2 e2 HF
            go_wp2
            go_roundw
            case rel => exact ⟨k + 1, some k, by omega, by go_num, Lib.hid (rs_yes hTop.out), S6⟩
            case measure => simp [intOf]; omega
    · have hki : ¬ (k : Int) < (n : Int) := by omega
      have hke : k = n := by omega
      have e3 : t' = selectT t L := by
        have e := hrs.out
        rw [hke, ← hL.out] at e
        rw [← HT'.out, rs_is hu.out e]
        rfl
      rw [e3] at S
      clear e3 c18
      have c18 := S.hs.cell 1 18 rfl rfl
      have hx := S.hs.bk 1 rfl
      have hy := S.hs.bk 0 rfl
      go_wp2_with (first | (refine wpList_load_row rfl 31 _ rfl X rfl _ _ (0, 0) _ hx Tryz.underlying31 rfl (by kernel_rfl) ?_) | (refine wpList_store_row rfl 31 _ _ rfl Y _ rfl rfl _ _ hy (by kernel_rfl) (by kernel_rfl) (by kernel_rfl) ?_))
      exact bodyPost_ret (v := .agg (lT (selectT t L) D n cap').toArray) (results_cell_row rfl _ _ Y _ _ _ _ rfl (setRow_heap _ _ _ _ _ _ hy) Tryz.underlying31 rfl (by kernel_rfl)) rfl ⟨D, cap', rfl, HZ.out, (S.row 0 rfl (lT (selectT t L) D n cap')).nobox⟩

end Go.Proofs.YtnmnihlhcokjpaaGreatDoor
