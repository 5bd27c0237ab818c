/- Several texts in one, one behind the other: SendTold, SendConf, SendAll. -/
import Derived.Test.YtnmnihlhcokjpaaGreatDoorPk10
import Derived.Test.YtnmnihlhcokjpaaGreatDoorPk02
import Derived.Deep.DeepCutAuto
import Derived.Test.YtnmnihlhcokjpaaGreatDoorPk04
import Derived.Test.YtnmnihlhcokjpaaGreatDoorPk08
import Derived.Test.YtnmnihlhcokjpaaGreatDoorPk09
import Derived.LoopTactic

/- told: contract. -/
namespace Go.Proofs.YtnmnihlhcokjpaaGreatDoor
set_option maxRecDepth 100000
open Go.ChangeShapes Go.WideShapes Go.ChangeAt Go.RowKit
set_option linter.unusedVariables false
set_option linter.unusedSimpArgs false

/-- A port told: itself, and what goes out. -/
def toldR (t : Th) (L : List Po) (k : Nat) (p : Po) : Po × List Ou := if p.ho = true then (owingP p, []) else if t.n1 ≤ toldI t L then (p, []) else (sentP p, [⟨k, t.ow % 281474976710656, confQ t (toldI t L) p⟩])
theorem confR_told {t : Th} {L : List Po} {k : Nat} {p : Po} (h : L[k]? = some p) : confR t L k = (L.set k (toldR t L k p).1, (toldR t L k p).2) := by
  rw [confR_at h]
  unfold toldR
  split
  · rfl
  · split
    · have : L.set k p = L := by
        have hk : k < L.length := po_lt h
        have e : L[k] = p := by rw [List.getElem?_eq_getElem hk] at h; exact Option.some.inj h
        rw [← e]; exact List.set_getElem_self hk
      simp only [this]
    · rfl
def ToldEnd (w : World) (R : Po × List Ou) (e : Ending) (w' : World) : Prop := ∃ v, e = .returned (.tuple #[.agg (lP R.1).toArray, v]) ∧ OutsR w' w.heap.size v R.2 ∧ Below w.heap.size w w'

set_option maxHeartbeats 4000000 in
theorem told_is (t : Th) (A : Option Addr) (n cap : Nat) (L : List Po) (k : Nat) (p : Po) (hk : Hid (L[k]? = some p)) (hL : Hid (L.length = n)) (hf : n ≤ 200) (ht : Hid (ThB t)) (hn : Hid (-9223372036854775808 ≤ t.n1 ∧ t.n1 ≤ 9223372036854775807 ∧ -9223372036854775808 ≤ t.n2 ∧ t.n2 ≤ 9223372036854775807 ∧ -9223372036854775808 ≤ t.n3 ∧ t.n3 ≤ 9223372036854775807)) (hb : Hid (∀ x ∈ L, PoB x)) (w : World) (hd : Hd w) (hp : Hid (PoAt w A w.heap.size L)) :
    Calls Tryz.prog 72 #[.agg (lT t A n cap).toArray, .int .i64 k] w (ToldEnd w (toldR t L k p)) := by
  obtain ⟨R, hR⟩ : ∃ R, toldR t L k p = R := ⟨_, rfl⟩
  rw [hR]
  have HR := Lib.hid hR
  clear hR
  have HD := Lib.hid hd
  clear hd
  obtain ⟨a, ha⟩ : ∃ a, toldI t L = a := ⟨_, rfl⟩
  have HA := Lib.hid ha
  clear ha
  have HAG := fun W (h : Below w.heap.size w W) => Lib.hid (age_is t A n cap L a HA hL hf hb W (Lib.hid ((hp.out.below h (Nat.le_refl _)).wide h.size)))
  have HCF := fun W (h : Below w.heap.size w W) => Lib.hid (config_is t A n cap L p a HA hL hf hn hb W (Lib.hid ((hp.out.below h (Nat.le_refl _)).wide h.size)))
  have HPB := hb.out p (List.mem_of_getElem? hk.out)
  have hkn : k < n := by have := po_lt hk.out; rw [hL.out] at this; exact this
  have hkz : ¬ (n : Int) ≤ (k : Int) := by omega
  have hki : (k : Int) < (n : Int) := by omega
  have hBQ : BqIn (confQ t a p) := confQ_in ht.out HPB
  have HGO := fun W (h : Below w.heap.size w W) => Lib.hid (goes_is t A n cap k (confQ t a p) hBQ ht.out.1 W (HD.out.below h (Nat.le_refl _)))
  clear hBQ HPB
  obtain ⟨ad, hA⟩ := hp.out.some hk.out
  have hat0 := hp.out.at hk.out hA
  subst hA
  obtain ⟨wb, hwb, S⟩ := hs_two w 31 63 (lT t (some ad) n cap) [.int .u16 0, .int .i64 0, .int .u32 0, .int .u64 0, .int .u32 0, .int .u64 0, .int .u16 0, .bool false, .bool false, .bool false, .int .i64 0, .bool false, .int .i64 0, .bool false, .int .i64 0]
  go_enter Tryz.func72, Tryz.ntmps72
  go_upto_region 1 with fail
  clear hwb
  obtain ⟨X, hX⟩ : ∃ X, w.heap.size = X := ⟨_, rfl⟩
  rw [hX] at S
  obtain ⟨Y, hY⟩ : ∃ Y, X + 1 = Y := ⟨_, rfl⟩
  rw [hY] at S
  rw [hX]
  rw [hY]
  have HX := Lib.hid hX
  clear hX hY
  have c18 := S.cell 1 18 rfl rfl
  have hat : ∀ i v, (lP p)[i]? = some v → wb.cell? ((ad.add (k * 15)).add i) = some v := ((hp.out.below S.old (Nat.le_refl _)).at hk.out rfl)
  clear hat0
  go_upto_region 2 with (first | (with_reducible refine wpList_load_at rfl 63 (.tmp 11) rfl (ad.add (k * 15)) (by kernel_rfl) _ _ hat Tryz.underlying63 rfl (by kernel_rfl) ?_) | (refine wpList_store_row rfl 63 _ _ rfl _ _ rfl rfl _ _ (heap_alloc_new _ _) (by kernel_rfl) (by kernel_rfl) (by kernel_rfl) ?_))
  rw [alloc_row]
  have S1 := S.al rfl 63 (lP p)
  obtain ⟨P, hP⟩ : ∃ P, wb.heap.size = P := ⟨_, rfl⟩
  rw [hP] at S1 ⊢
  obtain ⟨w1, hw1⟩ : ∃ w1, wb.alloc (.cells (lP p).toArray 63) = w1 := ⟨_, rfl⟩
  rw [hw1] at S1 ⊢
  clear hw1 hP S c18 hat hkn hkz hki
  have c13 := S1.cell 0 13 rfl rfl
  have hR2 := HR.out
  unfold toldR at hR2
  rw [HA.out] at hR2
  clear HR
  obtain ⟨h, hh⟩ : ∃ h, p.ho = h := ⟨_, rfl⟩
  rw [hh] at c13 hR2
  clear hh
  cases h with
  | true =>
    obtain rfl : (owingP p, []) = R := hR2
    have c8 := S1.cell 0 8 rfl rfl
    have f8 := S1.thaw 0 8 rfl
    go_upto_region 4 with fail
    have S2 : Hs w [(P, 63, lP (owingP p)), (Y, 63, [.int .u16 0, .int .i64 0, .int .u32 0, .int .u64 0, .int .u32 0, .int .u64 0, .int .u16 0, .bool false, .bool false, .bool false, .int .i64 0, .bool false, .int .i64 0, .bool false, .int .i64 0]), (X, 31, lT t (some ad) n cap)] (w1.setCell ⟨P, 8, none⟩ (.bool true)) := S1.set 0 rfl 8 (.bool true)
    generalize w1.setCell ⟨P, 8, none⟩ (.bool true) = w2 at S2 ⊢
    clear S1 c13 c8 f8
    have hx := S2.bk 0 rfl
    have hy := S2.bk 1 rfl
    have S3 := S2.row 1 rfl (lP (owingP p))
    have hyF := S3.bk 1 rfl
    go_wp2_with (first | (with_reducible refine wpList_load_row rfl 63 (.tmp 6) rfl P (by kernel_rfl) _ _ (0, 0) _ hx Tryz.underlying63 rfl (by kernel_rfl) ?_) | (refine wpList_store_row rfl 63 _ _ rfl Y _ rfl rfl _ _ hy (by kernel_rfl) (by kernel_rfl) (by kernel_rfl) ?_))
    exact bodyPost_ret (v := .tuple #[.agg (lP (owingP p)).toArray, .slice none 0 0]) (results_two rfl _ _ Y _ _ _ _ rfl _ rfl hyF Tryz.underlying63 rfl (by kernel_rfl)) rfl ⟨_, rfl, OutsR.nil _ _, S3.old⟩
  | false =>
    rw [if_neg (by decide)] at hR2
    have HR2 := Lib.hid hR2
    clear hR2
    go_upto_region 5 with fail
    clear c13
    obtain ⟨b, hbb⟩ : ∃ b, decide (t.n1 ≤ a) = b := ⟨_, rfl⟩
    have HBB := Lib.hid hbb
    clear hbb
    go_cut [23] (fun u wx => u = .bool b ∧ Hs w [(P, 63, lP p), (Y, 63, [.int .u16 0, .int .i64 0, .int .u32 0, .int .u64 0, .int .u32 0, .int .u64 0, .int .u16 0, .bool false, .bool false, .bool false, .int .i64 0, .bool false, .int .i64 0, .bool false, .int .i64 0]), (X, 31, lT t (some ad) n cap)] wx)
    case first =>
      refine wp_region_held_drew (S := (fun w' => Hs w [(P, 63, lP p), (Y, 63, [.int .u16 0, .int .i64 0, .int .u32 0, .int .u64 0, .int .u32 0, .int .u64 0, .int .u16 0, .bool false, .bool false, .bool false, .int .i64 0, .bool false, .int .i64 0, .bool false, .int .i64 0]), (X, 31, lT t (some ad) n cap)] w')) (by kernel_rfl) (S1.drew) (fun hHeld => ?_)
      have S2 := S1.drew
      refine wpAnyH_take (i := 0) (v := _) rfl (by kernel_rfl) (by kernel_rfl) (by kernel_rfl) (fun _ _ _ h => h) (Or.inl ⟨by kernel_rfl, fun w' hSw => exec_load_row 31 _ rfl X (by kernel_rfl) _ _ (0, 0) _ (hSw.bk 2 rfl) Tryz.underlying31 rfl (by kernel_rfl)⟩) (by assumption) ?_
      try simp only [Act.put, List.getElem_toArray, List.getElem_cons_succ, List.getElem_cons_zero, List.setIfInBounds_toArray, List.set_cons_succ, List.set_cons_zero]
      refine wpAnyH_take (i := 2) (v := ?_) rfl (by kernel_rfl) (by kernel_rfl) (by kernel_rfl) (fun _ _ _ h => h) (Or.inl ⟨by kernel_rfl, ?_⟩) (by assumption) ?_
      rotate_left
      · intro w' hSw; (try dsimp only at hSw); go_simp; with_reducible rfl
      try simp only [Act.put, List.getElem_toArray, List.getElem_cons_succ, List.getElem_cons_zero, List.setIfInBounds_toArray, List.set_cons_succ, List.set_cons_zero]
      refine wpAnyH_take (i := 3) (v := ?_) rfl (by kernel_rfl) (by kernel_rfl) (by kernel_rfl) (fun _ _ _ h => h) (Or.inl ⟨by kernel_rfl, ?_⟩) (by assumption) ?_
      rotate_left
      · intro w' hSw; (try dsimp only at hSw); go_simp; with_reducible rfl
      try simp only [Act.put, List.getElem_toArray, List.getElem_cons_succ, List.getElem_cons_zero, List.setIfInBounds_toArray, List.set_cons_succ, List.set_cons_zero]
      refine wpAnyH_take (i := 4) (v := ?_) rfl (by kernel_rfl) (by kernel_rfl) (by kernel_rfl) (fun _ _ _ h => h) (Or.inl ⟨by kernel_rfl, ?_⟩) (by assumption) ?_
      rotate_left
      · intro w' hSw; (try dsimp only at hSw); have c0 := (hSw.cell 2 4 rfl rfl); go_simp; with_reducible rfl
      try simp only [Act.put, List.getElem_toArray, List.getElem_cons_succ, List.getElem_cons_zero, List.setIfInBounds_toArray, List.set_cons_succ, List.set_cons_zero]
      refine wpAnyH_ready (rs := [1]) (by kernel_rfl) (by simp) ?_
      refine AllReadyH.cons rfl (fun K hK => ?_) AllReadyH.nil
      go_simp
      (with_reducible refine (HAG _ S2.old).out.mono ?_); rintro e w3 ⟨rfl, b3⟩
      have S3 := S2.below b3
      refine hK.out _ _ (S3) (fun hHeld => ?_)
      clear hK K
      try simp only [Act.put, List.getElem_toArray, List.getElem_cons_succ, List.getElem_cons_zero, List.setIfInBounds_toArray, List.set_cons_succ, List.set_cons_zero]
      have hbb := HBB.out
      cases b with
      | true =>
        have hage : t.n1 ≤ a := of_decide_eq_true hbb
        clear hbb
        refine wpAnyH_take (i := 5) (v := ?_) rfl (by kernel_rfl) (by kernel_rfl) (by kernel_rfl) (fun _ _ _ h => h) (Or.inl ⟨by kernel_rfl, ?_⟩) (by assumption) ?_
        rotate_left
        · intro w' hSw; (try dsimp only at hSw); go_simp; with_reducible rfl
        try simp only [Act.put, List.getElem_toArray, List.getElem_cons_succ, List.getElem_cons_zero, List.setIfInBounds_toArray, List.set_cons_succ, List.set_cons_zero]
        refine wpAnyH_done (by kernel_rfl) ?_ _
        go_wp2_with fail
        go_meet
        exact ⟨rfl, S3⟩
      | false =>
        have hage : ¬ t.n1 ≤ a := of_decide_eq_false hbb
        clear hbb
        refine wpAnyH_take (i := 5) (v := ?_) rfl (by kernel_rfl) (by kernel_rfl) (by kernel_rfl) (fun _ _ _ h => h) (Or.inl ⟨by kernel_rfl, ?_⟩) (by assumption) ?_
        rotate_left
        · intro w' hSw; (try dsimp only at hSw); go_simp; with_reducible rfl
        try simp only [Act.put, List.getElem_toArray, List.getElem_cons_succ, List.getElem_cons_zero, List.setIfInBounds_toArray, List.set_cons_succ, List.set_cons_zero]
        refine wpAnyH_done (by kernel_rfl) ?_ _
        go_wp2_with fail
        go_meet
        exact ⟨rfl, S3⟩
    case rest =>
      obtain ⟨rfl, S2⟩ := hcut
      rename World => w2
      clear S1
      have hR3 := HR2.out
      have hbb := HBB.out
      cases b with
      | true =>
        obtain rfl : (p, []) = R := by rw [← hR3, if_pos (of_decide_eq_true hbb)]
        clear hbb hR3
        have hx := S2.bk 0 rfl
        have hy := S2.bk 1 rfl
        have S3 := S2.row 1 rfl (lP p)
        have hyF := S3.bk 1 rfl
        go_wp2_with (first | (with_reducible refine wpList_load_row rfl 63 (.tmp 6) rfl P (by kernel_rfl) _ _ (0, 0) _ hx Tryz.underlying63 rfl (by kernel_rfl) ?_) | (refine wpList_store_row rfl 63 _ _ rfl Y _ rfl rfl _ _ hy (by kernel_rfl) (by kernel_rfl) (by kernel_rfl) ?_))
        exact bodyPost_ret (v := .tuple #[.agg (lP p).toArray, .slice none 0 0]) (results_two rfl _ _ Y _ _ _ _ rfl _ rfl hyF Tryz.underlying63 rfl (by kernel_rfl)) rfl ⟨_, rfl, OutsR.nil _ _, S3.old⟩
      | false =>
        obtain rfl : (sentP p, [⟨k, t.ow % 281474976710656, confQ t a p⟩]) = R := by rw [← hR3, if_neg (of_decide_eq_false hbb)]
        clear hbb hR3 HR2 HAG
        go_upto_region 7 with fail
        go_cut [7] (fun u wx => ∃ Z c, u = .pointer (some ⟨Z, 0, none⟩) ∧ c.o = ⟨k, t.ow % 281474976710656, confQ t a p⟩ ∧ Hs w ((Z, 83, lO c) :: [(P, 63, lP p), (Y, 63, [.int .u16 0, .int .i64 0, .int .u32 0, .int .u64 0, .int .u32 0, .int .u64 0, .int .u16 0, .bool false, .bool false, .bool false, .int .i64 0, .bool false, .int .i64 0, .bool false, .int .i64 0]), (X, 31, lT t (some ad) n cap)]) wx ∧ OcAt wx w.heap.size c)
        case first =>
          refine wp_region_held_drew (S := (fun w' => Hs w [(P, 63, lP p), (Y, 63, [.int .u16 0, .int .i64 0, .int .u32 0, .int .u64 0, .int .u32 0, .int .u64 0, .int .u16 0, .bool false, .bool false, .bool false, .int .i64 0, .bool false, .int .i64 0, .bool false, .int .i64 0]), (X, 31, lT t (some ad) n cap)] w')) (by kernel_rfl) (S2.drew) (fun hHeld => ?_)
          have S3 := S2.drew
          obtain ⟨v3, hv3⟩ : ∃ v, w2.drew = v := ⟨_, rfl⟩
          rw [hv3] at S3 hHeld ⊢
          clear hv3
          refine wpAnyH_take (i := 0) (v := _) rfl (by kernel_rfl) (by kernel_rfl) (by kernel_rfl) (fun _ _ _ h => h) (Or.inl ⟨by kernel_rfl, fun w' hSw => exec_load_row 31 _ rfl X (by kernel_rfl) _ _ (0, 0) _ (hSw.bk 2 rfl) Tryz.underlying31 rfl (by kernel_rfl)⟩) (by assumption) ?_
          try simp only [Act.put, List.getElem_toArray, List.getElem_cons_succ, List.getElem_cons_zero, List.setIfInBounds_toArray, List.set_cons_succ, List.set_cons_zero]
          refine wpAnyH_take (i := 1) (v := ?_) rfl (by kernel_rfl) (by kernel_rfl) (by kernel_rfl) (fun _ _ _ h => h) (Or.inl ⟨by kernel_rfl, ?_⟩) (by assumption) ?_
          rotate_left
          · intro w' hSw; (try dsimp only at hSw); go_simp; with_reducible rfl
          try simp only [Act.put, List.getElem_toArray, List.getElem_cons_succ, List.getElem_cons_zero, List.setIfInBounds_toArray, List.set_cons_succ, List.set_cons_zero]
          refine wpAnyH_take (i := 2) (v := _) rfl (by kernel_rfl) (by kernel_rfl) (by kernel_rfl) (fun _ _ _ h => h) (Or.inl ⟨by kernel_rfl, fun w' hSw => exec_load_row 31 _ rfl X (by kernel_rfl) _ _ (0, 0) _ (hSw.bk 2 rfl) Tryz.underlying31 rfl (by kernel_rfl)⟩) (by assumption) ?_
          try simp only [Act.put, List.getElem_toArray, List.getElem_cons_succ, List.getElem_cons_zero, List.setIfInBounds_toArray, List.set_cons_succ, List.set_cons_zero]
          refine wpAnyH_take (i := 3) (v := _) rfl (by kernel_rfl) (by kernel_rfl) (by kernel_rfl) (fun _ _ _ h => h) (Or.inl ⟨by kernel_rfl, fun w' hSw => exec_load_row 63 _ rfl P (by kernel_rfl) _ _ (0, 0) _ (hSw.bk 0 rfl) Tryz.underlying63 rfl (by kernel_rfl)⟩) (by assumption) ?_
          try simp only [Act.put, List.getElem_toArray, List.getElem_cons_succ, List.getElem_cons_zero, List.setIfInBounds_toArray, List.set_cons_succ, List.set_cons_zero]
          refine wpAnyH_ready (rs := [4, 6]) (by kernel_rfl) (by simp) ?_
          refine AllReadyH.cons rfl (fun K hK => ?_) (AllReadyH.cons rfl (fun K hK => ?_) AllReadyH.nil)
          · go_simp
            (with_reducible refine (HCF _ S3.old).out.mono ?_); rintro e w4 ⟨rfl, b4⟩
            have S4 := S3.below b4
            refine hK.out _ _ (S4) (fun hHeld => ?_)
            clear hK K
            try simp only [Act.put, List.getElem_toArray, List.getElem_cons_succ, List.getElem_cons_zero, List.setIfInBounds_toArray, List.set_cons_succ, List.set_cons_zero]
            refine wpAnyH_ready (rs := [5, 6]) (by kernel_rfl) (by simp) ?_
            refine AllReadyH.cons rfl (fun K hK => ?_) (AllReadyH.cons rfl (fun K hK => ?_) AllReadyH.nil)
            · go_simp
              (with_reducible refine (HGO _ S4.old).out.mono ?_); rintro e w5 ⟨g5, c5, rfl, ho5, b5⟩
              have hO5 := OcAt.lower (B' := w.heap.size) ho5 S4.old.size
              have S5 := S4.below b5
              refine hK.out _ _ (S5) (fun hHeld => ?_)
              clear hK K
              try simp only [Act.put, List.getElem_toArray, List.getElem_cons_succ, List.getElem_cons_zero, List.setIfInBounds_toArray, List.set_cons_succ, List.set_cons_zero]
              refine wpAnyH_ready (rs := [6]) (by kernel_rfl) (by simp) ?_
              refine AllReadyH.cons rfl (fun K hK => ?_) AllReadyH.nil
              go_simp
              have S6 := Hs.al S5 (g := _) rfl 83 [.int .i64 0, .int .u64 0, .int .u64 0, .int .u16 0, .slice none 0 0]
              have O6 := hO5.below (new_below _ (.cells ([.int .i64 0, .int .u64 0, .int .u64 0, .int .u16 0, .slice none 0 0] : List Value).toArray 83))
              have hne : g5 ≠ w5.heap.size := Nat.ne_of_lt hO5.2.lt
              refine hK.out _ _ (S6.tail) (fun hHeld => ?_)
              clear hK K
              try simp only [Act.put, List.getElem_toArray, List.getElem_cons_succ, List.getElem_cons_zero, List.setIfInBounds_toArray, List.set_cons_succ, List.set_cons_zero]
              refine wpAnyH_ready (rs := [7]) (by kernel_rfl) (by simp) ?_
              refine AllReadyH.cons rfl (fun K hK => ?_) AllReadyH.nil
              have hz := S6.bk 0 rfl
              refine exec_if_store (by kernel_rfl) 83 (.tmp 7) (.tmp 30) rfl _ (lO ⟨⟨k, t.ow % 281474976710656, confQ t a p⟩, g5, c5⟩).toArray (by kernel_rfl) (by kernel_rfl) _ _ hz (by kernel_rfl) (by kernel_rfl) (by kernel_rfl) ?_
              have S9 := S6.row 0 rfl (lO ⟨⟨k, t.ow % 281474976710656, confQ t a p⟩, g5, c5⟩)
              have O9 := O6.row (cs := (lO ⟨⟨k, t.ow % 281474976710656, confQ t a p⟩, g5, c5⟩).toArray) hne
              refine hK.out _ _ (S9.tail) (fun hHeld => ?_)
              clear hK K
              try simp only [Act.put, List.getElem_toArray, List.getElem_cons_succ, List.getElem_cons_zero, List.setIfInBounds_toArray, List.set_cons_succ, List.set_cons_zero]
              refine wpAnyH_done (by kernel_rfl) ?_ _
              go_wp2_with fail
              go_meet
              exact ⟨_, ⟨⟨k, t.ow % 281474976710656, confQ t a p⟩, g5, c5⟩, rfl, rfl, S9, O9⟩
            · go_simp
              have S5 := Hs.al S4 (g := _) rfl 83 [.int .i64 0, .int .u64 0, .int .u64 0, .int .u16 0, .slice none 0 0]
              refine hK.out _ _ (S5.tail) (fun hHeld => ?_)
              clear hK K
              try simp only [Act.put, List.getElem_toArray, List.getElem_cons_succ, List.getElem_cons_zero, List.setIfInBounds_toArray, List.set_cons_succ, List.set_cons_zero]
              refine wpAnyH_ready (rs := [5]) (by kernel_rfl) (by simp) ?_
              refine AllReadyH.cons rfl (fun K hK => ?_) AllReadyH.nil
              go_simp
              (with_reducible refine (HGO _ S5.old).out.mono ?_); rintro e w5 ⟨g5, c5, rfl, ho5, b5⟩
              have hO5 := OcAt.lower (B' := w.heap.size) ho5 S5.old.size
              have S6 := S5.below b5
              have hne : g5 ≠ w4.heap.size := fun e => by have h1 : _ ≤ g5 := ho5.1; have h2 := S5.lt 0 rfl; omega
              refine hK.out _ _ (S6.tail) (fun hHeld => ?_)
              clear hK K
              try simp only [Act.put, List.getElem_toArray, List.getElem_cons_succ, List.getElem_cons_zero, List.setIfInBounds_toArray, List.set_cons_succ, List.set_cons_zero]
              refine wpAnyH_ready (rs := [7]) (by kernel_rfl) (by simp) ?_
              refine AllReadyH.cons rfl (fun K hK => ?_) AllReadyH.nil
              have hz := S6.bk 0 rfl
              refine exec_if_store (by kernel_rfl) 83 (.tmp 7) (.tmp 30) rfl _ (lO ⟨⟨k, t.ow % 281474976710656, confQ t a p⟩, g5, c5⟩).toArray (by kernel_rfl) (by kernel_rfl) _ _ hz (by kernel_rfl) (by kernel_rfl) (by kernel_rfl) ?_
              have S9 := S6.row 0 rfl (lO ⟨⟨k, t.ow % 281474976710656, confQ t a p⟩, g5, c5⟩)
              have O9 := hO5.row (cs := (lO ⟨⟨k, t.ow % 281474976710656, confQ t a p⟩, g5, c5⟩).toArray) hne
              refine hK.out _ _ (S9.tail) (fun hHeld => ?_)
              clear hK K
              try simp only [Act.put, List.getElem_toArray, List.getElem_cons_succ, List.getElem_cons_zero, List.setIfInBounds_toArray, List.set_cons_succ, List.set_cons_zero]
              refine wpAnyH_done (by kernel_rfl) ?_ _
              go_wp2_with fail
              go_meet
              exact ⟨_, ⟨⟨k, t.ow % 281474976710656, confQ t a p⟩, g5, c5⟩, rfl, rfl, S9, O9⟩
          · go_simp
            have S4 := Hs.al S3 (g := _) rfl 83 [.int .i64 0, .int .u64 0, .int .u64 0, .int .u16 0, .slice none 0 0]
            refine hK.out _ _ (S4.tail) (fun hHeld => ?_)
            clear hK K
            try simp only [Act.put, List.getElem_toArray, List.getElem_cons_succ, List.getElem_cons_zero, List.setIfInBounds_toArray, List.set_cons_succ, List.set_cons_zero]
            refine wpAnyH_ready (rs := [4]) (by kernel_rfl) (by simp) ?_
            refine AllReadyH.cons rfl (fun K hK => ?_) AllReadyH.nil
            go_simp
            (with_reducible refine (HCF _ S4.old).out.mono ?_); rintro e w4 ⟨rfl, b4⟩
            have S5 := S4.below b4
            refine hK.out _ _ (S5.tail) (fun hHeld => ?_)
            clear hK K
            try simp only [Act.put, List.getElem_toArray, List.getElem_cons_succ, List.getElem_cons_zero, List.setIfInBounds_toArray, List.set_cons_succ, List.set_cons_zero]
            refine wpAnyH_ready (rs := [5]) (by kernel_rfl) (by simp) ?_
            refine AllReadyH.cons rfl (fun K hK => ?_) AllReadyH.nil
            go_simp
            (with_reducible refine (HGO _ S5.old).out.mono ?_); rintro e w5 ⟨g5, c5, rfl, ho5, b5⟩
            have hO5 := OcAt.lower (B' := w.heap.size) ho5 S5.old.size
            have S6 := S5.below b5
            have hne : g5 ≠ v3.heap.size := fun e => by have h1 : _ ≤ g5 := ho5.1; have h2 := S5.lt 0 rfl; omega
            refine hK.out _ _ (S6.tail) (fun hHeld => ?_)
            clear hK K
            try simp only [Act.put, List.getElem_toArray, List.getElem_cons_succ, List.getElem_cons_zero, List.setIfInBounds_toArray, List.set_cons_succ, List.set_cons_zero]
            refine wpAnyH_ready (rs := [7]) (by kernel_rfl) (by simp) ?_
            refine AllReadyH.cons rfl (fun K hK => ?_) AllReadyH.nil
            have hz := S6.bk 0 rfl
            refine exec_if_store (by kernel_rfl) 83 (.tmp 7) (.tmp 30) rfl _ (lO ⟨⟨k, t.ow % 281474976710656, confQ t a p⟩, g5, c5⟩).toArray (by kernel_rfl) (by kernel_rfl) _ _ hz (by kernel_rfl) (by kernel_rfl) (by kernel_rfl) ?_
            have S9 := S6.row 0 rfl (lO ⟨⟨k, t.ow % 281474976710656, confQ t a p⟩, g5, c5⟩)
            have O9 := hO5.row (cs := (lO ⟨⟨k, t.ow % 281474976710656, confQ t a p⟩, g5, c5⟩).toArray) hne
            refine hK.out _ _ (S9.tail) (fun hHeld => ?_)
            clear hK K
            try simp only [Act.put, List.getElem_toArray, List.getElem_cons_succ, List.getElem_cons_zero, List.setIfInBounds_toArray, List.set_cons_succ, List.set_cons_zero]
            refine wpAnyH_done (by kernel_rfl) ?_ _
            go_wp2_with fail
            go_meet
            exact ⟨_, ⟨⟨k, t.ow % 281474976710656, confQ t a p⟩, g5, c5⟩, rfl, rfl, S9, O9⟩
        case rest =>
          clear S2 HCF HGO
          obtain ⟨Z, c, rfl, hco, S3, O3⟩ := hcut
          rename World => w3
          have c7 := S3.cell 1 7 rfl rfl
          have c8 := S3.cell 1 8 rfl rfl
          have f7 := S3.thaw 1 7 rfl
          have f8 := S3.thaw 1 8 rfl
          go_upto_region 9 with fail
          have S4 : Hs w ((Z, 83, lO c) :: [(P, 63, lP { p with pe := false, ak := false }), (Y, 63, [.int .u16 0, .int .i64 0, .int .u32 0, .int .u64 0, .int .u32 0, .int .u64 0, .int .u16 0, .bool false, .bool false, .bool false, .int .i64 0, .bool false, .int .i64 0, .bool false, .int .i64 0]), (X, 31, lT t (some ad) n cap)]) ((w3.setCell ⟨P, 8, none⟩ (.bool false)).setCell ⟨P, 7, none⟩ (.bool false)) := (S3.set 1 rfl 8 (.bool false)).set 1 rfl 7 (.bool false)
          have hPO : c.g ≠ P := OcAt.apart O3 S3 1 rfl (by decide)
          have O4 := (O3.cell (o := 8) (v := .bool false) hPO).cell (o := 7) (v := .bool false) hPO
          generalize (w3.setCell ⟨P, 8, none⟩ (.bool false)).setCell ⟨P, 7, none⟩ (.bool false) = w4 at S4 O4 ⊢
          clear S3 O3 c7 c8 f7 f8
          go_wp2_with fail
          (with_reducible refine (start0 _).mono ?_); rintro e w5 ⟨rfl, b5⟩
          have S5 := S4.below b5
          have O5 := O4.below b5
          clear S4 O4 b5
          have c13 := S5.cell 1 13 rfl rfl
          have c14 := S5.cell 1 14 rfl rfl
          have f13 := S5.thaw 1 13 rfl
          have f14 := S5.thaw 1 14 rfl
          go_upto_region 10 with fail
          have S6 : Hs w ((Z, 83, lO c) :: [(P, 63, lP (sentP p)), (Y, 63, [.int .u16 0, .int .i64 0, .int .u32 0, .int .u64 0, .int .u32 0, .int .u64 0, .int .u16 0, .bool false, .bool false, .bool false, .int .i64 0, .bool false, .int .i64 0, .bool false, .int .i64 0]), (X, 31, lT t (some ad) n cap)]) ((w5.setCell ⟨P, 13, none⟩ (.bool true)).setCell ⟨P, 14, none⟩ (.int .i64 0)) := (S5.set 1 rfl 13 (.bool true)).set 1 rfl 14 (.int .i64 0)
          have O6 := (O5.cell (o := 13) (v := .bool true) hPO).cell (o := 14) (v := .int .i64 0) hPO
          generalize (w5.setCell ⟨P, 13, none⟩ (.bool true)).setCell ⟨P, 14, none⟩ (.int .i64 0) = w6 at S6 O6 ⊢
          clear S5 O5 c13 c14 f13 f14
          refine wp_region_held_drew (S := (fun w' => Bk w' P 63 (lP (sentP p)) ∧ Bk w' Z 83 (lO c))) (by kernel_rfl) (⟨(S6.drew.1 1 _ _ _ rfl).1, (S6.drew.1 0 _ _ _ rfl).1⟩) (fun hHeld => ?_)
          have S7 := S6.drew
          have O7 := O6.below ((Below.refl _ _).drew)
          obtain ⟨v7, hv7⟩ : ∃ v, w6.drew = v := ⟨_, rfl⟩
          rw [hv7] at S7 O7 hHeld ⊢
          clear hv7 S6 O6
          refine wpAnyH_take (i := 0) (v := _) rfl (by kernel_rfl) (by kernel_rfl) (by kernel_rfl) (fun _ _ _ h => h) (Or.inl ⟨by kernel_rfl, fun w' hSw => exec_load_row 63 _ rfl P (by kernel_rfl) _ _ (0, 0) _ (hSw.1) Tryz.underlying63 rfl (by kernel_rfl)⟩) (by assumption) ?_
          try simp only [Act.put, List.getElem_toArray, List.getElem_cons_succ, List.getElem_cons_zero, List.setIfInBounds_toArray, List.set_cons_succ, List.set_cons_zero]
          refine wpAnyH_take (i := 1) (v := _) rfl (by kernel_rfl) (by kernel_rfl) (by kernel_rfl) (fun _ _ _ h => h) (Or.inl ⟨by kernel_rfl, fun w' hSw => exec_load_row 83 _ rfl Z (by kernel_rfl) _ _ (0, 0) _ (hSw.2) Tryz.underlying83 rfl (by kernel_rfl)⟩) (by assumption) ?_
          try simp only [Act.put, List.getElem_toArray, List.getElem_cons_succ, List.getElem_cons_zero, List.setIfInBounds_toArray, List.set_cons_succ, List.set_cons_zero]
          have hlen := lO_len c
          have hfold : List.foldl (fun (cs : Array Value) (x : Value × Nat) => cs.setIfInBounds x.snd x.fst) #[.int .i64 0, .int .u64 0, .int .u64 0, .int .u16 0, .slice none 0 0] (lO c).zipIdx = (lO c).toArray := rfl
          have hYc : c.g ≠ Y := OcAt.apart O7 S7 2 rfl (by decide)
          have hYN : Y < v7.heap.size := S7.lt 2 rfl
          have hNb : w.heap.size ≤ v7.heap.size := S7.old.size
          refine wpAnyH_ready (rs := [2, 3]) (by kernel_rfl) (by simp) ?_
          refine AllReadyH.cons rfl (fun K hK => ?_) (AllReadyH.cons rfl (fun K hK => ?_) AllReadyH.nil)
          · have hB := new_below v7 (.cells (lO c).toArray 83)
            have S8 := S7.below hB
            have O8 := O7.below hB
            have hk : Bk (v7.alloc (.cells (lO c).toArray 83)) v7.heap.size 83 (lO c) := heap_alloc_new _ _
            have hy := S8.bk 2 rfl
            have S9 := S8.row 2 rfl (lP (sentP p))
            have O9 := O8.row (cs := (lP (sentP p)).toArray) hYc
            have hkN := (setRow_other _ Y v7.heap.size (lP (sentP p)).toArray (by omega)).trans hk
            go_simp
            refine hK.out _ _ (⟨(S8.1 1 _ _ _ rfl).1, (S8.1 0 _ _ _ rfl).1⟩) (fun hHeld => ?_)
            clear hK K
            try simp only [Act.put, List.getElem_toArray, List.getElem_cons_succ, List.getElem_cons_zero, List.setIfInBounds_toArray, List.set_cons_succ, List.set_cons_zero]
            refine wpAnyH_ready (rs := [3]) (by kernel_rfl) (by simp) ?_
            refine AllReadyH.cons rfl (fun K hK => ?_) AllReadyH.nil
            refine exec_if_store (by kernel_rfl) 63 (.tmp 4) (.tmp 35) rfl Y (lP (sentP p)).toArray (by kernel_rfl) (by kernel_rfl) _ _ hy (by kernel_rfl) (by kernel_rfl) (by kernel_rfl) ?_
            refine hK.out _ _ (⟨(S9.1 1 _ _ _ rfl).1, (S9.1 0 _ _ _ rfl).1⟩) (fun hHeld => ?_)
            clear hK K
            try simp only [Act.put, List.getElem_toArray, List.getElem_cons_succ, List.getElem_cons_zero, List.setIfInBounds_toArray, List.set_cons_succ, List.set_cons_zero]
            refine wpAnyH_take (i := 4) (v := ?_) rfl (by kernel_rfl) (by kernel_rfl) (by kernel_rfl) (fun _ _ _ h => h) (Or.inl ⟨by kernel_rfl, ?_⟩) (by assumption) ?_
            rotate_left
            · intro w' hSw; (try dsimp only at hSw); go_simp; with_reducible rfl
            try simp only [Act.put, List.getElem_toArray, List.getElem_cons_succ, List.getElem_cons_zero, List.setIfInBounds_toArray, List.set_cons_succ, List.set_cons_zero]
            refine wpAnyH_done (by kernel_rfl) ?_ _
            have hyF := S9.bk 2 rfl
            go_wp2
            exact bodyPost_ret (v := .tuple #[.agg (lP (sentP p)).toArray, .slice (some ⟨v7.heap.size, 0, none⟩) 1 1]) (results_two rfl _ _ Y _ _ _ _ rfl _ rfl hyF Tryz.underlying63 rfl (by kernel_rfl)) rfl ⟨_, rfl, ⟨[c], by rw [List.map_cons, hco]; rfl, ⟨rfl, .inr ⟨v7.heap.size, 1, (lO c).toArray, rfl, hNb, hkN, Nat.le_refl _, by decide, rfl, rfl⟩⟩, fun d hd => by obtain rfl := List.mem_singleton.1 hd; exact O9⟩, S9.old⟩
          · have hy := S7.bk 2 rfl
            refine exec_if_store (by kernel_rfl) 63 (.tmp 4) (.tmp 35) rfl Y (lP (sentP p)).toArray (by kernel_rfl) (by kernel_rfl) _ _ hy (by kernel_rfl) (by kernel_rfl) (by kernel_rfl) ?_
            have S8 := S7.row 2 rfl (lP (sentP p))
            have O8 := O7.row (cs := (lP (sentP p)).toArray) hYc
            refine hK.out _ _ (⟨(S8.1 1 _ _ _ rfl).1, (S8.1 0 _ _ _ rfl).1⟩) (fun hHeld => ?_)
            clear hK K
            try simp only [Act.put, List.getElem_toArray, List.getElem_cons_succ, List.getElem_cons_zero, List.setIfInBounds_toArray, List.set_cons_succ, List.set_cons_zero]
            have hN : (v7.setRow Y (lP (sentP p)).toArray).heap.size = v7.heap.size := by simp [World.setRow]
            obtain ⟨v8, hv8⟩ : ∃ v, v7.setRow Y (lP (sentP p)).toArray = v := ⟨_, rfl⟩
            rw [hv8] at S8 O8 hN ⊢
            rw [← hN] at hNb
            clear hN
            have hB := new_below v8 (.cells (lO c).toArray 83)
            have S9 := S8.below hB
            have O9 := O8.below hB
            have hkN : Bk (v8.alloc (.cells (lO c).toArray 83)) v8.heap.size 83 (lO c) := heap_alloc_new _ _
            refine wpAnyH_ready (rs := [2]) (by kernel_rfl) (by simp) ?_
            refine AllReadyH.cons rfl (fun K hK => ?_) AllReadyH.nil
            go_simp
            refine hK.out _ _ (⟨(S9.1 1 _ _ _ rfl).1, (S9.1 0 _ _ _ rfl).1⟩) (fun hHeld => ?_)
            clear hK K
            try simp only [Act.put, List.getElem_toArray, List.getElem_cons_succ, List.getElem_cons_zero, List.setIfInBounds_toArray, List.set_cons_succ, List.set_cons_zero]
            refine wpAnyH_take (i := 4) (v := ?_) rfl (by kernel_rfl) (by kernel_rfl) (by kernel_rfl) (fun _ _ _ h => h) (Or.inl ⟨by kernel_rfl, ?_⟩) (by assumption) ?_
            rotate_left
            · intro w' hSw; (try dsimp only at hSw); go_simp; with_reducible rfl
            try simp only [Act.put, List.getElem_toArray, List.getElem_cons_succ, List.getElem_cons_zero, List.setIfInBounds_toArray, List.set_cons_succ, List.set_cons_zero]
            refine wpAnyH_done (by kernel_rfl) ?_ _
            have hyF := S9.bk 2 rfl
            go_wp2
            exact bodyPost_ret (v := .tuple #[.agg (lP (sentP p)).toArray, .slice (some ⟨v8.heap.size, 0, none⟩) 1 1]) (results_two rfl _ _ Y _ _ _ _ rfl _ rfl hyF Tryz.underlying63 rfl (by kernel_rfl)) rfl ⟨_, rfl, ⟨[c], by rw [List.map_cons, hco]; rfl, ⟨rfl, .inr ⟨v8.heap.size, 1, (lO c).toArray, rfl, hNb, hkN, Nat.le_refl _, by decide, rfl, rfl⟩⟩, fun d hd => by obtain rfl := List.mem_singleton.1 hd; exact O9⟩, S9.old⟩

end Go.Proofs.YtnmnihlhcokjpaaGreatDoor

/- Config: contract. -/
namespace Go.Proofs.YtnmnihlhcokjpaaGreatDoor
set_option maxRecDepth 100000
open Go.ChangeShapes Go.WideShapes Go.ChangeAt Go.RowKit
set_option linter.unusedVariables false
set_option linter.unusedSimpArgs false

set_option maxHeartbeats 4000000 in
theorem sconf_is (t : Th) (A : Option Addr) (n cap : Nat) (L : List Po) (i : Int) (hi : -9223372036854775808 ≤ i ∧ i ≤ 9223372036854775807) (hL : Hid (L.length = n)) (hf : n ≤ 200) (ht : Hid (ThB t)) (hn : Hid (-9223372036854775808 ≤ t.n1 ∧ t.n1 ≤ 9223372036854775807 ∧ -9223372036854775808 ≤ t.n2 ∧ t.n2 ≤ 9223372036854775807 ∧ -9223372036854775808 ≤ t.n3 ∧ t.n3 ≤ 9223372036854775807)) (hb : Hid (∀ x ∈ L, PoB x)) (hc : Hid (A = none → cap = 0)) (w : World) (hd : Hd w) (hp : Hid (PoAt w A w.heap.size L)) :
    Calls Tryz.prog 35 #[.agg (lT t A n cap).toArray, .int .i64 i] w (ConfEnd w t n (confR t L i)) := by
  obtain ⟨R, hR⟩ : ∃ R, confR t L i = R := ⟨_, rfl⟩
  rw [hR]
  have HR := Lib.hid hR
  clear hR
  have HD := Lib.hid hd
  clear hd
  obtain ⟨wb, hwb, S⟩ := hs_two w 31 31 (lT t A n cap) [.int .u64 0, .int .u64 0, .int .u32 0, .int .i64 0, .int .i64 0, .int .i64 0, .int .i64 0, .int .i64 0, .int .i64 0, .int .i64 0, .bool false, .bool false, .bool false, .int .i64 0, .bool false, .int .i64 0, .bool false, .int .i64 0, .slice none 0 0]
  go_enter Tryz.func35, Tryz.ntmps35
  go_upto_region 1 with fail
  clear hwb
  obtain ⟨X, hX⟩ : ∃ X, w.heap.size = X := ⟨_, rfl⟩
  rw [hX] at S
  obtain ⟨Y, hY⟩ : ∃ Y, X + 1 = Y := ⟨_, rfl⟩
  rw [hY] at S
  rw [hX]
  rw [hY]
  clear hX hY
  have hp1 := Lib.hid ((hp.out.below S.old (Nat.le_refl _)).wide S.old.size)
  have HC := Lib.hid (tcopy_is t A n cap L hL hf hc wb hp1)
  have hx := S.bk 1 rfl
  go_wp2_with (with_reducible refine wpList_load_row rfl 31 (.tmp 2) rfl X (by kernel_rfl) _ _ (0, 0) _ hx Tryz.underlying31 rfl (by kernel_rfl) ?_)
  (with_reducible refine HC.out.mono ?_); rintro e w1 ⟨D, cap', rfl, hz, k1⟩
  have S1 := TS.take S k1
  have HZ := Lib.hid hz
  clear S hx HC hp1 k1 hz
  have hx := S1.hs.bk 1 rfl
  go_upto_region 2 with (refine wpList_store_row rfl 31 _ _ rfl X _ rfl rfl _ _ hx (by kernel_rfl) (by kernel_rfl) (by kernel_rfl) ?_)
  have S2 : TS w [(Y, 31, [.int .u64 0, .int .u64 0, .int .u32 0, .int .i64 0, .int .i64 0, .int .i64 0, .int .i64 0, .int .i64 0, .int .i64 0, .int .i64 0, .bool false, .bool false, .bool false, .int .i64 0, .bool false, .int .i64 0, .bool false, .int .i64 0, .slice none 0 0]), (X, 31, lT t D n cap')] D L _ := S1.row 1 rfl (lT t D n cap')
  generalize w1.setRow X (lT t D n cap').toArray = w2 at S2 ⊢
  clear S1 hx
  obtain ⟨q, hq⟩ : ∃ q, (decide (0 ≤ i) && decide (i < (n : Int))) = q := ⟨_, rfl⟩
  have HT := fun W => Lib.hid (there_is t D n cap' i q (Lib.hid hq) W)
  have HQ := Lib.hid hq
  clear hq
  have hx := S2.hs.bk 1 rfl
  go_wp2_with (with_reducible refine wpList_load_row rfl 31 (.tmp 2) rfl X (by kernel_rfl) _ _ (0, 0) _ hx Tryz.underlying31 rfl (by kernel_rfl) ?_)
  (with_reducible refine (HT _).out.mono ?_); rintro e w3 ⟨rfl, b3⟩
  have S3 := S2.below b3
  clear S2 hx HT b3
  cases q with
  | false =>
    obtain rfl : (L, []) = R := by
      rw [← HR.out]
      have h := HQ.out
      simp only [Bool.and_eq_false_iff, decide_eq_false_iff_not] at h
      rcases h with h | h
      · rw [confR_neg (by omega)]
      · rw [confR_out (by have := hL.out; omega)]
    have hx := S3.hs.bk 1 rfl
    have hy := S3.hs.bk 0 rfl
    go_wp2_with (first | (with_reducible refine wpList_load_row rfl 31 (.tmp 2) rfl X (by kernel_rfl) _ _ (0, 0) _ hx Tryz.underlying31 rfl (by kernel_rfl) ?_) | (refine wpList_store_row rfl 31 _ _ rfl Y _ rfl rfl _ _ hy (by kernel_rfl) (by kernel_rfl) (by kernel_rfl) ?_))
    exact bodyPost_ret (v := .tuple #[.agg (lT t D n cap').toArray, .slice none 0 0]) (results_two rfl _ _ Y _ _ _ _ rfl _ rfl (setRow_heap _ _ _ _ _ _ hy) Tryz.underlying31 rfl (by kernel_rfl)) rfl ⟨D, cap', _, rfl, HZ.out, (S3.row 0 rfl (lT t D n cap')).nobox, OutsR.nil _ _⟩
  | true =>
    have h := HQ.out
    simp only [Bool.and_eq_true, decide_eq_true_eq] at h
    obtain ⟨h0, h1⟩ := h
    obtain ⟨k, rfl⟩ : ∃ k : Nat, i = k := ⟨i.toNat, by omega⟩
    have hkn : k < n := by omega
    obtain ⟨x, hx0⟩ := po_at hL.out hkn
    have hR2 := HR.out
    rw [confR_told hx0] at hR2
    have HX := Lib.hid hx0
    clear hx0 h0 h1 hi
    have hki : (k : Int) < (n : Int) := by omega
    have hkz : ¬ (n : Int) ≤ (k : Int) := by omega
    obtain ⟨g, rfl, -⟩ := S3.at HX.out
    have HTO := Lib.hid (told_is t (some ⟨g, 0, none⟩) n cap' L k x HX hL hf ht hn hb w3 (HD.out.below S3.old (Nat.le_refl _)) (Lib.hid S3.ports))
    obtain ⟨R1, hRR⟩ : ∃ R, toldR t L k x = R := ⟨_, rfl⟩
    rw [hRR] at HTO hR2
    clear hRR
    obtain rfl : (L.set k R1.1, R1.2) = R := hR2
    have hx := S3.hs.bk 1 rfl
    go_wp2_with (with_reducible refine wpList_load_row rfl 31 (.tmp 2) rfl X (by kernel_rfl) _ _ (0, 0) _ hx Tryz.underlying31 rfl (by kernel_rfl) ?_)
    (with_reducible refine HTO.out.mono ?_); rintro e w4 ⟨v, rfl, hO, b4⟩
    have S4 := S3.below b4
    clear hx HTO b4
    go_upto_region 5 with (refine wpList_store_row rfl 63 _ _ rfl _ _ rfl rfl _ _ (heap_alloc_new _ _) (by kernel_rfl) (by kernel_rfl) (by kernel_rfl) ?_)
    rw [alloc_row]
    have S5 := S4.al rfl 63 (lP R1.1)
    have hO5 := hO.below (new_below w4 (.cells (lP R1.1).toArray 63))
    have hPw : w4.heap.size < (w4.alloc (.cells (lP R1.1).toArray 63)).heap.size := by simp
    obtain ⟨P, hP⟩ : ∃ P, w4.heap.size = P := ⟨_, rfl⟩
    rw [hP] at S5 ⊢
    obtain ⟨w5, hw5⟩ : ∃ w5, w4.alloc (.cells (lP R1.1).toArray 63) = w5 := ⟨_, rfl⟩
    rw [hw5] at S5 hO5 ⊢
    clear hw5 hP S4 hO hPw
    have HGW := Lib.hid (S3.at_lt HX.out)
    have HYW := Lib.hid (S3.hs.lt 0 rfl)
    have HWB := Lib.hid S3.old.size
    have HOO := Lib.hid hO5
    clear S3 hO5
    have hth := S5.there HX.out R1.1
    have c18 := S5.hs.cell 2 18 rfl rfl
    have hz := S5.hs.bk 0 rfl
    go_upto_region 6 with (first | (with_reducible refine wpList_load_row rfl 63 (.tmp 6) rfl P (by kernel_rfl) _ _ (0, 0) _ hz Tryz.underlying63 rfl (by kernel_rfl) ?_) | (with_reducible refine wpList_store_mid rfl 63 (.tmp 25) _ rfl g (k * 15) (lP R1.1).toArray (by kernel_rfl) (by kernel_rfl) hth (by kernel_rfl) (by kernel_rfl) ?_))
    have S6 := (S5.whole HX.out R1.1).tail
    have hO6 : OutsR (w5.setCells g (k * 15) (lP R1.1)) w3.heap.size v R1.2 := HOO.out.heap (fun b hb => setCells_other _ _ _ b (by have := HGW.out; omega))
    generalize w5.setCells g (k * 15) (lP R1.1) = w6 at S6 hO6 ⊢
    clear S5 hth c18 hz HOO
    have hO7 := Lib.hid ((hO6.heap (w' := w6.setRow Y (lT t (some ⟨g, 0, none⟩) n cap').toArray) (fun b hb => setRow_other w6 Y b _ (by have := HYW.out; omega))).mono HWB.out)
    clear hO6
    have hx := S6.hs.bk 1 rfl
    have hy := S6.hs.bk 0 rfl
    go_wp2_with (first | (with_reducible refine wpList_load_row rfl 31 (.tmp 2) rfl X (by kernel_rfl) _ _ (0, 0) _ hx Tryz.underlying31 rfl (by kernel_rfl) ?_) | (refine wpList_store_row rfl 31 _ _ rfl Y _ rfl rfl _ _ hy (by kernel_rfl) (by kernel_rfl) (by kernel_rfl) ?_))
    exact bodyPost_ret (v := .tuple #[.agg (lT t (some ⟨g, 0, none⟩) n cap').toArray, v]) (results_two rfl _ _ Y _ _ _ _ rfl _ rfl (setRow_heap _ _ _ _ _ _ hy) Tryz.underlying31 rfl (by kernel_rfl)) rfl ⟨(some ⟨g, 0, none⟩), cap', _, rfl, (fun e => by cases e), (S6.row 0 rfl (lT t (some ⟨g, 0, none⟩) n cap')).nobox, hO7.out⟩

end Go.Proofs.YtnmnihlhcokjpaaGreatDoor

/- All: contract. -/
namespace Go.Proofs.YtnmnihlhcokjpaaGreatDoor
set_option maxRecDepth 100000
open Go.ChangeShapes Go.WideShapes Go.ChangeAt Go.RowKit
set_option linter.unusedVariables false
set_option linter.unusedSimpArgs false

theorem TS.grow {w wx wy : World} {l : List (Nat × TypeId × List Value)} {D : Option Addr} {L : List Po} {row : Option Nat} {base : Nat} (h : TS w l D L wx) (gr : wx.grownBy wy row) (hr : ∀ k, row = some k → base ≤ k) (hl : ∀ x ∈ l, x.1 < base) (hD : L ≠ [] → ∀ ad, D = some ad → ad.block < base) (hb : w.heap.size ≤ base) : TS w l D L wy := by
  refine ⟨h.1.grow gr hr hl hb, ?_⟩
  rcases h.2 with e | ⟨g, r, e, s⟩
  · exact .inl e
  · by_cases hL : L = []
    · exact .inl hL
    · refine .inr ⟨g, r, e, s.grow gr hr (fun x hx => ?_) hb⟩
      rcases List.mem_append.1 hx with q | q
      · exact hl x q
      · obtain rfl := List.mem_singleton.1 q
        exact hD hL _ e

set_option maxHeartbeats 4000000 in
theorem sall_ts (t : Th) (A : Option Addr) (n cap : Nat) (L : List Po) (hL : Hid (L.length = n)) (hf : n ≤ 200) (ht : Hid (ThB t)) (hn : Hid (-9223372036854775808 ≤ t.n1 ∧ t.n1 ≤ 9223372036854775807 ∧ -9223372036854775808 ≤ t.n2 ∧ t.n2 ≤ 9223372036854775807 ∧ -9223372036854775808 ≤ t.n3 ∧ t.n3 ≤ 9223372036854775807)) (hb : Hid (∀ x ∈ L, PoB x)) (hc : Hid (A = none → cap = 0)) (w : World) (hd : Hd w) (hp : Hid (PoAt w A w.heap.size L)) :
    Calls Tryz.prog 55 #[.agg (lT t A n cap).toArray] w (ConfEnd w t n (allR t L n)) := by
  have HD := Lib.hid hd
  clear hd
  obtain ⟨wb, hwb, S⟩ := hs_two w 31 31 (lT t A n cap) [.int .u64 0, .int .u64 0, .int .u32 0, .int .i64 0, .int .i64 0, .int .i64 0, .int .i64 0, .int .i64 0, .int .i64 0, .int .i64 0, .bool false, .bool false, .bool false, .int .i64 0, .bool false, .int .i64 0, .bool false, .int .i64 0, .slice none 0 0]
  go_enter Tryz.func55, Tryz.ntmps55
  go_upto_region 1 with fail
  clear hwb
  obtain ⟨X, hX⟩ : ∃ X, w.heap.size = X := ⟨_, rfl⟩
  rw [hX] at S
  obtain ⟨Y, hY⟩ : ∃ Y, X + 1 = Y := ⟨_, rfl⟩
  rw [hY] at S
  rw [hX]
  rw [hY]
  clear hX hY
  have hp1 := Lib.hid ((hp.out.below S.old (Nat.le_refl _)).wide S.old.size)
  have HC := Lib.hid (tcopy_is t A n cap L hL hf hc wb hp1)
  have hx := S.bk 1 rfl
  go_wp2_with (with_reducible refine wpList_load_row rfl 31 (.tmp 1) rfl X (by kernel_rfl) _ _ (0, 0) _ hx Tryz.underlying31 rfl (by kernel_rfl) ?_)
  (with_reducible refine HC.out.mono ?_); rintro e w1 ⟨D, cap', rfl, hz, k1⟩
  have S1 := TS.take S k1
  have HZ := Lib.hid hz
  clear S hx HC hp1 k1 hz
  have hx := S1.hs.bk 1 rfl
  go_upto_region 2 with (refine wpList_store_row rfl 31 _ _ rfl X _ rfl rfl _ _ hx (by kernel_rfl) (by kernel_rfl) (by kernel_rfl) ?_)
  have S2 : TS w [(Y, 31, [.int .u64 0, .int .u64 0, .int .u32 0, .int .i64 0, .int .i64 0, .int .i64 0, .int .i64 0, .int .i64 0, .int .i64 0, .int .i64 0, .bool false, .bool false, .bool false, .int .i64 0, .bool false, .int .i64 0, .bool false, .int .i64 0, .slice none 0 0]), (X, 31, lT t D n cap')] D L _ := S1.row 1 rfl (lT t D n cap')
  generalize w1.setRow X (lT t D n cap').toArray = w2 at S2 ⊢
  clear S1 hx
  obtain ⟨base, hbs⟩ : ∃ b, w2.heap.size = b := ⟨_, rfl⟩
  have hlow : ∀ cs ds : List Value, ∀ y ∈ ([(Y, 31, cs), (X, 31, ds)] : List (Nat × TypeId × List Value)), y.1 < base := fun cs ds => by
    rw [← hbs]
    exact List.forall_mem_cons.2 ⟨S2.hs.lt 0 rfl, List.forall_mem_cons.2 ⟨S2.hs.lt 1 rfl, fun y hy => by cases hy⟩⟩
  have HLOW := Lib.hid hlow
  have HWB := Lib.hid (show w.heap.size ≤ base by rw [← hbs]; exact S2.old.size)
  have hbw : base ≤ w2.heap.size := Nat.le_of_eq hbs.symm
  have HDB : Hid (L ≠ [] → ∀ ad, D = some ad → ad.block < base) := Lib.hid (fun hne ad e => by
    obtain ⟨x, hx⟩ : ∃ x, L[0]? = some x := by
      cases L with
      | nil => exact absurd rfl hne
      | cons x r => exact ⟨x, rfl⟩
    obtain ⟨g, e', h1, _⟩ := S2.at hx
    rw [e] at e'
    cases e'
    rw [← hbs]
    exact h1.2)
  clear hlow hbs
  have c18 := S2.hs.cell 1 18 rfl rfl
  go_wp2
  clear c18
  go_loopw [4, 14] (fun v i wr => ∃ k : Nat, k ≤ n ∧ i = .int .i64 k ∧ TS w [(Y, 31, [.int .u64 0, .int .u64 0, .int .u32 0, .int .i64 0, .int .i64 0, .int .i64 0, .int .i64 0, .int .i64 0, .int .i64 0, .int .i64 0, .bool false, .bool false, .bool false, .int .i64 0, .bool false, .int .i64 0, .bool false, .int .i64 0, .slice none 0 0]), (X, 31, lT t D n cap')] D (allR t L k).1 wr ∧ base ≤ wr.heap.size ∧ Hid (OutsR wr base v (allR t L k).2)) (fun v i _ => n - (intOf i).toNat)
  case atStart => exact ⟨0, Nat.zero_le _, rfl, S2, hbw, Lib.hid (OutsR.nil _ _)⟩
  case round =>
    clear S2 hbw
    obtain ⟨k, hk, rfl, S, hbw, HO⟩ := hrel
    have HBD := Lib.hid (allR_bd (t := t) hb.out k)
    have HLN := Lib.hid (show (allR t L k).1.length = n by rw [HBD.out.1, hL.out])
    by_cases hkn : k < n
    · have hki : (k : Int) < (n : Int) := by omega
      have hkz : ¬ (n : Int) ≤ (k : Int) := by omega
      obtain ⟨x, hx⟩ := po_at HLN.out hkn
      have HX := Lib.hid hx
      obtain ⟨g, hDg, hg, hcl, hfz⟩ := S.at hx
      subst hDg
      have HGB := Lib.hid (HDB.out (by have := hL.out; intro e; rw [e] at this; simp at this; omega) _ rfl)
      have hat : ∀ i v, (lP x)[i]? = some v → wr.cell? ((⟨g, k * 15, none⟩ : Addr).add i) = some v := fun i v hv => by rw [addr_add]; exact hcl i v hv
      clear hx hcl hfz hg
      go_upto_region 6 with (first | (with_reducible refine wpList_load_at rfl 63 (.tmp 17) rfl ⟨g, k * 15, none⟩ (by kernel_rfl) _ _ hat Tryz.underlying63 rfl (by kernel_rfl) ?_) | (refine wpList_store_row rfl 63 _ _ rfl _ _ rfl rfl _ _ (heap_alloc_new _ _) (by kernel_rfl) (by kernel_rfl) (by kernel_rfl) ?_))
      rw [alloc_row]
      have T1 := S.al rfl 63 (lP x)
      have HOa := HO.out.below (new_below wr (.cells (lP x).toArray 63))
      have hbw1 : base ≤ (wr.alloc (.cells (lP x).toArray 63)).heap.size := Nat.le_trans hbw (by simp)
      obtain ⟨P, hP⟩ : ∃ P, wr.heap.size = P := ⟨_, rfl⟩
      rw [hP] at T1 ⊢
      obtain ⟨v1, hv1⟩ : ∃ v, wr.alloc (.cells (lP x).toArray 63) = v := ⟨_, rfl⟩
      rw [hv1] at T1 HOa hbw1 ⊢
      clear hv1 hP S HO hat hbw
      have c1 := T1.hs.cell 0 1 rfl rfl
      have c0 := T1.hs.cell 2 0 rfl rfl
      obtain ⟨d, hd⟩ : ∃ d, desB x t.ow = d := ⟨_, rfl⟩
      have HDE := fun W => Lib.hid (desig_row x t.ow d (Lib.hid hd) W)
      have HDD := Lib.hid hd
      clear hd
      obtain ⟨tl, htl⟩ : ∃ b, tellsB t x = b := ⟨_, rfl⟩
      have HTL := Lib.hid htl
      clear htl
      try simp only [Act.put]
      go_cut [28] (fun u wx => u = .bool (!tl) ∧ Below v1.heap.size v1 wx)
      case first =>
        by_cases hst : x.st = 0
        · obtain rfl : false = tl := by rw [← HTL.out]; unfold tellsB; rw [hst]; simp
          have hb1 : (x.st == 0) = true := by simp [hst]
          clear hst
          go_wp2_with fail
          go_meet
          exact ⟨rfl, Below.refl _ _⟩
        · have hb1 : (x.st == 0) = false := by simpa using hst
          obtain rfl : d = tl := by rw [← HTL.out, ← HDD.out]; unfold tellsB desB; simp [hst]
          clear hst
          have hz := T1.hs.bk 0 rfl
          go_wp2_with (with_reducible refine wpList_load_rowG (by kernel_rfl) 63 (.tmp 6) rfl P (by kernel_rfl) _ _ (0, 0) _ hz Tryz.underlying63 rfl (by kernel_rfl) ?_)
          (with_reducible refine (HDE _).out.mono ?_); rintro e v2 ⟨rfl, b2⟩
          clear hz
          cases d with
          | true =>
            go_wp2_with fail
            go_meet
            exact ⟨rfl, b2⟩
          | false =>
            go_wp2_with fail
            go_meet
            exact ⟨rfl, b2⟩
      case rest =>
        obtain ⟨rfl, B1⟩ := hcut
        have S1 := (T1.below B1).tail
        have HO1 := Lib.hid (HOa.below B1)
        have hbw2 : base ≤ wc.heap.size := Nat.le_trans hbw1 B1.size
        clear T1 HOa hbw1 B1 c1 c0 HDE
        cases tl with
        | false =>
          go_wp2
          go_roundw
          case rel => exact ⟨k + 1, by omega, by go_num, by rw [allR, allStep_no HX.out HTL.out]; exact S1, hbw2, Lib.hid (by rw [allR, allStep_no HX.out HTL.out]; exact HO1.out)⟩
          case measure => simp [intOf]; omega
        | true =>
          have HTO := Lib.hid (told_is t (some ⟨g, 0, none⟩) n cap' (allR t L k).1 k x HX HLN hf ht hn (Lib.hid HBD.out.2.2) wc (HD.out.below S1.old (Nat.le_refl _)) (Lib.hid S1.ports))
          have hstep : allR t L (k + 1) = ((allR t L k).1.set k (toldR t (allR t L k).1 k x).1, (allR t L k).2 ++ (toldR t (allR t L k).1 k x).2) := by
            rw [allR, allStep_yes HX.out HTL.out, confR_told HX.out]
          have hfew : (toldR t (allR t L k).1 k x).2.length ≤ 1 := by
            have := confR_few t (allR t L k).1 k
            rw [confR_told HX.out] at this
            exact this
          obtain ⟨R1, hRR⟩ : ∃ R, toldR t (allR t L k).1 k x = R := ⟨_, rfl⟩
          rw [hRR] at HTO hstep hfew
          clear hRR
          have HST := Lib.hid hstep
          clear hstep
          go_upto_region 7 with fail
          have hx := S1.hs.bk 1 rfl
          go_wp2_with (with_reducible refine wpList_load_row rfl 31 (.tmp 1) rfl X (by kernel_rfl) _ _ (0, 0) _ hx Tryz.underlying31 rfl (by kernel_rfl) ?_)
          (with_reducible refine HTO.out.mono ?_); rintro e w4 ⟨v, rfl, hO, b4⟩
          have S4 := S1.below b4
          have HO4 := HO1.out.below b4
          have hw4 := b4.size
          clear hx HTO b4
          go_upto_region 8 with (refine wpList_store_row rfl 63 _ _ rfl _ _ rfl rfl _ _ (heap_alloc_new _ _) (by kernel_rfl) (by kernel_rfl) (by kernel_rfl) ?_)
          rw [alloc_row]
          have S5 := S4.al rfl 63 (lP R1.1)
          have hO5 := hO.below (new_below w4 (.cells (lP R1.1).toArray 63))
          have HO5 := HO4.below (new_below w4 (.cells (lP R1.1).toArray 63))
          obtain ⟨Q, hQ⟩ : ∃ Q, w4.heap.size = Q := ⟨_, rfl⟩
          rw [hQ] at S5 ⊢
          obtain ⟨w5, hw5⟩ : ∃ w5, w4.alloc (.cells (lP R1.1).toArray 63) = w5 := ⟨_, rfl⟩
          rw [hw5] at S5 hO5 HO5 ⊢
          have hbw5 : base ≤ w5.heap.size := by rw [← hw5]; exact Nat.le_trans (Nat.le_trans hbw2 hw4) (by simp)
          clear hw5 hQ S4 hO HO4 hw4
          have HWC := Lib.hid hbw2
          clear S1 HO1
          have hth := S5.there HX.out R1.1
          have c18 := S5.hs.cell 2 18 rfl rfl
          have hz := S5.hs.bk 0 rfl
          go_upto_region 9 with (first | (with_reducible refine wpList_load_row rfl 63 (.tmp 7) rfl Q (by kernel_rfl) _ _ (0, 0) _ hz Tryz.underlying63 rfl (by kernel_rfl) ?_) | (with_reducible refine wpList_store_mid rfl 63 (.tmp 39) _ rfl g (k * 15) (lP R1.1).toArray (by kernel_rfl) (by kernel_rfl) hth (by kernel_rfl) (by kernel_rfl) ?_))
          have S6 := (S5.whole HX.out R1.1).tail
          have hO6 := hO5.heap (w' := w5.setCells g (k * 15) (lP R1.1)) (fun b hb => setCells_other _ _ _ b (by have h1 := HGB.out; have h2 := HWC.out; omega))
          have HO6 := HO5.heap (w' := w5.setCells g (k * 15) (lP R1.1)) (fun b hb => setCells_other _ _ _ b (by have h1 := HGB.out; omega))
          have hbw6 : base ≤ (w5.setCells g (k * 15) (lP R1.1)).heap.size := Nat.le_trans hbw5 (Below.setCells (B := 0) (Nat.zero_le _) (lP R1.1) (k * 15) w5 (Below.refl 0 w5)).size
          obtain ⟨w6, hw6⟩ : ∃ v, w5.setCells g (k * 15) (lP R1.1) = v := ⟨_, rfl⟩
          rw [hw6] at S6 hO6 HO6 hbw6 ⊢
          clear hw6 S5 hO5 HO5 hbw5 hth c18 hz
          have HOC := HO6
          obtain ⟨C, -, hown, -⟩ := HOC
          have hln : (allR t L k).2.length + R1.2.length ≤ 100000 := by
            have h1 := HBD.out.2.1
            omega
          go_wp2_with (at_builtin; refine append_outs _ rfl (.tmp 40) (.tmp 41) rfl base wc.heap.size u4 v (allR t L k).2 R1.2 rfl rfl HO6 hO6 hbw2 hln hbw6 w6 (Below.refl _ _) ?_; intro v' w7 hO7 hb7 gr7; have S7 := S6.grow gr7 (fun b hb => (World.ownsRow.lt hown b hb).1) (HLOW.out _ _) (fun _ ad e => by cases e; exact HGB.out) HWB.out; have hbw7 : base ≤ w7.heap.size := Nat.le_trans hbw6 gr7.size; clear S6 hO6 HO6 hown hln hb7 gr7)
          go_roundw
          case rel => exact ⟨k + 1, by omega, by go_num, by rw [HST.out]; exact S7, hbw7, Lib.hid (by rw [HST.out]; exact hO7)⟩
          case measure => simp [intOf]; omega
    · have hki : ¬ (k : Int) < (n : Int) := by omega
      have hke : k = n := by omega
      subst hke
      go_upto_region 11 with fail
      have hx := S.hs.bk 1 rfl
      have hy := S.hs.bk 0 rfl
      have S2 := S.row 0 rfl (lT t D k cap')
      have hYb : Y < base := HLOW.out [] [] (Y, 31, []) (by simp)
      have hO := Lib.hid ((HO.out.heap (w' := wr.setRow Y (lT t D k cap').toArray) (fun b hb => setRow_other wr Y b _ (by omega))).mono HWB.out)
      have hyF := setRow_heap wr Y _ (lT t D k cap').toArray _ _ hy
      clear hYb
      go_wp2_with (first | (with_reducible refine wpList_load_row rfl 31 (.tmp 1) rfl X (by kernel_rfl) _ _ (0, 0) _ hx Tryz.underlying31 rfl (by kernel_rfl) ?_) | (refine wpList_store_row rfl 31 _ _ rfl Y _ rfl rfl _ _ hy (by kernel_rfl) (by kernel_rfl) (by kernel_rfl) ?_))
      exact bodyPost_ret (v := .tuple #[.agg (lT t D k cap').toArray, u4]) (results_two rfl _ _ Y _ _ _ _ rfl _ rfl hyF Tryz.underlying31 rfl (by kernel_rfl)) rfl ⟨D, cap', _, rfl, HZ.out, S2.nobox, hO.out⟩
end Go.Proofs.YtnmnihlhcokjpaaGreatDoor
