/- Several texts in one, one behind the other: SendTold, SendConf, SendAllPure, SendAppend. -/
import Derived.Test.YtcamakkicmapcaaDoorPk08
import Derived.Test.YtcamakkicmapcaaDoorPk02
import Derived.Deep.DeepCutAuto
import Derived.Test.YtcamakkicmapcaaDoorPk04
import Derived.Test.YtcamakkicmapcaaDoorPk07
import Derived.Laws.AppendOwnNone

/- told: contract. -/
namespace Go.Proofs.YtcamakkicmapcaaDoor
set_option maxRecDepth 100000
open Go.ChangeShapes Go.WideShapes Go.ChangeAt Go.RowKit
set_option linter.unusedVariables false
set_option linter.unusedSimpArgs false

/-- A port told: itself, and what goes out. -/
def toldR (t : Th) (L : List Po) (k : Nat) (p : Po) : Po × List Ou := if p.ho = true then (owingP p, []) else if t.n1 ≤ toldI t L then (p, []) else (sentP p, [⟨k, t.ow % 281474976710656, confQ t (toldI t L) p⟩])
theorem confR_told {t : Th} {L : List Po} {k : Nat} {p : Po} (h : L[k]? = some p) : confR t L k = (L.set k (toldR t L k p).1, (toldR t L k p).2) := by
  rw [confR_at h]
  unfold toldR
  split
  · rfl
  · split
    · have : L.set k p = L := by
        have hk : k < L.length := po_lt h
        have e : L[k] = p := by rw [List.getElem?_eq_getElem hk] at h; exact Option.some.inj h
        rw [← e]; exact List.set_getElem_self hk
      simp only [this]
    · rfl
def ToldEnd (w : World) (R : Po × List Ou) (e : Ending) (w' : World) : Prop := ∃ v, e = .returned (.tuple #[.agg (lP R.1).toArray, v]) ∧ OutsR w' w.heap.size v R.2 ∧ Below w.heap.size w w'

set_option maxHeartbeats 4000000 in
theorem told_is (t : Th) (A : Option Addr) (n cap : Nat) (L : List Po) (k : Nat) (p : Po) (hk : Hid (L[k]? = some p)) (hL : Hid (L.length = n)) (hf : n ≤ 200) (ht : Hid (ThB t)) (hn : Hid (-9223372036854775808 ≤ t.n1 ∧ t.n1 ≤ 9223372036854775807 ∧ -9223372036854775808 ≤ t.n2 ∧ t.n2 ≤ 9223372036854775807 ∧ -9223372036854775808 ≤ t.n3 ∧ t.n3 ≤ 9223372036854775807)) (hb : Hid (∀ x ∈ L, PoB x)) (w : World) (hd : Hd w) (hp : Hid (PoAt w A w.heap.size L)) :
    Calls Tryd.prog 32 #[.agg (lT t A n cap).toArray, .int .i64 k] w (ToldEnd w (toldR t L k p)) := by
  obtain ⟨R, hR⟩ : ∃ R, toldR t L k p = R := ⟨_, rfl⟩
  rw [hR]
  have HR := Lib.hid hR
  clear hR
  have HD := Lib.hid hd
  clear hd
  obtain ⟨a, ha⟩ : ∃ a, toldI t L = a := ⟨_, rfl⟩
  have HA := Lib.hid ha
  clear ha
  have HAG := fun W (h : Below w.heap.size w W) => Lib.hid (age_is t A n cap L a HA hL hf hb W (Lib.hid ((hp.out.below h (Nat.le_refl _)).wide h.size)))
  have HCF := fun W (h : Below w.heap.size w W) => Lib.hid (config_is t A n cap L p a HA hL hf hn hb W (Lib.hid ((hp.out.below h (Nat.le_refl _)).wide h.size)))
  have HPB := hb.out p (List.mem_of_getElem? hk.out)
  have hkn : k < n := by have := po_lt hk.out; rw [hL.out] at this; exact this
  have hkz : ¬ (n : Int) ≤ (k : Int) := by omega
  have hki : (k : Int) < (n : Int) := by omega
  have hBQ : BqIn (confQ t a p) := confQ_in ht.out HPB
  have HGO := fun W (h : Below w.heap.size w W) => Lib.hid (goes_is t A n cap k (confQ t a p) hBQ ht.out.1 W (HD.out.below h (Nat.le_refl _)))
  clear hBQ HPB
  obtain ⟨ad, hA⟩ := hp.out.some hk.out
  have hat0 := hp.out.at hk.out hA
  subst hA
  obtain ⟨wb, hwb, S⟩ := hs_two w 31 48 (lT t (some ad) n cap) [.int .u16 0, .int .i64 0, .int .u32 0, .int .u64 0, .int .u32 0, .int .u64 0, .int .u16 0, .bool false, .bool false, .bool false, .int .i64 0, .bool false, .int .i64 0, .bool false, .int .i64 0]
  go_enter Tryd.func32, Tryd.ntmps32
  go_upto_region 1 with fail
  clear hwb
  obtain ⟨X, hX⟩ : ∃ X, w.heap.size = X := ⟨_, rfl⟩
  rw [hX] at S
  obtain ⟨Y, hY⟩ : ∃ Y, X + 1 = Y := ⟨_, rfl⟩
  rw [hY] at S
  rw [hX]
  rw [hY]
  have HX := Lib.hid hX
  clear hX hY
  have c18 := S.cell 1 18 rfl rfl
  have hat : ∀ i v, (lP p)[i]? = some v → wb.cell? ((ad.add (k * 15)).add i) = some v := ((hp.out.below S.old (Nat.le_refl _)).at hk.out rfl)
  clear hat0
  go_upto_region 2 with (first | (with_reducible refine wpList_load_at rfl 48 (.tmp 11) rfl (ad.add (k * 15)) (by kernel_rfl) _ _ hat Tryd.underlying48 rfl (by kernel_rfl) ?_) | (refine wpList_store_row rfl 48 _ _ rfl _ _ rfl rfl _ _ (heap_alloc_new _ _) (by kernel_rfl) (by kernel_rfl) (by kernel_rfl) ?_))
  rw [alloc_row]
  have S1 := S.al rfl 48 (lP p)
  obtain ⟨P, hP⟩ : ∃ P, wb.heap.size = P := ⟨_, rfl⟩
  rw [hP] at S1 ⊢
  obtain ⟨w1, hw1⟩ : ∃ w1, wb.alloc (.cells (lP p).toArray 48) = w1 := ⟨_, rfl⟩
  rw [hw1] at S1 ⊢
  clear hw1 hP S c18 hat hkn hkz hki
  have c13 := S1.cell 0 13 rfl rfl
  have hR2 := HR.out
  unfold toldR at hR2
  rw [HA.out] at hR2
  clear HR
  obtain ⟨h, hh⟩ : ∃ h, p.ho = h := ⟨_, rfl⟩
  rw [hh] at c13 hR2
  clear hh
  cases h with
  | true =>
    obtain rfl : (owingP p, []) = R := hR2
    have c8 := S1.cell 0 8 rfl rfl
    have f8 := S1.thaw 0 8 rfl
    go_upto_region 4 with fail
    have S2 : Hs w [(P, 48, lP (owingP p)), (Y, 48, [.int .u16 0, .int .i64 0, .int .u32 0, .int .u64 0, .int .u32 0, .int .u64 0, .int .u16 0, .bool false, .bool false, .bool false, .int .i64 0, .bool false, .int .i64 0, .bool false, .int .i64 0]), (X, 31, lT t (some ad) n cap)] (w1.setCell ⟨P, 8, none⟩ (.bool true)) := S1.set 0 rfl 8 (.bool true)
    generalize w1.setCell ⟨P, 8, none⟩ (.bool true) = w2 at S2 ⊢
    clear S1 c13 c8 f8
    have hx := S2.bk 0 rfl
    have hy := S2.bk 1 rfl
    have S3 := S2.row 1 rfl (lP (owingP p))
    have hyF := S3.bk 1 rfl
    go_wp2_with (first | (with_reducible refine wpList_load_row rfl 48 (.tmp 6) rfl P (by kernel_rfl) _ _ (0, 0) _ hx Tryd.underlying48 rfl (by kernel_rfl) ?_) | (refine wpList_store_row rfl 48 _ _ rfl Y _ rfl rfl _ _ hy (by kernel_rfl) (by kernel_rfl) (by kernel_rfl) ?_))
    exact bodyPost_ret (v := .tuple #[.agg (lP (owingP p)).toArray, .slice none 0 0]) (results_two rfl _ _ Y _ _ _ _ rfl _ rfl hyF Tryd.underlying48 rfl (by kernel_rfl)) rfl ⟨_, rfl, OutsR.nil _ _, S3.old⟩
  | false =>
    rw [if_neg (by decide)] at hR2
    have HR2 := Lib.hid hR2
    clear hR2
    go_upto_region 5 with fail
    clear c13
    obtain ⟨b, hbb⟩ : ∃ b, decide (t.n1 ≤ a) = b := ⟨_, rfl⟩
    have HBB := Lib.hid hbb
    clear hbb
    go_cut [23] (fun u wx => u = .bool b ∧ Hs w [(P, 48, lP p), (Y, 48, [.int .u16 0, .int .i64 0, .int .u32 0, .int .u64 0, .int .u32 0, .int .u64 0, .int .u16 0, .bool false, .bool false, .bool false, .int .i64 0, .bool false, .int .i64 0, .bool false, .int .i64 0]), (X, 31, lT t (some ad) n cap)] wx)
    case first =>
      refine wp_region_held_drew (S := (fun w' => Hs w [(P, 48, lP p), (Y, 48, [.int .u16 0, .int .i64 0, .int .u32 0, .int .u64 0, .int .u32 0, .int .u64 0, .int .u16 0, .bool false, .bool false, .bool false, .int .i64 0, .bool false, .int .i64 0, .bool false, .int .i64 0]), (X, 31, lT t (some ad) n cap)] w')) (by kernel_rfl) (S1.drew) (fun hHeld => ?_)
      have S2 := S1.drew
      refine wpAnyH_take (i := 0) (v := _) rfl (by kernel_rfl) (by kernel_rfl) (by kernel_rfl) (fun _ _ _ h => h) (Or.inl ⟨by kernel_rfl, fun w' hSw => exec_load_row 31 _ rfl X (by kernel_rfl) _ _ (0, 0) _ (hSw.bk 2 rfl) Tryd.underlying31 rfl (by kernel_rfl)⟩) (by assumption) ?_
      try simp only [Act.put, List.getElem_toArray, List.getElem_cons_succ, List.getElem_cons_zero, List.setIfInBounds_toArray, List.set_cons_succ, List.set_cons_zero]
      refine wpAnyH_take (i := 2) (v := ?_) rfl (by kernel_rfl) (by kernel_rfl) (by kernel_rfl) (fun _ _ _ h => h) (Or.inl ⟨by kernel_rfl, ?_⟩) (by assumption) ?_
      rotate_left
      · intro w' hSw; (try dsimp only at hSw); go_simp; with_reducible rfl
      try simp only [Act.put, List.getElem_toArray, List.getElem_cons_succ, List.getElem_cons_zero, List.setIfInBounds_toArray, List.set_cons_succ, List.set_cons_zero]
      refine wpAnyH_take (i := 3) (v := ?_) rfl (by kernel_rfl) (by kernel_rfl) (by kernel_rfl) (fun _ _ _ h => h) (Or.inl ⟨by kernel_rfl, ?_⟩) (by assumption) ?_
      rotate_left
      · intro w' hSw; (try dsimp only at hSw); go_simp; with_reducible rfl
      try simp only [Act.put, List.getElem_toArray, List.getElem_cons_succ, List.getElem_cons_zero, List.setIfInBounds_toArray, List.set_cons_succ, List.set_cons_zero]
      refine wpAnyH_take (i := 4) (v := ?_) rfl (by kernel_rfl) (by kernel_rfl) (by kernel_rfl) (fun _ _ _ h => h) (Or.inl ⟨by kernel_rfl, ?_⟩) (by assumption) ?_
      rotate_left
      · intro w' hSw; (try dsimp only at hSw); have c0 := (hSw.cell 2 4 rfl rfl); go_simp; with_reducible rfl
      try simp only [Act.put, List.getElem_toArray, List.getElem_cons_succ, List.getElem_cons_zero, List.setIfInBounds_toArray, List.set_cons_succ, List.set_cons_zero]
      refine wpAnyH_ready (rs := [1]) (by kernel_rfl) (by simp) ?_
      refine AllReadyH.cons rfl (fun K hK => ?_) AllReadyH.nil
      go_simp
      (with_reducible refine (HAG _ S2.old).out.mono ?_); rintro e w3 ⟨rfl, b3⟩
      have S3 := S2.below b3
      refine hK.out _ _ (S3) (fun hHeld => ?_)
      clear hK K
      try simp only [Act.put, List.getElem_toArray, List.getElem_cons_succ, List.getElem_cons_zero, List.setIfInBounds_toArray, List.set_cons_succ, List.set_cons_zero]
      have hbb := HBB.out
      cases b with
      | true =>
        have hage : t.n1 ≤ a := of_decide_eq_true hbb
        clear hbb
        refine wpAnyH_take (i := 5) (v := ?_) rfl (by kernel_rfl) (by kernel_rfl) (by kernel_rfl) (fun _ _ _ h => h) (Or.inl ⟨by kernel_rfl, ?_⟩) (by assumption) ?_
        rotate_left
        · intro w' hSw; (try dsimp only at hSw); go_simp; with_reducible rfl
        try simp only [Act.put, List.getElem_toArray, List.getElem_cons_succ, List.getElem_cons_zero, List.setIfInBounds_toArray, List.set_cons_succ, List.set_cons_zero]
        refine wpAnyH_done (by kernel_rfl) ?_ _
        go_wp2_with fail
        go_meet
        exact ⟨rfl, S3⟩
      | false =>
        have hage : ¬ t.n1 ≤ a := of_decide_eq_false hbb
        clear hbb
        refine wpAnyH_take (i := 5) (v := ?_) rfl (by kernel_rfl) (by kernel_rfl) (by kernel_rfl) (fun _ _ _ h => h) (Or.inl ⟨by kernel_rfl, ?_⟩) (by assumption) ?_
        rotate_left
        · intro w' hSw; (try dsimp only at hSw); go_simp; with_reducible rfl
        try simp only [Act.put, List.getElem_toArray, List.getElem_cons_succ, List.getElem_cons_zero, List.setIfInBounds_toArray, List.set_cons_succ, List.set_cons_zero]
        refine wpAnyH_done (by kernel_rfl) ?_ _
        go_wp2_with fail
        go_meet
        exact ⟨rfl, S3⟩
    case rest =>
      obtain ⟨rfl, S2⟩ := hcut
      rename World => w2
      clear S1
      have hR3 := HR2.out
      have hbb := HBB.out
      cases b with
      | true =>
        obtain rfl : (p, []) = R := by rw [← hR3, if_pos (of_decide_eq_true hbb)]
        clear hbb hR3
        have hx := S2.bk 0 rfl
        have hy := S2.bk 1 rfl
        have S3 := S2.row 1 rfl (lP p)
        have hyF := S3.bk 1 rfl
        go_wp2_with (first | (with_reducible refine wpList_load_row rfl 48 (.tmp 6) rfl P (by kernel_rfl) _ _ (0, 0) _ hx Tryd.underlying48 rfl (by kernel_rfl) ?_) | (refine wpList_store_row rfl 48 _ _ rfl Y _ rfl rfl _ _ hy (by kernel_rfl) (by kernel_rfl) (by kernel_rfl) ?_))
        exact bodyPost_ret (v := .tuple #[.agg (lP p).toArray, .slice none 0 0]) (results_two rfl _ _ Y _ _ _ _ rfl _ rfl hyF Tryd.underlying48 rfl (by kernel_rfl)) rfl ⟨_, rfl, OutsR.nil _ _, S3.old⟩
      | false =>
        obtain rfl : (sentP p, [⟨k, t.ow % 281474976710656, confQ t a p⟩]) = R := by rw [← hR3, if_neg (of_decide_eq_false hbb)]
        clear hbb hR3 HR2 HAG
        go_upto_region 7 with fail
        go_cut [7] (fun u wx => ∃ Z c, u = .pointer (some ⟨Z, 0, none⟩) ∧ c.o = ⟨k, t.ow % 281474976710656, confQ t a p⟩ ∧ Hs w ((Z, 57, lO c) :: [(P, 48, lP p), (Y, 48, [.int .u16 0, .int .i64 0, .int .u32 0, .int .u64 0, .int .u32 0, .int .u64 0, .int .u16 0, .bool false, .bool false, .bool false, .int .i64 0, .bool false, .int .i64 0, .bool false, .int .i64 0]), (X, 31, lT t (some ad) n cap)]) wx ∧ OcAt wx w.heap.size c)
        case first =>
          refine wp_region_held_drew (S := (fun w' => Hs w [(P, 48, lP p), (Y, 48, [.int .u16 0, .int .i64 0, .int .u32 0, .int .u64 0, .int .u32 0, .int .u64 0, .int .u16 0, .bool false, .bool false, .bool false, .int .i64 0, .bool false, .int .i64 0, .bool false, .int .i64 0]), (X, 31, lT t (some ad) n cap)] w')) (by kernel_rfl) (S2.drew) (fun hHeld => ?_)
          have S3 := S2.drew
          obtain ⟨v3, hv3⟩ : ∃ v, w2.drew = v := ⟨_, rfl⟩
          rw [hv3] at S3 hHeld ⊢
          clear hv3
          refine wpAnyH_take (i := 0) (v := _) rfl (by kernel_rfl) (by kernel_rfl) (by kernel_rfl) (fun _ _ _ h => h) (Or.inl ⟨by kernel_rfl, fun w' hSw => exec_load_row 31 _ rfl X (by kernel_rfl) _ _ (0, 0) _ (hSw.bk 2 rfl) Tryd.underlying31 rfl (by kernel_rfl)⟩) (by assumption) ?_
          try simp only [Act.put, List.getElem_toArray, List.getElem_cons_succ, List.getElem_cons_zero, List.setIfInBounds_toArray, List.set_cons_succ, List.set_cons_zero]
          refine wpAnyH_take (i := 1) (v := ?_) rfl (by kernel_rfl) (by kernel_rfl) (by kernel_rfl) (fun _ _ _ h => h) (Or.inl ⟨by kernel_rfl, ?_⟩) (by assumption) ?_
          rotate_left
          · intro w' hSw; (try dsimp only at hSw); go_simp; with_reducible rfl
          try simp only [Act.put, List.getElem_toArray, List.getElem_cons_succ, List.getElem_cons_zero, List.setIfInBounds_toArray, List.set_cons_succ, List.set_cons_zero]
          refine wpAnyH_take (i := 2) (v := _) rfl (by kernel_rfl) (by kernel_rfl) (by kernel_rfl) (fun _ _ _ h => h) (Or.inl ⟨by kernel_rfl, fun w' hSw => exec_load_row 31 _ rfl X (by kernel_rfl) _ _ (0, 0) _ (hSw.bk 2 rfl) Tryd.underlying31 rfl (by kernel_rfl)⟩) (by assumption) ?_
          try simp only [Act.put, List.getElem_toArray, List.getElem_cons_succ, List.getElem_cons_zero, List.setIfInBounds_toArray, List.set_cons_succ, List.set_cons_zero]
          refine wpAnyH_take (i := 3) (v := _) rfl (by kernel_rfl) (by kernel_rfl) (by kernel_rfl) (fun _ _ _ h => h) (Or.inl ⟨by kernel_rfl, fun w' hSw => exec_load_row 48 _ rfl P (by kernel_rfl) _ _ (0, 0) _ (hSw.bk 0 rfl) Tryd.underlying48 rfl (by kernel_rfl)⟩) (by assumption) ?_
          try simp only [Act.put, List.getElem_toArray, List.getElem_cons_succ, List.getElem_cons_zero, List.setIfInBounds_toArray, List.set_cons_succ, List.set_cons_zero]
          refine wpAnyH_ready (rs := [4, 6]) (by kernel_rfl) (by simp) ?_
          refine AllReadyH.cons rfl (fun K hK => ?_) (AllReadyH.cons rfl (fun K hK => ?_) AllReadyH.nil)
          · go_simp
            (with_reducible refine (HCF _ S3.old).out.mono ?_); rintro e w4 ⟨rfl, b4⟩
            have S4 := S3.below b4
            refine hK.out _ _ (S4) (fun hHeld => ?_)
            clear hK K
            try simp only [Act.put, List.getElem_toArray, List.getElem_cons_succ, List.getElem_cons_zero, List.setIfInBounds_toArray, List.set_cons_succ, List.set_cons_zero]
            refine wpAnyH_ready (rs := [5, 6]) (by kernel_rfl) (by simp) ?_
            refine AllReadyH.cons rfl (fun K hK => ?_) (AllReadyH.cons rfl (fun K hK => ?_) AllReadyH.nil)
            · go_simp
              (with_reducible refine (HGO _ S4.old).out.mono ?_); rintro e w5 ⟨g5, c5, rfl, ho5, b5⟩
              have hO5 := OcAt.lower (B' := w.heap.size) ho5 S4.old.size
              have S5 := S4.below b5
              refine hK.out _ _ (S5) (fun hHeld => ?_)
              clear hK K
              try simp only [Act.put, List.getElem_toArray, List.getElem_cons_succ, List.getElem_cons_zero, List.setIfInBounds_toArray, List.set_cons_succ, List.set_cons_zero]
              refine wpAnyH_ready (rs := [6]) (by kernel_rfl) (by simp) ?_
              refine AllReadyH.cons rfl (fun K hK => ?_) AllReadyH.nil
              go_simp
              have S6 := Hs.al S5 (g := _) rfl 57 [.int .i64 0, .int .u64 0, .int .u64 0, .int .u16 0, .slice none 0 0]
              have O6 := hO5.below (new_below _ (.cells ([.int .i64 0, .int .u64 0, .int .u64 0, .int .u16 0, .slice none 0 0] : List Value).toArray 57))
              have hne : g5 ≠ w5.heap.size := Nat.ne_of_lt hO5.2.lt
              refine hK.out _ _ (S6.tail) (fun hHeld => ?_)
              clear hK K
              try simp only [Act.put, List.getElem_toArray, List.getElem_cons_succ, List.getElem_cons_zero, List.setIfInBounds_toArray, List.set_cons_succ, List.set_cons_zero]
              refine wpAnyH_ready (rs := [7]) (by kernel_rfl) (by simp) ?_
              refine AllReadyH.cons rfl (fun K hK => ?_) AllReadyH.nil
              have hz := S6.bk 0 rfl
              refine exec_if_store (by kernel_rfl) 57 (.tmp 7) (.tmp 30) rfl _ (lO ⟨⟨k, t.ow % 281474976710656, confQ t a p⟩, g5, c5⟩).toArray (by kernel_rfl) (by kernel_rfl) _ _ hz (by kernel_rfl) (by kernel_rfl) (by kernel_rfl) ?_
              have S9 := S6.row 0 rfl (lO ⟨⟨k, t.ow % 281474976710656, confQ t a p⟩, g5, c5⟩)
              have O9 := O6.row (cs := (lO ⟨⟨k, t.ow % 281474976710656, confQ t a p⟩, g5, c5⟩).toArray) hne
              refine hK.out _ _ (S9.tail) (fun hHeld => ?_)
              clear hK K
              try simp only [Act.put, List.getElem_toArray, List.getElem_cons_succ, List.getElem_cons_zero, List.setIfInBounds_toArray, List.set_cons_succ, List.set_cons_zero]
              refine wpAnyH_done (by kernel_rfl) ?_ _
              go_wp2_with fail
              go_meet
              exact ⟨_, ⟨⟨k, t.ow % 281474976710656, confQ t a p⟩, g5, c5⟩, rfl, rfl, S9, O9⟩
            · go_simp
              have S5 := Hs.al S4 (g := _) rfl 57 [.int .i64 0, .int .u64 0, .int .u64 0, .int .u16 0, .slice none 0 0]
              refine hK.out _ _ (S5.tail) (fun hHeld => ?_)
              clear hK K
              try simp only [Act.put, List.getElem_toArray, List.getElem_cons_succ, List.getElem_cons_zero, List.setIfInBounds_toArray, List.set_cons_succ, List.set_cons_zero]
              refine wpAnyH_ready (rs := [5]) (by kernel_rfl) (by simp) ?_
              refine AllReadyH.cons rfl (fun K hK => ?_) AllReadyH.nil
              go_simp
              (with_reducible refine (HGO _ S5.old).out.mono ?_); rintro e w5 ⟨g5, c5, rfl, ho5, b5⟩
              have hO5 := OcAt.lower (B' := w.heap.size) ho5 S5.old.size
              have S6 := S5.below b5
              have hne : g5 ≠ w4.heap.size := fun e => by have h1 : _ ≤ g5 := ho5.1; have h2 := S5.lt 0 rfl; omega
              refine hK.out _ _ (S6.tail) (fun hHeld => ?_)
              clear hK K
              try simp only [Act.put, List.getElem_toArray, List.getElem_cons_succ, List.getElem_cons_zero, List.setIfInBounds_toArray, List.set_cons_succ, List.set_cons_zero]
              refine wpAnyH_ready (rs := [7]) (by kernel_rfl) (by simp) ?_
              refine AllReadyH.cons rfl (fun K hK => ?_) AllReadyH.nil
              have hz := S6.bk 0 rfl
              refine exec_if_store (by kernel_rfl) 57 (.tmp 7) (.tmp 30) rfl _ (lO ⟨⟨k, t.ow % 281474976710656, confQ t a p⟩, g5, c5⟩).toArray (by kernel_rfl) (by kernel_rfl) _ _ hz (by kernel_rfl) (by kernel_rfl) (by kernel_rfl) ?_
              have S9 := S6.row 0 rfl (lO ⟨⟨k, t.ow % 281474976710656, confQ t a p⟩, g5, c5⟩)
              have O9 := hO5.row (cs := (lO ⟨⟨k, t.ow % 281474976710656, confQ t a p⟩, g5, c5⟩).toArray) hne
              refine hK.out _ _ (S9.tail) (fun hHeld => ?_)
              clear hK K
              try simp only [Act.put, List.getElem_toArray, List.getElem_cons_succ, List.getElem_cons_zero, List.setIfInBounds_toArray, List.set_cons_succ, List.set_cons_zero]
              refine wpAnyH_done (by kernel_rfl) ?_ _
              go_wp2_with fail
              go_meet
              exact ⟨_, ⟨⟨k, t.ow % 281474976710656, confQ t a p⟩, g5, c5⟩, rfl, rfl, S9, O9⟩
          · go_simp
            have S4 := Hs.al S3 (g := _) rfl 57 [.int .i64 0, .int .u64 0, .int .u64 0, .int .u16 0, .slice none 0 0]
            refine hK.out _ _ (S4.tail) (fun hHeld => ?_)
            clear hK K
            try simp only [Act.put, List.getElem_toArray, List.getElem_cons_succ, List.getElem_cons_zero, List.setIfInBounds_toArray, List.set_cons_succ, List.set_cons_zero]
            refine wpAnyH_ready (rs := [4]) (by kernel_rfl) (by simp) ?_
            refine AllReadyH.cons rfl (fun K hK => ?_) AllReadyH.nil
            go_simp
            (with_reducible refine (HCF _ S4.old).out.mono ?_); rintro e w4 ⟨rfl, b4⟩
            have S5 := S4.below b4
            refine hK.out _ _ (S5.tail) (fun hHeld => ?_)
            clear hK K
            try simp only [Act.put, List.getElem_toArray, List.getElem_cons_succ, List.getElem_cons_zero, List.setIfInBounds_toArray, List.set_cons_succ, List.set_cons_zero]
            refine wpAnyH_ready (rs := [5]) (by kernel_rfl) (by simp) ?_
            refine AllReadyH.cons rfl (fun K hK => ?_) AllReadyH.nil
            go_simp
            (with_reducible refine (HGO _ S5.old).out.mono ?_); rintro e w5 ⟨g5, c5, rfl, ho5, b5⟩
            have hO5 := OcAt.lower (B' := w.heap.size) ho5 S5.old.size
            have S6 := S5.below b5
            have hne : g5 ≠ v3.heap.size := fun e => by have h1 : _ ≤ g5 := ho5.1; have h2 := S5.lt 0 rfl; omega
            refine hK.out _ _ (S6.tail) (fun hHeld => ?_)
            clear hK K
            try simp only [Act.put, List.getElem_toArray, List.getElem_cons_succ, List.getElem_cons_zero, List.setIfInBounds_toArray, List.set_cons_succ, List.set_cons_zero]
            refine wpAnyH_ready (rs := [7]) (by kernel_rfl) (by simp) ?_
            refine AllReadyH.cons rfl (fun K hK => ?_) AllReadyH.nil
            have hz := S6.bk 0 rfl
            refine exec_if_store (by kernel_rfl) 57 (.tmp 7) (.tmp 30) rfl _ (lO ⟨⟨k, t.ow % 281474976710656, confQ t a p⟩, g5, c5⟩).toArray (by kernel_rfl) (by kernel_rfl) _ _ hz (by kernel_rfl) (by kernel_rfl) (by kernel_rfl) ?_
            have S9 := S6.row 0 rfl (lO ⟨⟨k, t.ow % 281474976710656, confQ t a p⟩, g5, c5⟩)
            have O9 := hO5.row (cs := (lO ⟨⟨k, t.ow % 281474976710656, confQ t a p⟩, g5, c5⟩).toArray) hne
            refine hK.out _ _ (S9.tail) (fun hHeld => ?_)
            clear hK K
            try simp only [Act.put, List.getElem_toArray, List.getElem_cons_succ, List.getElem_cons_zero, List.setIfInBounds_toArray, List.set_cons_succ, List.set_cons_zero]
            refine wpAnyH_done (by kernel_rfl) ?_ _
            go_wp2_with fail
            go_meet
            exact ⟨_, ⟨⟨k, t.ow % 281474976710656, confQ t a p⟩, g5, c5⟩, rfl, rfl, S9, O9⟩
        case rest =>
          clear S2 HCF HGO
          obtain ⟨Z, c, rfl, hco, S3, O3⟩ := hcut
          rename World => w3
          have c7 := S3.cell 1 7 rfl rfl
          have c8 := S3.cell 1 8 rfl rfl
          have f7 := S3.thaw 1 7 rfl
          have f8 := S3.thaw 1 8 rfl
          go_upto_region 9 with fail
          have S4 : Hs w ((Z, 57, lO c) :: [(P, 48, lP { p with pe := false, ak := false }), (Y, 48, [.int .u16 0, .int .i64 0, .int .u32 0, .int .u64 0, .int .u32 0, .int .u64 0, .int .u16 0, .bool false, .bool false, .bool false, .int .i64 0, .bool false, .int .i64 0, .bool false, .int .i64 0]), (X, 31, lT t (some ad) n cap)]) ((w3.setCell ⟨P, 8, none⟩ (.bool false)).setCell ⟨P, 7, none⟩ (.bool false)) := (S3.set 1 rfl 8 (.bool false)).set 1 rfl 7 (.bool false)
          have hPO : c.g ≠ P := OcAt.apart O3 S3 1 rfl (by decide)
          have O4 := (O3.cell (o := 8) (v := .bool false) hPO).cell (o := 7) (v := .bool false) hPO
          generalize (w3.setCell ⟨P, 8, none⟩ (.bool false)).setCell ⟨P, 7, none⟩ (.bool false) = w4 at S4 O4 ⊢
          clear S3 O3 c7 c8 f7 f8
          go_wp2_with fail
          (with_reducible refine (start0 _).mono ?_); rintro e w5 ⟨rfl, b5⟩
          have S5 := S4.below b5
          have O5 := O4.below b5
          clear S4 O4 b5
          have c13 := S5.cell 1 13 rfl rfl
          have c14 := S5.cell 1 14 rfl rfl
          have f13 := S5.thaw 1 13 rfl
          have f14 := S5.thaw 1 14 rfl
          go_upto_region 10 with fail
          have S6 : Hs w ((Z, 57, lO c) :: [(P, 48, lP (sentP p)), (Y, 48, [.int .u16 0, .int .i64 0, .int .u32 0, .int .u64 0, .int .u32 0, .int .u64 0, .int .u16 0, .bool false, .bool false, .bool false, .int .i64 0, .bool false, .int .i64 0, .bool false, .int .i64 0]), (X, 31, lT t (some ad) n cap)]) ((w5.setCell ⟨P, 13, none⟩ (.bool true)).setCell ⟨P, 14, none⟩ (.int .i64 0)) := (S5.set 1 rfl 13 (.bool true)).set 1 rfl 14 (.int .i64 0)
          have O6 := (O5.cell (o := 13) (v := .bool true) hPO).cell (o := 14) (v := .int .i64 0) hPO
          generalize (w5.setCell ⟨P, 13, none⟩ (.bool true)).setCell ⟨P, 14, none⟩ (.int .i64 0) = w6 at S6 O6 ⊢
          clear S5 O5 c13 c14 f13 f14
          refine wp_region_held_drew (S := (fun w' => Bk w' P 48 (lP (sentP p)) ∧ Bk w' Z 57 (lO c))) (by kernel_rfl) (⟨(S6.drew.1 1 _ _ _ rfl).1, (S6.drew.1 0 _ _ _ rfl).1⟩) (fun hHeld => ?_)
          have S7 := S6.drew
          have O7 := O6.below ((Below.refl _ _).drew)
          obtain ⟨v7, hv7⟩ : ∃ v, w6.drew = v := ⟨_, rfl⟩
          rw [hv7] at S7 O7 hHeld ⊢
          clear hv7 S6 O6
          refine wpAnyH_take (i := 0) (v := _) rfl (by kernel_rfl) (by kernel_rfl) (by kernel_rfl) (fun _ _ _ h => h) (Or.inl ⟨by kernel_rfl, fun w' hSw => exec_load_row 48 _ rfl P (by kernel_rfl) _ _ (0, 0) _ (hSw.1) Tryd.underlying48 rfl (by kernel_rfl)⟩) (by assumption) ?_
          try simp only [Act.put, List.getElem_toArray, List.getElem_cons_succ, List.getElem_cons_zero, List.setIfInBounds_toArray, List.set_cons_succ, List.set_cons_zero]
          refine wpAnyH_take (i := 1) (v := _) rfl (by kernel_rfl) (by kernel_rfl) (by kernel_rfl) (fun _ _ _ h => h) (Or.inl ⟨by kernel_rfl, fun w' hSw => exec_load_row 57 _ rfl Z (by kernel_rfl) _ _ (0, 0) _ (hSw.2) Tryd.underlying57 rfl (by kernel_rfl)⟩) (by assumption) ?_
          try simp only [Act.put, List.getElem_toArray, List.getElem_cons_succ, List.getElem_cons_zero, List.setIfInBounds_toArray, List.set_cons_succ, List.set_cons_zero]
          have hlen := lO_len c
          have hfold : List.foldl (fun (cs : Array Value) (x : Value × Nat) => cs.setIfInBounds x.snd x.fst) #[.int .i64 0, .int .u64 0, .int .u64 0, .int .u16 0, .slice none 0 0] (lO c).zipIdx = (lO c).toArray := rfl
          have hYc : c.g ≠ Y := OcAt.apart O7 S7 2 rfl (by decide)
          have hYN : Y < v7.heap.size := S7.lt 2 rfl
          have hNb : w.heap.size ≤ v7.heap.size := S7.old.size
          refine wpAnyH_ready (rs := [2, 3]) (by kernel_rfl) (by simp) ?_
          refine AllReadyH.cons rfl (fun K hK => ?_) (AllReadyH.cons rfl (fun K hK => ?_) AllReadyH.nil)
          · have hB := new_below v7 (.cells (lO c).toArray 57)
            have S8 := S7.below hB
            have O8 := O7.below hB
            have hk : Bk (v7.alloc (.cells (lO c).toArray 57)) v7.heap.size 57 (lO c) := heap_alloc_new _ _
            have hy := S8.bk 2 rfl
            have S9 := S8.row 2 rfl (lP (sentP p))
            have O9 := O8.row (cs := (lP (sentP p)).toArray) hYc
            have hkN := (setRow_other _ Y v7.heap.size (lP (sentP p)).toArray (by omega)).trans hk
            go_simp
            refine hK.out _ _ (⟨(S8.1 1 _ _ _ rfl).1, (S8.1 0 _ _ _ rfl).1⟩) (fun hHeld => ?_)
            clear hK K
            try simp only [Act.put, List.getElem_toArray, List.getElem_cons_succ, List.getElem_cons_zero, List.setIfInBounds_toArray, List.set_cons_succ, List.set_cons_zero]
            refine wpAnyH_ready (rs := [3]) (by kernel_rfl) (by simp) ?_
            refine AllReadyH.cons rfl (fun K hK => ?_) AllReadyH.nil
            refine exec_if_store (by kernel_rfl) 48 (.tmp 4) (.tmp 35) rfl Y (lP (sentP p)).toArray (by kernel_rfl) (by kernel_rfl) _ _ hy (by kernel_rfl) (by kernel_rfl) (by kernel_rfl) ?_
            refine hK.out _ _ (⟨(S9.1 1 _ _ _ rfl).1, (S9.1 0 _ _ _ rfl).1⟩) (fun hHeld => ?_)
            clear hK K
            try simp only [Act.put, List.getElem_toArray, List.getElem_cons_succ, List.getElem_cons_zero, List.setIfInBounds_toArray, List.set_cons_succ, List.set_cons_zero]
            refine wpAnyH_take (i := 4) (v := ?_) rfl (by kernel_rfl) (by kernel_rfl) (by kernel_rfl) (fun _ _ _ h => h) (Or.inl ⟨by kernel_rfl, ?_⟩) (by assumption) ?_
            rotate_left
            · intro w' hSw; (try dsimp only at hSw); go_simp; with_reducible rfl
            try simp only [Act.put, List.getElem_toArray, List.getElem_cons_succ, List.getElem_cons_zero, List.setIfInBounds_toArray, List.set_cons_succ, List.set_cons_zero]
            refine wpAnyH_done (by kernel_rfl) ?_ _
            have hyF := S9.bk 2 rfl
            go_wp2
            exact bodyPost_ret (v := .tuple #[.agg (lP (sentP p)).toArray, .slice (some ⟨v7.heap.size, 0, none⟩) 1 1]) (results_two rfl _ _ Y _ _ _ _ rfl _ rfl hyF Tryd.underlying48 rfl (by kernel_rfl)) rfl ⟨_, rfl, ⟨[c], by rw [List.map_cons, hco]; rfl, ⟨rfl, .inr ⟨v7.heap.size, 1, (lO c).toArray, rfl, hNb, hkN, Nat.le_refl _, by decide, rfl, rfl⟩⟩, fun d hd => by obtain rfl := List.mem_singleton.1 hd; exact O9⟩, S9.old⟩
          · have hy := S7.bk 2 rfl
            refine exec_if_store (by kernel_rfl) 48 (.tmp 4) (.tmp 35) rfl Y (lP (sentP p)).toArray (by kernel_rfl) (by kernel_rfl) _ _ hy (by kernel_rfl) (by kernel_rfl) (by kernel_rfl) ?_
            have S8 := S7.row 2 rfl (lP (sentP p))
            have O8 := O7.row (cs := (lP (sentP p)).toArray) hYc
            refine hK.out _ _ (⟨(S8.1 1 _ _ _ rfl).1, (S8.1 0 _ _ _ rfl).1⟩) (fun hHeld => ?_)
            clear hK K
            try simp only [Act.put, List.getElem_toArray, List.getElem_cons_succ, List.getElem_cons_zero, List.setIfInBounds_toArray, List.set_cons_succ, List.set_cons_zero]
            have hN : (v7.setRow Y (lP (sentP p)).toArray).heap.size = v7.heap.size := by simp [World.setRow]
            obtain ⟨v8, hv8⟩ : ∃ v, v7.setRow Y (lP (sentP p)).toArray = v := ⟨_, rfl⟩
            rw [hv8] at S8 O8 hN ⊢
            rw [← hN] at hNb
            clear hN
            have hB := new_below v8 (.cells (lO c).toArray 57)
            have S9 := S8.below hB
            have O9 := O8.below hB
            have hkN : Bk (v8.alloc (.cells (lO c).toArray 57)) v8.heap.size 57 (lO c) := heap_alloc_new _ _
            refine wpAnyH_ready (rs := [2]) (by kernel_rfl) (by simp) ?_
            refine AllReadyH.cons rfl (fun K hK => ?_) AllReadyH.nil
            go_simp
            refine hK.out _ _ (⟨(S9.1 1 _ _ _ rfl).1, (S9.1 0 _ _ _ rfl).1⟩) (fun hHeld => ?_)
            clear hK K
            try simp only [Act.put, List.getElem_toArray, List.getElem_cons_succ, List.getElem_cons_zero, List.setIfInBounds_toArray, List.set_cons_succ, List.set_cons_zero]
            refine wpAnyH_take (i := 4) (v := ?_) rfl (by kernel_rfl) (by kernel_rfl) (by kernel_rfl) (fun _ _ _ h => h) (Or.inl ⟨by kernel_rfl, ?_⟩) (by assumption) ?_
            rotate_left
            · intro w' hSw; (try dsimp only at hSw); go_simp; with_reducible rfl
            try simp only [Act.put, List.getElem_toArray, List.getElem_cons_succ, List.getElem_cons_zero, List.setIfInBounds_toArray, List.set_cons_succ, List.set_cons_zero]
            refine wpAnyH_done (by kernel_rfl) ?_ _
            have hyF := S9.bk 2 rfl
            go_wp2
            exact bodyPost_ret (v := .tuple #[.agg (lP (sentP p)).toArray, .slice (some ⟨v8.heap.size, 0, none⟩) 1 1]) (results_two rfl _ _ Y _ _ _ _ rfl _ rfl hyF Tryd.underlying48 rfl (by kernel_rfl)) rfl ⟨_, rfl, ⟨[c], by rw [List.map_cons, hco]; rfl, ⟨rfl, .inr ⟨v8.heap.size, 1, (lO c).toArray, rfl, hNb, hkN, Nat.le_refl _, by decide, rfl, rfl⟩⟩, fun d hd => by obtain rfl := List.mem_singleton.1 hd; exact O9⟩, S9.old⟩

end Go.Proofs.YtcamakkicmapcaaDoor

/- Config: contract. -/
namespace Go.Proofs.YtcamakkicmapcaaDoor
set_option maxRecDepth 100000
open Go.ChangeShapes Go.WideShapes Go.ChangeAt Go.RowKit
set_option linter.unusedVariables false
set_option linter.unusedSimpArgs false

set_option maxHeartbeats 4000000 in
theorem sconf_is (t : Th) (A : Option Addr) (n cap : Nat) (L : List Po) (i : Int) (hi : -9223372036854775808 ≤ i ∧ i ≤ 9223372036854775807) (hL : Hid (L.length = n)) (hf : n ≤ 200) (ht : Hid (ThB t)) (hn : Hid (-9223372036854775808 ≤ t.n1 ∧ t.n1 ≤ 9223372036854775807 ∧ -9223372036854775808 ≤ t.n2 ∧ t.n2 ≤ 9223372036854775807 ∧ -9223372036854775808 ≤ t.n3 ∧ t.n3 ≤ 9223372036854775807)) (hb : Hid (∀ x ∈ L, PoB x)) (hc : Hid (A = none → cap = 0)) (w : World) (hd : Hd w) (hp : Hid (PoAt w A w.heap.size L)) :
    Calls Tryd.prog 10 #[.agg (lT t A n cap).toArray, .int .i64 i] w (ConfEnd w t n (confR t L i)) := by
  obtain ⟨R, hR⟩ : ∃ R, confR t L i = R := ⟨_, rfl⟩
  rw [hR]
  have HR := Lib.hid hR
  clear hR
  have HD := Lib.hid hd
  clear hd
  obtain ⟨wb, hwb, S⟩ := hs_two w 31 31 (lT t A n cap) [.int .u64 0, .int .u64 0, .int .u32 0, .int .i64 0, .int .i64 0, .int .i64 0, .int .i64 0, .int .i64 0, .int .i64 0, .int .i64 0, .bool false, .bool false, .bool false, .int .i64 0, .bool false, .int .i64 0, .bool false, .int .i64 0, .slice none 0 0]
  go_enter Tryd.func10, Tryd.ntmps10
  go_upto_region 1 with fail
  clear hwb
  obtain ⟨X, hX⟩ : ∃ X, w.heap.size = X := ⟨_, rfl⟩
  rw [hX] at S
  obtain ⟨Y, hY⟩ : ∃ Y, X + 1 = Y := ⟨_, rfl⟩
  rw [hY] at S
  rw [hX]
  rw [hY]
  clear hX hY
  have hp1 := Lib.hid ((hp.out.below S.old (Nat.le_refl _)).wide S.old.size)
  have HC := Lib.hid (tcopy_is t A n cap L hL hf hc wb hp1)
  have hx := S.bk 1 rfl
  go_wp2_with (with_reducible refine wpList_load_row rfl 31 (.tmp 2) rfl X (by kernel_rfl) _ _ (0, 0) _ hx Tryd.underlying31 rfl (by kernel_rfl) ?_)
  (with_reducible refine HC.out.mono ?_); rintro e w1 ⟨D, cap', rfl, hz, k1⟩
  have S1 := TS.take S k1
  have HZ := Lib.hid hz
  clear S hx HC hp1 k1 hz
  have hx := S1.hs.bk 1 rfl
  go_upto_region 2 with (refine wpList_store_row rfl 31 _ _ rfl X _ rfl rfl _ _ hx (by kernel_rfl) (by kernel_rfl) (by kernel_rfl) ?_)
  have S2 : TS w [(Y, 31, [.int .u64 0, .int .u64 0, .int .u32 0, .int .i64 0, .int .i64 0, .int .i64 0, .int .i64 0, .int .i64 0, .int .i64 0, .int .i64 0, .bool false, .bool false, .bool false, .int .i64 0, .bool false, .int .i64 0, .bool false, .int .i64 0, .slice none 0 0]), (X, 31, lT t D n cap')] D L _ := S1.row 1 rfl (lT t D n cap')
  generalize w1.setRow X (lT t D n cap').toArray = w2 at S2 ⊢
  clear S1 hx
  obtain ⟨q, hq⟩ : ∃ q, (decide (0 ≤ i) && decide (i < (n : Int))) = q := ⟨_, rfl⟩
  have HT := fun W => Lib.hid (there_is t D n cap' i q (Lib.hid hq) W)
  have HQ := Lib.hid hq
  clear hq
  have hx := S2.hs.bk 1 rfl
  go_wp2_with (with_reducible refine wpList_load_row rfl 31 (.tmp 2) rfl X (by kernel_rfl) _ _ (0, 0) _ hx Tryd.underlying31 rfl (by kernel_rfl) ?_)
  (with_reducible refine (HT _).out.mono ?_); rintro e w3 ⟨rfl, b3⟩
  have S3 := S2.below b3
  clear S2 hx HT b3
  cases q with
  | false =>
    obtain rfl : (L, []) = R := by
      rw [← HR.out]
      have h := HQ.out
      simp only [Bool.and_eq_false_iff, decide_eq_false_iff_not] at h
      rcases h with h | h
      · rw [confR_neg (by omega)]
      · rw [confR_out (by have := hL.out; omega)]
    have hx := S3.hs.bk 1 rfl
    have hy := S3.hs.bk 0 rfl
    go_wp2_with (first | (with_reducible refine wpList_load_row rfl 31 (.tmp 2) rfl X (by kernel_rfl) _ _ (0, 0) _ hx Tryd.underlying31 rfl (by kernel_rfl) ?_) | (refine wpList_store_row rfl 31 _ _ rfl Y _ rfl rfl _ _ hy (by kernel_rfl) (by kernel_rfl) (by kernel_rfl) ?_))
    exact bodyPost_ret (v := .tuple #[.agg (lT t D n cap').toArray, .slice none 0 0]) (results_two rfl _ _ Y _ _ _ _ rfl _ rfl (setRow_heap _ _ _ _ _ _ hy) Tryd.underlying31 rfl (by kernel_rfl)) rfl ⟨D, cap', _, rfl, HZ.out, (S3.row 0 rfl (lT t D n cap')).nobox, OutsR.nil _ _⟩
  | true =>
    have h := HQ.out
    simp only [Bool.and_eq_true, decide_eq_true_eq] at h
    obtain ⟨h0, h1⟩ := h
    obtain ⟨k, rfl⟩ : ∃ k : Nat, i = k := ⟨i.toNat, by omega⟩
    have hkn : k < n := by omega
    obtain ⟨x, hx0⟩ := po_at hL.out hkn
    have hR2 := HR.out
    rw [confR_told hx0] at hR2
    have HX := Lib.hid hx0
    clear hx0 h0 h1 hi
    have hki : (k : Int) < (n : Int) := by omega
    have hkz : ¬ (n : Int) ≤ (k : Int) := by omega
    obtain ⟨g, rfl, -⟩ := S3.at HX.out
    have HTO := Lib.hid (told_is t (some ⟨g, 0, none⟩) n cap' L k x HX hL hf ht hn hb w3 (HD.out.below S3.old (Nat.le_refl _)) (Lib.hid S3.ports))
    obtain ⟨R1, hRR⟩ : ∃ R, toldR t L k x = R := ⟨_, rfl⟩
    rw [hRR] at HTO hR2
    clear hRR
    obtain rfl : (L.set k R1.1, R1.2) = R := hR2
    have hx := S3.hs.bk 1 rfl
    go_wp2_with (with_reducible refine wpList_load_row rfl 31 (.tmp 2) rfl X (by kernel_rfl) _ _ (0, 0) _ hx Tryd.underlying31 rfl (by kernel_rfl) ?_)
    (with_reducible refine HTO.out.mono ?_); rintro e w4 ⟨v, rfl, hO, b4⟩
    have S4 := S3.below b4
    clear hx HTO b4
    go_upto_region 5 with (refine wpList_store_row rfl 48 _ _ rfl _ _ rfl rfl _ _ (heap_alloc_new _ _) (by kernel_rfl) (by kernel_rfl) (by kernel_rfl) ?_)
    rw [alloc_row]
    have S5 := S4.al rfl 48 (lP R1.1)
    have hO5 := hO.below (new_below w4 (.cells (lP R1.1).toArray 48))
    have hPw : w4.heap.size < (w4.alloc (.cells (lP R1.1).toArray 48)).heap.size := by simp
    obtain ⟨P, hP⟩ : ∃ P, w4.heap.size = P := ⟨_, rfl⟩
    rw [hP] at S5 ⊢
    obtain ⟨w5, hw5⟩ : ∃ w5, w4.alloc (.cells (lP R1.1).toArray 48) = w5 := ⟨_, rfl⟩
    rw [hw5] at S5 hO5 ⊢
    clear hw5 hP S4 hO hPw
    have HGW := Lib.hid (S3.at_lt HX.out)
    have HYW := Lib.hid (S3.hs.lt 0 rfl)
    have HWB := Lib.hid S3.old.size
    have HOO := Lib.hid hO5
    clear S3 hO5
    have hth := S5.there HX.out R1.1
    have c18 := S5.hs.cell 2 18 rfl rfl
    have hz := S5.hs.bk 0 rfl
    go_upto_region 6 with (first | (with_reducible refine wpList_load_row rfl 48 (.tmp 6) rfl P (by kernel_rfl) _ _ (0, 0) _ hz Tryd.underlying48 rfl (by kernel_rfl) ?_) | (with_reducible refine wpList_store_mid rfl 48 (.tmp 25) _ rfl g (k * 15) (lP R1.1).toArray (by kernel_rfl) (by kernel_rfl) hth (by kernel_rfl) (by kernel_rfl) ?_))
    have S6 := (S5.whole HX.out R1.1).tail
    have hO6 : OutsR (w5.setCells g (k * 15) (lP R1.1)) w3.heap.size v R1.2 := HOO.out.heap (fun b hb => setCells_other _ _ _ b (by have := HGW.out; omega))
    generalize w5.setCells g (k * 15) (lP R1.1) = w6 at S6 hO6 ⊢
    clear S5 hth c18 hz HOO
    have hO7 := Lib.hid ((hO6.heap (w' := w6.setRow Y (lT t (some ⟨g, 0, none⟩) n cap').toArray) (fun b hb => setRow_other w6 Y b _ (by have := HYW.out; omega))).mono HWB.out)
    clear hO6
    have hx := S6.hs.bk 1 rfl
    have hy := S6.hs.bk 0 rfl
    go_wp2_with (first | (with_reducible refine wpList_load_row rfl 31 (.tmp 2) rfl X (by kernel_rfl) _ _ (0, 0) _ hx Tryd.underlying31 rfl (by kernel_rfl) ?_) | (refine wpList_store_row rfl 31 _ _ rfl Y _ rfl rfl _ _ hy (by kernel_rfl) (by kernel_rfl) (by kernel_rfl) ?_))
    exact bodyPost_ret (v := .tuple #[.agg (lT t (some ⟨g, 0, none⟩) n cap').toArray, v]) (results_two rfl _ _ Y _ _ _ _ rfl _ rfl (setRow_heap _ _ _ _ _ _ hy) Tryd.underlying31 rfl (by kernel_rfl)) rfl ⟨(some ⟨g, 0, none⟩), cap', _, rfl, (fun e => by cases e), (S6.row 0 rfl (lT t (some ⟨g, 0, none⟩) n cap')).nobox, hO7.out⟩

end Go.Proofs.YtcamakkicmapcaaDoor

/- All designated ports tell, one behind the other: no program. -/
namespace Go.Proofs.YtcamakkicmapcaaDoor
set_option maxRecDepth 100000
open Go.ChangeShapes Go.WideShapes Go.ChangeAt Go.RowKit
set_option linter.unusedVariables false

theorem confR_len (t : Th) (L : List Po) (i : Int) : (confR t L i).1.length = L.length := by
  unfold confR
  split
  · split
    · rfl
    · split
      · exact List.length_set ..
      · split
        · rfl
        · exact List.length_set ..
  · rfl
theorem confR_few (t : Th) (L : List Po) (i : Int) : (confR t L i).2.length ≤ 1 := by
  unfold confR
  split
  · split
    · simp
    · split
      · simp
      · split <;> simp
  · simp
theorem confR_bd {t : Th} {L : List Po} (hb : ∀ x ∈ L, PoB x) (i : Int) : ∀ x ∈ (confR t L i).1, PoB x := by
  unfold confR
  split
  · split
    · exact hb
    · rename_i p hp
      have hP := hb p (List.mem_of_getElem? hp)
      split
      · intro x hx
        rcases List.mem_or_eq_of_mem_set hx with q | rfl
        · exact hb x q
        · exact hP
      · split
        · exact hb
        · intro x hx
          rcases List.mem_or_eq_of_mem_set hx with q | rfl
          · exact hb x q
          · unfold PoB sentP at *
            dsimp only at *
            omega
  · exact hb

/-- Does a port tell? -/
def tellsB (t : Th) (p : Po) : Bool := decide (p.hb = t.ow) && (decide (p.hp = p.id) && !decide (p.st = 0))
def allStep (t : Th) (s : List Po × List Ou) (i : Nat) : List Po × List Ou := match s.1[i]? with
  | some p => if tellsB t p = true then ((confR t s.1 i).1, s.2 ++ (confR t s.1 i).2) else s
  | none => s
/-- The first k have told. -/
def allR (t : Th) (L : List Po) : Nat → List Po × List Ou
  | 0 => (L, [])
  | k + 1 => allStep t (allR t L k) k
theorem allStep_yes {t : Th} {s : List Po × List Ou} {i : Nat} {p : Po} (h : s.1[i]? = some p) (hp : tellsB t p = true) : allStep t s i = ((confR t s.1 i).1, s.2 ++ (confR t s.1 i).2) := by unfold allStep; rw [h]; simp only [hp, if_true]
theorem allStep_no {t : Th} {s : List Po × List Ou} {i : Nat} {p : Po} (h : s.1[i]? = some p) (hp : tellsB t p = false) : allStep t s i = s := by unfold allStep; rw [h]; simp [hp]
theorem allStep_bd (t : Th) (s : List Po × List Ou) (i : Nat) (hb : ∀ x ∈ s.1, PoB x) : (allStep t s i).1.length = s.1.length ∧ (allStep t s i).2.length ≤ s.2.length + 1 ∧ ∀ x ∈ (allStep t s i).1, PoB x := by
  unfold allStep
  split
  · split
    · refine ⟨confR_len _ _ _, ?_, confR_bd hb _⟩
      rw [List.length_append]
      have := confR_few t s.1 i
      omega
    · exact ⟨rfl, Nat.le_succ _, hb⟩
  · exact ⟨rfl, Nat.le_succ _, hb⟩
theorem allR_bd {t : Th} {L : List Po} (hb : ∀ x ∈ L, PoB x) : ∀ k, (allR t L k).1.length = L.length ∧ (allR t L k).2.length ≤ k ∧ ∀ x ∈ (allR t L k).1, PoB x
  | 0 => ⟨rfl, Nat.zero_le _, hb⟩
  | k + 1 => by
    obtain ⟨h1, h2, h3⟩ := allR_bd hb k
    obtain ⟨g1, g2, g3⟩ := allStep_bd t (allR t L k) k h3
    exact ⟨g1.trans h1, by show (allStep t (allR t L k) k).2.length ≤ _; omega, g3⟩

/-- What telling by all hands out. -/
def AllEnd (w : World) (t : Th) (n : Nat) (R : List Po × List Ou) (e : Ending) (w' : World) : Prop :=
  ∃ D cap v, e = .returned (.tuple #[.agg (lT t D n cap).toArray, v]) ∧ (D = none → cap = 0) ∧ PoAt w' D w'.heap.size R.1 ∧ OutsR w' w.heap.size v R.2 ∧ Below w.heap.size w w'

end Go.Proofs.YtcamakkicmapcaaDoor

/- Outs appended to Outs. -/
namespace Go.Proofs.YtcamakkicmapcaaDoor
set_option maxRecDepth 100000
open Go.ChangeShapes Go.WideShapes Go.ChangeAt Go.RowKit
set_option linter.unusedVariables false

theorem Tryd.infoOut : (Tryd.prog.info? 57).map (fun i => (i.zero, i.size, i.bytes)) = some (some (.agg #[.int .i64 0, .int .u64 0, .int .u64 0, .int .u16 0, .slice none 0 0]), 5, 56) := by kernel_rfl
theorem oc_cells_one : ∀ (L : List Oc), ∀ u ∈ cellsOf lO L, u.oneCell' = true
  | [], u, hu => by simp [cellsOf] at hu
  | p :: r, u, hu => by
    simp only [cellsOf, List.mem_append] at hu
    rcases hu with h | h
    · exact (List.all_eq_true.1 (lO_one p)) u h
    · exact oc_cells_one r u h
/-- What a row's growth leaves: data of other Outs. -/
theorem OcAt.grown {w w' : World} {base B : Nat} {v : Value} {n : Nat} {xs : List Value} {c : Oc} (h : OcAt w B c) (hown : w.ownsRow base 57 5 v n xs) (gr : w.grownBy w' v.ownBlock) : OcAt w' B c := by
  obtain ⟨h1, sp, h2, h3, h4⟩ := h
  refine ⟨h1, sp, h2, h3, ?_⟩
  have hne : some c.g ≠ v.ownBlock := by
    intro e
    rcases hown.2 with ⟨rfl, _⟩ | ⟨g, cap, cur, rfl, _, hh, _⟩
    · cases e
    · have e' : c.g = g := Option.some.inj e
      subst e'
      unfold Bk at h4
      rw [h4] at hh
      injection hh with q
      injection q with _ q
      cases q
  exact (gr.block c.g h4.lt hne).trans h4

theorem append_outs (w : World) {ops : Array Oper} {rest : List Oper} {o : Oper} {a : Act} {Q : Exit → Act → World → Prop} (hgd : o.guard = none) (s x : Operand)
    (ho : o.op = .call { callee := .builtin .append, args := #[s, x], argTypes := #[34, 34] })
    (base base2 : Nat) (v v2 : Value) (M M2 : List Ou) (hs : a.eval s = v) (hx : a.eval x = v2) (h1 : OutsR w base v M) (h2 : OutsR w base2 v2 M2) (hb2 : base ≤ base2) (hm : M.length + M2.length ≤ 100000)
    (hbase : base ≤ w.heap.size) (w0 : World) (hb : Below base w0 w)
    (h : ∀ v' w', OutsR w' base v' (M ++ M2) → Below base w0 w' → w.grownBy w' v.ownBlock → wpList Tryd.prog ops Q rest (a.put o.dst v') w') :
    wpList Tryd.prog ops Q (o :: rest) a w := by
  obtain ⟨i0, hi0, hz0, hz1, hz2⟩ := info_parts Tryd.infoOut
  obtain ⟨C, hC, hown, hd⟩ := h1
  obtain ⟨C2, hC2, hown2, hd2⟩ := h2
  have hl : C.length = M.length := by rw [← hC, List.length_map]
  have hl2 : C2.length = M2.length := by rw [← hC2, List.length_map]
  have hown2' := hown2
  rcases hown2.2 with ⟨rfl, h0⟩ | ⟨g2, cap2, cur2, rfl, hg2, hh2, _⟩
  · have e2 : C2 = [] := List.length_eq_zero_iff.1 h0
    subst e2
    have e3 : M2 = [] := by rw [← hC2]; rfl
    subst e3
    refine wpList_append_own_none hgd s x 34 ho base 57 i0 5 Tryd.underlying34 hi0 v C.length (cellsOf lO C) hs hown hx ?_
    exact h v w ⟨C, by rw [List.append_nil]; exact hC, hown, hd⟩ hb ⟨rfl, rfl, rfl, Nat.le_refl _, fun _ _ _ => rfl⟩
  · refine wpList_append_own w hgd s x 34 ho base 57 i0 _ 5 56 Tryd.underlying34 hi0 hz0 hz1 hz2 rfl (by decide) v C.length (cellsOf lO C) hs hown ⟨g2, 0, none⟩ C2.length cap2 (cellsOf lO C2) hx (cellsOf_len lO_len C2) ?_ (oc_cells_one C2) (by unfold maxLen; omega) (by omega) hbase ?_
    · intro j u hu
      have hj : j < C2.length * 5 := by
        rcases Nat.lt_or_ge j (C2.length * 5) with q | q
        · exact q
        · rw [List.getElem?_eq_none (by rw [cellsOf_len lO_len]; exact q)] at hu; cases hu
      rw [addr_add, Nat.zero_add]
      have hw2 : w.ownsRow base2 57 5 (.slice (some ⟨g2, 0, none⟩) C2.length cap2) C2.length (cellsOf lO C2) := hown2'
      rw [hw2.cellAt j hj]
      exact hu
    · intro v' w' hown3 hgrow hv
      refine h v' w' ⟨C ++ C2, by rw [List.map_append, hC, hC2], ?_, fun c hc => ?_⟩ (hb.grown hgrow hbase (fun k hk => (World.ownsRow.lt hown k hk).1)) hgrow
      · unfold OwnL
        rw [List.length_append, cellsOf_append]
        exact hown3
      · rcases List.mem_append.1 hc with q | q
        · exact (hd c q).grown hown hgrow
        · have := (hd2 c q).grown hown hgrow
          exact ⟨Nat.le_trans hb2 this.1, this.2⟩

end Go.Proofs.YtcamakkicmapcaaDoor
