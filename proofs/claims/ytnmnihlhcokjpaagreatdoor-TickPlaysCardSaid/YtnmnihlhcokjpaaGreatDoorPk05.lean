/- Several texts in one, one behind the other: TreeSelect, TreeDesig, Inv. -/
import Derived.Test.YtnmnihlhcokjpaaGreatDoorPk04
import Derived.Test.YtnmnihlhcokjpaaGreatDoorPk03
import Derived.Deep.RegionHeld3

/- Select: contract. -/
namespace Go.Proofs.YtnmnihlhcokjpaaGreatDoor
set_option maxRecDepth 100000
open Go.ChangeShapes Go.WideShapes Go.ChangeAt Go.RowKit
set_option linter.unusedVariables false
set_option linter.unusedSimpArgs false

set_option maxRecDepth 100000 in
set_option maxHeartbeats 2000000 in
theorem select_is (t : Th) (A : Option Addr) (n cap : Nat) (L : List Po) (hL : Hid (L.length = n)) (hf : n ≤ 200) (hb : Hid (∀ x ∈ L, PoB x)) (hc : Hid (A = none → cap = 0)) (w : World) (hp : Hid (PoAt w A w.heap.size L)) :
    Calls Tryz.prog 123 #[.agg (lT t A n cap).toArray] w (TOut w (selectT t L) n L) := by
  obtain ⟨wb, hwb, S⟩ := hs_two w 31 31 (lT t A n cap) [.int .u64 0, .int .u64 0, .int .u32 0, .int .i64 0, .int .i64 0, .int .i64 0, .int .i64 0, .int .i64 0, .int .i64 0, .int .i64 0, .bool false, .bool false, .bool false, .int .i64 0, .bool false, .int .i64 0, .bool false, .int .i64 0, .slice none 0 0]
  go_enter Tryz.func123, Tryz.ntmps123
  go_upto_region 1 with fail
  clear hwb
  obtain ⟨X, hX⟩ : ∃ X, w.heap.size = X := ⟨_, rfl⟩
  rw [hX] at S
  obtain ⟨Y, hY⟩ : ∃ Y, X + 1 = Y := ⟨_, rfl⟩
  rw [hY] at S
  rw [hX]
  rw [hY]
  clear hX hY
  have hp1 := Lib.hid ((hp.out.below S.old (Nat.le_refl _)).wide S.old.size)
  have HC := Lib.hid (tcopy_is t A n cap L hL hf hc wb hp1)
  have hx := S.bk 1 rfl
  go_wp2_with (refine wpList_load_row rfl 31 _ rfl X rfl _ _ (0, 0) _ hx Tryz.underlying31 rfl (by kernel_rfl) ?_)
  (with_reducible refine HC.out.mono ?_); rintro e w1 ⟨D, cap', rfl, hz, k1⟩
  have S1 := TS.take S k1
  have HZ := Lib.hid hz
  clear S hx HC hp1 k1 hz
  have hx := S1.hs.bk 1 rfl
  go_upto_region 2 with (refine wpList_store_row rfl 31 _ _ rfl X _ rfl rfl _ _ hx (by kernel_rfl) (by kernel_rfl) (by kernel_rfl) ?_)
  have S2 : TS w [(Y, 31, [.int .u64 0, .int .u64 0, .int .u32 0, .int .i64 0, .int .i64 0, .int .i64 0, .int .i64 0, .int .i64 0, .int .i64 0, .int .i64 0, .bool false, .bool false, .bool false, .int .i64 0, .bool false, .int .i64 0, .bool false, .int .i64 0, .slice none 0 0]), (X, 31, lT t D n cap')] D L _ := S1.row 1 rfl (lT t D n cap')
  generalize w1.setRow X (lT t D n cap').toArray = w2 at S2 ⊢
  clear S1 hx
  have HPd : PoAt w2.drew D w2.drew.heap.size L := S2.ports
  have HB := fun W h => Lib.hid (best_is t D n cap' L hL hf hb W (Lib.hid h))
  have c0 := S2.hs.cell 1 0 rfl rfl
  refine wp_region_held_drew (S := (fun w' => w'.cell? ⟨X, 0, none⟩ = some (.int .u64 t.ow))) (by kernel_rfl) c0 (fun hHeld => ?_)
  refine wpAnyH_take (i := 2) (v := ?_) rfl (by kernel_rfl) (by kernel_rfl) (by kernel_rfl) (fun _ _ _ h => h) (Or.inl ⟨by kernel_rfl, ?_⟩) (by assumption) ?_
  rotate_left
  · intro w hSw; (try dsimp only at hSw); go_simp; with_reducible rfl
  try simp only [Act.put, List.setIfInBounds_toArray, List.set_cons_succ]
  refine wpAnyH_take (i := 3) (v := ?_) rfl (by kernel_rfl) (by kernel_rfl) (by kernel_rfl) (fun _ _ _ h => h) (Or.inl ⟨by kernel_rfl, ?_⟩) (by assumption) ?_
  rotate_left
  · intro w hSw; (try dsimp only at hSw); go_simp; with_reducible rfl
  try simp only [Act.put, List.setIfInBounds_toArray, List.set_cons_succ]
  refine wpAnyH_ready (rs := [0]) (by kernel_rfl) (by simp) ?_
  refine AllReadyH.cons rfl (fun K hK => ?_) AllReadyH.nil
  refine exec_if_row (by kernel_rfl) 31 _ rfl X (by kernel_rfl) _ _ (0, 0) _ (S2.hs.drew.bk 1 rfl) Tryz.underlying31 rfl (by kernel_rfl) ?_
  refine hK.out _ _ (hHeld) (fun hHeld => ?_)
  clear hK K
  try simp only [Act.put, List.setIfInBounds_toArray, List.set_cons_succ]
  refine wpAnyH_ready (rs := [1]) (by kernel_rfl) (by simp) ?_
  refine AllReadyH.cons rfl (fun K hK => ?_) AllReadyH.nil
  go_simp
  (with_reducible refine (HB w2.drew HPd).out.mono ?_); rintro e w3 ⟨rfl, b3⟩
  have S3 := (S2.below (wy := w2.drew) ((Below.refl _ _).drew)).below b3
  clear HB HPd c0 S2
  refine hK.out _ _ (S3.hs.cell 1 0 rfl rfl) (fun hHeld => ?_)
  clear hK K
  try simp only [Act.put, List.setIfInBounds_toArray, List.set_cons_succ]
  have c1 := S3.hs.cell 1 1 rfl rfl
  have c2 := S3.hs.cell 1 2 rfl rfl
  have c3 := S3.hs.cell 1 3 rfl rfl
  have f1 := S3.hs.thaw 1 1 rfl
  have f2 := S3.hs.thaw 1 2 rfl
  have f3 := S3.hs.thaw 1 3 rfl
  obtain ⟨bi, hbi⟩ : ∃ bi, toI (bst t.ow L n) = bi := ⟨_, rfl⟩
  rw [hbi]
  have HBI := Lib.hid hbi
  clear hbi
  refine wpAnyH_take (i := 4) (v := ?_) rfl (by kernel_rfl) (by kernel_rfl) (by kernel_rfl) (fun _ _ _ h => h) (Or.inl ⟨by kernel_rfl, ?_⟩) (by assumption) ?_
  rotate_left
  · intro w hSw; (try dsimp only at hSw); go_simp; with_reducible rfl
  try simp only [Act.put, List.setIfInBounds_toArray, List.set_cons_succ]
  refine wpAnyH_ready (rs := [5]) (by kernel_rfl) (by simp) ?_
  refine AllReadyH.cons rfl (fun K hK => ?_) AllReadyH.nil
  go_simp
  refine hK.out _ _ ((World.cell?_setCell_other _ _ _ _ (by simp)).trans hHeld) (fun hHeld => ?_)
  clear hK K
  try simp only [Act.put, List.setIfInBounds_toArray, List.set_cons_succ]
  refine wpAnyH_take (i := 6) (v := ?_) rfl (by kernel_rfl) (by kernel_rfl) (by kernel_rfl) (fun _ _ _ h => h) (Or.inl ⟨by kernel_rfl, ?_⟩) (by assumption) ?_
  rotate_left
  · intro w hSw; (try dsimp only at hSw); go_simp; with_reducible rfl
  try simp only [Act.put, List.setIfInBounds_toArray, List.set_cons_succ]
  refine wpAnyH_ready (rs := [7]) (by kernel_rfl) (by simp) ?_
  refine AllReadyH.cons rfl (fun K hK => ?_) AllReadyH.nil
  go_simp
  refine hK.out _ _ ((World.cell?_setCell_other _ _ _ _ (by simp)).trans hHeld) (fun hHeld => ?_)
  clear hK K
  try simp only [Act.put, List.setIfInBounds_toArray, List.set_cons_succ]
  refine wpAnyH_take (i := 8) (v := ?_) rfl (by kernel_rfl) (by kernel_rfl) (by kernel_rfl) (fun _ _ _ h => h) (Or.inl ⟨by kernel_rfl, ?_⟩) (by assumption) ?_
  rotate_left
  · intro w hSw; (try dsimp only at hSw); go_simp; with_reducible rfl
  try simp only [Act.put, List.setIfInBounds_toArray, List.set_cons_succ]
  refine wpAnyH_ready (rs := [9]) (by kernel_rfl) (by simp) ?_
  refine AllReadyH.cons rfl (fun K hK => ?_) AllReadyH.nil
  go_simp
  refine hK.out _ _ ((World.cell?_setCell_other _ _ _ _ (by simp)).trans hHeld) (fun hHeld => ?_)
  clear hK K
  try simp only [Act.put, List.setIfInBounds_toArray, List.set_cons_succ]
  refine wpAnyH_done (by kernel_rfl) ?_ _
  have S4 : TS w [(Y, 31, [.int .u64 0, .int .u64 0, .int .u32 0, .int .i64 0, .int .i64 0, .int .i64 0, .int .i64 0, .int .i64 0, .int .i64 0, .int .i64 0, .bool false, .bool false, .bool false, .int .i64 0, .bool false, .int .i64 0, .bool false, .int .i64 0, .slice none 0 0]), (X, 31, lT { t with rp := bi, ro := t.ow, co := 0 } D n cap')] D L _ := ((S3.set 1 rfl 3 (.int .i64 bi)).set 1 rfl 1 (.int .u64 t.ow)).set 1 rfl 2 (.int .u32 0)
  generalize ((w3.setCell ⟨X, 3, none⟩ (.int .i64 bi)).setCell ⟨X, 1, none⟩ (.int .u64 t.ow)).setCell ⟨X, 2, none⟩ (.int .u32 0) = w4 at S4 ⊢
  clear hHeld c1 c2 c3 f1 f2 f3 S3
  have c3 := S4.hs.cell 1 3 rfl rfl
  have c18 := S4.hs.cell 1 18 rfl rfl
  have hsel : ∀ r, r = bst t.ow L n → selT t L r = selectT t L := fun r e => by unfold selectT; rw [hL.out, e]
  obtain ⟨r, hr⟩ : ∃ r, bst t.ow L n = r := ⟨_, rfl⟩
  have HS := Lib.hid (hsel r hr.symm)
  have HR := Lib.hid hr
  have hbr := HBI.out
  rw [hr] at hbr
  clear hsel hr HBI
  cases r with
  | none =>
    have e : bi = -1 := hbr.symm
    subst e
    have e2 : ({ t with rp := -1, ro := t.ow, co := 0 } : Th) = selectT t L := HS.out
    rw [e2] at S4
    clear hbr e2
    have c3 : w4.cell? ⟨X, 3, none⟩ = some (.int .i64 (-1)) := c3
    have hx := S4.hs.bk 1 rfl
    have hy := S4.hs.bk 0 rfl
    go_wp2_with (first | (refine wpList_load_row rfl 31 _ rfl X rfl _ _ (0, 0) _ hx Tryz.underlying31 rfl (by kernel_rfl) ?_) | (refine wpList_store_row rfl 31 _ _ rfl Y _ rfl rfl _ _ hy (by kernel_rfl) (by kernel_rfl) (by kernel_rfl) ?_))
    exact bodyPost_ret (v := .agg (lT (selectT t L) D n cap').toArray) (results_cell_row rfl _ _ Y _ _ _ _ rfl (setRow_heap _ _ _ _ _ _ hy) Tryz.underlying31 rfl (by kernel_rfl)) rfl ⟨D, cap', rfl, HZ.out, (S4.row 0 rfl (lT (selectT t L) D n cap')).nobox⟩
  | some j =>
    have hbl := bst_lt HR.out
    obtain ⟨x, hx0⟩ := po_at (L := L) rfl hbl.2
    have HX0 := Lib.hid hx0
    have e : bi = (j : Int) := hbr.symm
    subst e
    clear hbr
    have hjn : (j : Int) < (n : Int) := by have := hL.out; omega
    have hj0 : ((j : Int) == -1) = false := by simp <;> omega
    have hj1 : ((j : Int) != -1) = true := by simp [bne, hj0]
    obtain ⟨ad, hA⟩ := S4.ports.some hx0
    have HA := Lib.hid hA
    have hat := S4.ports.at hx0 hA
    rw [hA] at c18 ⊢
    have HT := fun W => Lib.hid (through_is x (hb.out x (List.mem_of_getElem? HX0.out)) W)
    clear hx0 hA
    go_wp2_with (with_reducible refine wpList_load_at rfl 63 (.tmp 20) rfl (ad.add (j * 15)) (by kernel_rfl) _ _ hat Tryz.underlying63 rfl (by kernel_rfl) ?_)
    (with_reducible refine (HT _).out.mono ?_); rintro e w5 ⟨rfl, b5⟩
    have S5 := S4.below b5
    clear S4 HT hat c3 c18 b5
    go_upto_region 5 with (refine wpList_store_row rfl 61 _ _ rfl _ _ rfl rfl _ _ (heap_alloc_new _ _) (by kernel_rfl) (by kernel_rfl) (by kernel_rfl) ?_)
    rw [alloc_row]
    have S6 := S5.al rfl 61 [.int .u64 (thruV x).r, .int .u32 (thruV x).c, .int .u64 (thruV x).b, .int .u16 (thruV x).p]
    obtain ⟨V, hV⟩ : ∃ V, w5.heap.size = V := ⟨_, rfl⟩
    rw [hV] at S6 ⊢
    generalize w5.alloc (.cells #[.int .u64 (thruV x).r, .int .u32 (thruV x).c, .int .u64 (thruV x).b, .int .u16 (thruV x).p] 61) = w6 at S6 ⊢
    clear S5 hV
    have hVX : X ≠ V := fun e => S6.hs.2.1 2 0 _ _ (by decide) rfl rfl e
    have v0 := S6.hs.cell 0 0 rfl rfl
    have v1 := S6.hs.cell 0 1 rfl rfl
    have c1 := S6.hs.cell 2 1 rfl rfl
    have c2 := S6.hs.cell 2 2 rfl rfl
    have f1 := S6.hs.thaw 2 1 rfl
    have f2 := S6.hs.thaw 2 2 rfl
    refine wp_region_held_drew (S := (fun w' => w'.cell? ⟨V, 0, none⟩ = some (.int .u64 (thruV x).r) ∧ w'.cell? ⟨V, 1, none⟩ = some (.int .u32 (thruV x).c))) (by kernel_rfl) ⟨v0, v1⟩ (fun hHeld => ?_)
    refine wpAnyH_take (i := 0) (v := ?_) rfl (by kernel_rfl) (by kernel_rfl) (by kernel_rfl) (fun _ _ _ h => h) (Or.inl ⟨by kernel_rfl, ?_⟩) (by assumption) ?_
    rotate_left
    · intro w hSw; (try dsimp only at hSw); go_simp; with_reducible rfl
    try simp only [Act.put, List.setIfInBounds_toArray, List.set_cons_succ]
    refine wpAnyH_take (i := 1) (v := ?_) rfl (by kernel_rfl) (by kernel_rfl) (by kernel_rfl) (fun _ _ _ h => h) (Or.inl ⟨by kernel_rfl, ?_⟩) (by assumption) ?_
    rotate_left
    · intro w hSw; (try dsimp only at hSw); go_simp; with_reducible rfl
    try simp only [Act.put, List.setIfInBounds_toArray, List.set_cons_succ]
    refine wpAnyH_take (i := 2) (v := ?_) rfl (by kernel_rfl) (by kernel_rfl) (by kernel_rfl) (fun _ _ _ h => h) (Or.inl ⟨by kernel_rfl, ?_⟩) (by assumption) ?_
    rotate_left
    · intro w hSw; (try dsimp only at hSw); go_simp; with_reducible rfl
    try simp only [Act.put, List.setIfInBounds_toArray, List.set_cons_succ]
    refine wpAnyH_take (i := 3) (v := ?_) rfl (by kernel_rfl) (by kernel_rfl) (by kernel_rfl) (fun _ _ _ h => h) (Or.inl ⟨by kernel_rfl, ?_⟩) (by assumption) ?_
    rotate_left
    · intro w hSw; (try dsimp only at hSw); go_simp; with_reducible rfl
    try simp only [Act.put, List.setIfInBounds_toArray, List.set_cons_succ]
    refine wpAnyH_take (i := 4) (v := ?_) rfl (by kernel_rfl) (by kernel_rfl) (by kernel_rfl) (fun _ _ _ h => h) (Or.inl ⟨by kernel_rfl, ?_⟩) (by assumption) ?_
    rotate_left
    · intro w hSw; (try dsimp only at hSw); go_simp; with_reducible rfl
    try simp only [Act.put, List.setIfInBounds_toArray, List.set_cons_succ]
    refine wpAnyH_ready (rs := [5]) (by kernel_rfl) (by simp) ?_
    refine AllReadyH.cons rfl (fun K hK => ?_) AllReadyH.nil
    go_simp
    refine hK.out _ _ (⟨(World.cell?_setCell_far _ _ _ _ hVX).trans hHeld.1, (World.cell?_setCell_far _ _ _ _ hVX).trans hHeld.2⟩) (fun hHeld => ?_)
    clear hK K
    try simp only [Act.put, List.setIfInBounds_toArray, List.set_cons_succ]
    refine wpAnyH_take (i := 6) (v := ?_) rfl (by kernel_rfl) (by kernel_rfl) (by kernel_rfl) (fun _ _ _ h => h) (Or.inl ⟨by kernel_rfl, ?_⟩) (by assumption) ?_
    rotate_left
    · intro w hSw; (try dsimp only at hSw); go_simp; with_reducible rfl
    try simp only [Act.put, List.setIfInBounds_toArray, List.set_cons_succ]
    refine wpAnyH_ready (rs := [7]) (by kernel_rfl) (by simp) ?_
    refine AllReadyH.cons rfl (fun K hK => ?_) AllReadyH.nil
    go_simp
    refine hK.out _ _ (⟨(World.cell?_setCell_far _ _ _ _ hVX).trans hHeld.1, (World.cell?_setCell_far _ _ _ _ hVX).trans hHeld.2⟩) (fun hHeld => ?_)
    clear hK K
    try simp only [Act.put, List.setIfInBounds_toArray, List.set_cons_succ]
    refine wpAnyH_done (by kernel_rfl) ?_ _
    have S7 : TS w [(V, 61, [.int .u64 (thruV x).r, .int .u32 (thruV x).c, .int .u64 (thruV x).b, .int .u16 (thruV x).p]), (Y, 31, [.int .u64 0, .int .u64 0, .int .u32 0, .int .i64 0, .int .i64 0, .int .i64 0, .int .i64 0, .int .i64 0, .int .i64 0, .int .i64 0, .bool false, .bool false, .bool false, .int .i64 0, .bool false, .int .i64 0, .bool false, .int .i64 0, .slice none 0 0]), (X, 31, lT { t with rp := (j : Int), ro := x.hr, co := farI x.hc x.co } D n cap')] D L _ := (S6.set 2 rfl 1 (.int .u64 (thruV x).r)).set 2 rfl 2 (.int .u32 (thruV x).c)
    have e2 : ({ t with rp := (j : Int), ro := x.hr, co := farI x.hc x.co } : Th) = selectT t L := by rw [← HS.out]; simp only [selT, HX0.out]
    rw [e2] at S7
    have S8 := S7.below (wy := World.drew _) ((Below.refl _ _).drew)
    generalize ((w6.setCell ⟨X, 1, none⟩ (.int .u64 (thruV x).r)).setCell ⟨X, 2, none⟩ (.int .u32 (thruV x).c)).drew = w7 at S8 ⊢
    clear S7 S6 hHeld v0 v1 c1 c2 f1 f2 e2
    have hx := S8.hs.bk 2 rfl
    have hy := S8.hs.bk 1 rfl
    go_wp2_with (first | (refine wpList_load_row rfl 31 _ rfl X rfl _ _ (0, 0) _ hx Tryz.underlying31 rfl (by kernel_rfl) ?_) | (refine wpList_store_row rfl 31 _ _ rfl Y _ rfl rfl _ _ hy (by kernel_rfl) (by kernel_rfl) (by kernel_rfl) ?_))
    exact bodyPost_ret (v := .agg (lT (selectT t L) D n cap').toArray) (results_cell_row rfl _ _ Y _ _ _ _ rfl (setRow_heap _ _ _ _ _ _ hy) Tryz.underlying31 rfl (by kernel_rfl)) rfl ⟨D, cap', rfl, HZ.out, (S8.row 1 rfl (lT (selectT t L) D n cap')).nobox⟩

end Go.Proofs.YtnmnihlhcokjpaaGreatDoor

/- Designate and Update: contracts. -/
namespace Go.Proofs.YtnmnihlhcokjpaaGreatDoor
set_option maxRecDepth 100000
open Go.ChangeShapes Go.WideShapes Go.ChangeAt Go.RowKit
set_option linter.unusedVariables false

theorem become_row (p : Po) (t : Th) (w : World) :
    Calls Tryz.prog 80 #[.agg (lP p).toArray, .agg #[.int .u64 t.ro, .int .u32 t.co, .int .u64 t.ow, .int .u16 0]] w fun e w' => e = .returned (.agg (lP (becomeP t p)).toArray) ∧ Below w.heap.size w w' := become_is p ⟨t.ro, t.co, t.ow, 0⟩ w
theorem keeps_row (t : Th) (p : Po) (r : Bool) (hr : decide (cmpV (ownV t p) (heldV p) ≤ 0) = r) (w : World) :
    Calls Tryz.prog 130 #[.agg #[.int .u64 (becomeP t p).hr, .int .u32 (becomeP t p).hc, .int .u64 (becomeP t p).hb, .int .u16 (becomeP t p).hp], .agg #[.int .u64 p.hr, .int .u32 p.hc, .int .u64 p.hb, .int .u16 p.hp]] w fun e w' => e = .returned (.bool r) ∧ Below w.heap.size w w' := keeps_is (ownV t p) (heldV p) r hr w

set_option maxRecDepth 100000 in
set_option maxHeartbeats 2000000 in
theorem desig_all (t : Th) (A : Option Addr) (n cap : Nat) (L : List Po) (hL : Hid (L.length = n)) (hf : n ≤ 200) (hc : Hid (A = none → cap = 0)) (w : World) (hp : Hid (PoAt w A w.heap.size L)) :
    Calls Tryz.prog 122 #[.agg (lT t A n cap).toArray] w (TOut w t n (desL t L)) := by
  obtain ⟨wb, hwb, S⟩ := hs_two w 31 31 (lT t A n cap) [.int .u64 0, .int .u64 0, .int .u32 0, .int .i64 0, .int .i64 0, .int .i64 0, .int .i64 0, .int .i64 0, .int .i64 0, .int .i64 0, .bool false, .bool false, .bool false, .int .i64 0, .bool false, .int .i64 0, .bool false, .int .i64 0, .slice none 0 0]
  go_enter Tryz.func122, Tryz.ntmps122
  go_upto_region 1 with fail
  clear hwb
  obtain ⟨X, hX⟩ : ∃ X, w.heap.size = X := ⟨_, rfl⟩
  rw [hX] at S
  obtain ⟨Y, hY⟩ : ∃ Y, X + 1 = Y := ⟨_, rfl⟩
  rw [hY] at S
  rw [hX]
  rw [hY]
  clear hX hY
  have hp1 := Lib.hid ((hp.out.below S.old (Nat.le_refl _)).wide S.old.size)
  have HC := Lib.hid (tcopy_is t A n cap L hL hf hc wb hp1)
  have hx := S.bk 1 rfl
  go_wp2_with (refine wpList_load_row rfl 31 _ rfl X rfl _ _ (0, 0) _ hx Tryz.underlying31 rfl (by kernel_rfl) ?_)
  (with_reducible refine HC.out.mono ?_); rintro e w1 ⟨D, cap', rfl, hz, k1⟩
  have S1 := TS.take S k1
  have HZ := Lib.hid hz
  clear S hx HC hp1 k1 hz
  have hx := S1.hs.bk 1 rfl
  go_upto_region 2 with (refine wpList_store_row rfl 31 _ _ rfl X _ rfl rfl _ _ hx (by kernel_rfl) (by kernel_rfl) (by kernel_rfl) ?_)
  have S2 : TS w [(Y, 31, [.int .u64 0, .int .u64 0, .int .u32 0, .int .i64 0, .int .i64 0, .int .i64 0, .int .i64 0, .int .i64 0, .int .i64 0, .int .i64 0, .bool false, .bool false, .bool false, .int .i64 0, .bool false, .int .i64 0, .bool false, .int .i64 0, .slice none 0 0]), (X, 31, lT t D n cap')] D L _ := S1.row 1 rfl (lT t D n cap')
  generalize w1.setRow X (lT t D n cap').toArray = w2 at S2 ⊢
  clear S1 hx
  have HT := fun W => Lib.hid (telling_is t D n cap' W)
  have hx := S2.hs.bk 1 rfl
  go_wp2_with (refine wpList_load_row rfl 31 _ rfl X rfl _ _ (0, 0) _ hx Tryz.underlying31 rfl (by kernel_rfl) ?_)
  (with_reducible refine (HT _).out.mono ?_); rintro e w3 ⟨rfl, b3⟩
  have S3 := S2.below b3
  clear S2 hx HT b3
  go_upto_region 3 with (refine wpList_store_row rfl 61 _ _ rfl _ _ rfl rfl _ _ (heap_alloc_new _ _) (by kernel_rfl) (by kernel_rfl) (by kernel_rfl) ?_)
  rw [alloc_row]
  have S4 := S3.al rfl 61 [.int .u64 t.ro, .int .u32 t.co, .int .u64 t.ow, .int .u16 0]
  obtain ⟨V, hV⟩ : ∃ V, w3.heap.size = V := ⟨_, rfl⟩
  rw [hV] at S4 ⊢
  generalize w3.alloc (.cells #[.int .u64 t.ro, .int .u32 t.co, .int .u64 t.ow, .int .u16 0] 61) = w4 at S4 ⊢
  clear S3 hV
  have c18 := S4.hs.cell 2 18 rfl rfl
  go_wp2
  clear c18
  go_loopw [14] (fun i wr => ∃ k : Nat, k ≤ n ∧ i = .int .i64 k ∧ TS w [(V, 61, [.int .u64 t.ro, .int .u32 t.co, .int .u64 t.ow, .int .u16 0]), (Y, 31, [.int .u64 0, .int .u64 0, .int .u32 0, .int .i64 0, .int .i64 0, .int .i64 0, .int .i64 0, .int .i64 0, .int .i64 0, .int .i64 0, .bool false, .bool false, .bool false, .int .i64 0, .bool false, .int .i64 0, .bool false, .int .i64 0, .slice none 0 0]), (X, 31, lT t D n cap')] D (mixL (fun _ p => desP t p) k L) wr) (fun i _ => n - (intOf i).toNat)
  case atStart => exact ⟨0, Nat.zero_le _, rfl, by rw [mixL_zero]; exact S4⟩
  case round =>
    obtain ⟨k, hk, rfl, S⟩ := hrel
    by_cases hkn : k < n
    · obtain ⟨x, hx⟩ := po_at hL.out hkn
      have hki : (k : Int) < (n : Int) := by omega
      have hkz : ¬ (n : Int) ≤ (k : Int) := by omega
      have hm := mixL_at (f := fun _ p => desP t p) hx
      have HX := Lib.hid hx
      have HM := Lib.hid hm
      obtain ⟨g, hD, hg, hcl, hfz⟩ := S.at hm
      subst hD
      have hat : ∀ i v, (lP x)[i]? = some v → wr.cell? ((⟨g, k * 15, none⟩ : Addr).add i) = some v := fun i v hv => by rw [addr_add]; exact hcl i v hv
      clear hx hm S4
      go_upto_region 6 with (first | (with_reducible refine wpList_load_at rfl 63 (.tmp 17) rfl ⟨g, k * 15, none⟩ (by kernel_rfl) _ _ hat Tryz.underlying63 rfl (by kernel_rfl) ?_) | (refine wpList_store_row rfl 63 _ _ rfl _ _ rfl rfl _ _ (heap_alloc_new _ _) (by kernel_rfl) (by kernel_rfl) (by kernel_rfl) ?_))
      rw [alloc_row]
      have T1 := S.al rfl 63 (lP x)
      obtain ⟨Z, hZ⟩ : ∃ Z, wr.heap.size = Z := ⟨_, rfl⟩
      rw [hZ] at T1 ⊢
      generalize wr.alloc (.cells (lP x).toArray 63) = v1 at T1 ⊢
      clear S hat hZ hg hcl hfz
      have HBC := fun W => Lib.hid (become_row x t W)
      have hz := T1.hs.bk 0 rfl
      have hv := T1.hs.bk 1 rfl
      go_wp2_with (first | (with_reducible refine wpList_load_row rfl 63 (.tmp 5) rfl Z (by kernel_rfl) _ _ (0, 0) _ hz Tryz.underlying63 rfl (by kernel_rfl) ?_) | (with_reducible refine wpList_load_row rfl 61 (.tmp 3) rfl V (by kernel_rfl) _ _ (0, 0) _ hv Tryz.underlying61 rfl (by kernel_rfl) ?_))
      (with_reducible refine (HBC _).out.mono ?_); rintro e v2 ⟨rfl, b2⟩
      have T2 := T1.below b2
      clear T1 HBC b2 hz hv
      go_upto_region 7 with (refine wpList_store_row rfl 63 _ _ rfl _ _ rfl rfl _ _ (heap_alloc_new _ _) (by kernel_rfl) (by kernel_rfl) (by kernel_rfl) ?_)
      rw [alloc_row]
      have T3 := T2.al rfl 63 (lP (becomeP t x))
      obtain ⟨U, hU⟩ : ∃ U, v2.heap.size = U := ⟨_, rfl⟩
      rw [hU] at T3 ⊢
      generalize v2.alloc (.cells (lP (becomeP t x)).toArray 63) = v3 at T3 ⊢
      clear T2 hU
      obtain ⟨d, hd⟩ : ∃ d, desB x t.ow = d := ⟨_, rfl⟩
      have HD := fun W => Lib.hid (desig_row x t.ow d (Lib.hid hd) W)
      have HDD := Lib.hid hd
      clear hd
      have hz := T3.hs.bk 1 rfl
      have c0 := T3.hs.cell 4 0 rfl rfl
      go_wp2_with (with_reducible refine wpList_load_row rfl 63 (.tmp 5) rfl Z (by kernel_rfl) _ _ (0, 0) _ hz Tryz.underlying63 rfl (by kernel_rfl) ?_)
      (with_reducible refine (HD _).out.mono ?_); rintro e v4 ⟨rfl, b4⟩
      have T4 := T3.below b4
      clear T3 HD hz c0 b4
      cases d with
      | true =>
        have he : desP t x = becomeP t x := by unfold desP; rw [if_pos (by unfold takesB; rw [HDD.out]; rfl)]
        have c18 := T4.hs.cell 4 18 rfl rfl
        have hu := T4.hs.bk 0 rfl
        have hth := T4.there HM.out (becomeP t x)
        go_wp2_with (first | (with_reducible refine wpList_load_row rfl 63 (.tmp 6) rfl U (by kernel_rfl) _ _ (0, 0) _ hu Tryz.underlying63 rfl (by kernel_rfl) ?_) | (with_reducible refine wpList_store_mid rfl 63 (.tmp 45) _ rfl g (k * 15) (lP (becomeP t x)).toArray (by kernel_rfl) (by kernel_rfl) hth (by kernel_rfl) (by kernel_rfl) ?_))
        go_roundw
        case rel =>
          have T9 := T4.whole HM.out (becomeP t x)
          have q := mixL_set (f := fun _ p => desP t p) HX.out
          rw [he] at q
          rw [q] at T9
          exact ⟨k + 1, by omega, by go_num, T9.tail.tail⟩
        case measure => simp [intOf]; omega
      | false =>
        have z3 := T4.hs.cell 1 3 rfl rfl
        have c1 := T4.hs.cell 4 1 rfl rfl
        by_cases hrr : x.hr = t.ro
        · have hn : (x.hr != t.ro) = false := by simp [hrr]
          obtain ⟨r, hr⟩ : ∃ r, decide (cmpV (ownV t x) (heldV x) ≤ 0) = r := ⟨_, rfl⟩
          have HK := fun W => Lib.hid (keeps_row t x r hr W)
          have HTK := Lib.hid (show takesB t x = r by unfold takesB; rw [HDD.out, hr, show decide (x.hr ≠ t.ro) = false from decide_eq_false (fun k => k hrr)]; rfl)
          clear hrr hr
          have z4 := T4.hs.cell 1 4 rfl rfl
          have z5 := T4.hs.cell 1 5 rfl rfl
          have z6 := T4.hs.cell 1 6 rfl rfl
          have u3 := T4.hs.cell 0 3 rfl rfl
          have u4 := T4.hs.cell 0 4 rfl rfl
          have u5 := T4.hs.cell 0 5 rfl rfl
          have u6 := T4.hs.cell 0 6 rfl rfl
          go_wp2_with fail
          (with_reducible refine (HK _).out.mono ?_); rintro e v5 ⟨rfl, b5⟩
          have T5 := T4.below b5
          clear T4 HK b5 z3 z4 z5 z6 u3 u4 u5 u6 c1 hn
          cases r with
          | true =>
            have he : desP t x = becomeP t x := by unfold desP; rw [if_pos HTK.out]
            have c18 := T5.hs.cell 4 18 rfl rfl
            have hu := T5.hs.bk 0 rfl
            have hth := T5.there HM.out (becomeP t x)
            go_wp2_with (first | (with_reducible refine wpList_load_row rfl 63 (.tmp 6) rfl U (by kernel_rfl) _ _ (0, 0) _ hu Tryz.underlying63 rfl (by kernel_rfl) ?_) | (with_reducible refine wpList_store_mid rfl 63 (.tmp 45) _ rfl g (k * 15) (lP (becomeP t x)).toArray (by kernel_rfl) (by kernel_rfl) hth (by kernel_rfl) (by kernel_rfl) ?_))
            go_roundw
            case rel =>
              have T9 := T5.whole HM.out (becomeP t x)
              have q := mixL_set (f := fun _ p => desP t p) HX.out
              rw [he] at q
              rw [q] at T9
              exact ⟨k + 1, by omega, by go_num, T9.tail.tail⟩
            case measure => simp [intOf]; omega
          | false =>
            go_wp2
            go_roundw
            case rel =>
              have he : desP t x = x := by unfold desP; rw [if_neg (by rw [HTK.out]; decide)]
              have T9 := T5.tail.tail
              rw [mixL_same (f := fun _ p => desP t p) HX.out he] at T9
              exact ⟨k + 1, by omega, by go_num, T9⟩
            case measure => simp [intOf]; omega
        · have hn : (x.hr != t.ro) = true := by simp [hrr]
          have HTK := Lib.hid (show takesB t x = true by unfold takesB; rw [HDD.out, show decide (x.hr ≠ t.ro) = true from decide_eq_true hrr]; rfl)
          clear hrr
          have he : desP t x = becomeP t x := by unfold desP; rw [if_pos HTK.out]
          have c18 := T4.hs.cell 4 18 rfl rfl
          have hu := T4.hs.bk 0 rfl
          have hth := T4.there HM.out (becomeP t x)
          go_wp2_with (first | (with_reducible refine wpList_load_row rfl 63 (.tmp 6) rfl U (by kernel_rfl) _ _ (0, 0) _ hu Tryz.underlying63 rfl (by kernel_rfl) ?_) | (with_reducible refine wpList_store_mid rfl 63 (.tmp 45) _ rfl g (k * 15) (lP (becomeP t x)).toArray (by kernel_rfl) (by kernel_rfl) hth (by kernel_rfl) (by kernel_rfl) ?_))
          go_roundw
          case rel =>
            have T9 := T4.whole HM.out (becomeP t x)
            have q := mixL_set (f := fun _ p => desP t p) HX.out
            rw [he] at q
            rw [q] at T9
            exact ⟨k + 1, by omega, by go_num, T9.tail.tail⟩
          case measure => simp [intOf]; omega
    · have hkz : ¬ (k : Int) < (n : Int) := by omega
      have hke : k = n := by omega
      subst hke
      rw [mixL_all (by rw [hL.out]; exact Nat.le_refl _)] at S
      have hx := S.hs.bk 2 rfl
      have hy := S.hs.bk 1 rfl
      go_wp2_with (first | (refine wpList_load_row rfl 31 _ rfl X rfl _ _ (0, 0) _ hx Tryz.underlying31 rfl (by kernel_rfl) ?_) | (refine wpList_store_row rfl 31 _ _ rfl Y _ rfl rfl _ _ hy (by kernel_rfl) (by kernel_rfl) (by kernel_rfl) ?_))
      exact bodyPost_ret (v := .agg (lT t D k cap').toArray) (results_cell_row rfl _ _ Y _ _ _ _ rfl (setRow_heap _ _ _ _ _ _ hy) Tryz.underlying31 rfl (by kernel_rfl)) rfl ⟨D, cap', rfl, HZ.out, (S.row 1 rfl (lT t D k cap')).nobox⟩

end Go.Proofs.YtnmnihlhcokjpaaGreatDoor

/- A region that draws its order, by an invariant: what holds of each state, by which operations have come up, is kept by each operation that may come next. So many steps as operations, however many orders. Over any program. -/
namespace Go.Proofs.YtnmnihlhcokjpaaGreatDoor
set_option maxRecDepth 100000
open Go.ChangeShapes Go.WideShapes Go.ChangeAt Go.RowKit
set_option linter.unusedVariables false

section
variable {P : Program} {ops : Array Oper} {Q : Exit → Act → World → Prop} {md : Region.Mode} {S : World → Prop}

theorem put_none (a : Act) (v : Value) : a.put none v = a := rfl
/-- What has come up, and i too. -/
def upB (f : Nat → Bool) (i : Nat) : Nat → Bool := fun j => if j = i then true else f j
theorem upB_self (f : Nat → Bool) (i : Nat) : upB f i i = true := by simp [upB]
theorem upB_ne (f : Nat → Bool) {i j : Nat} (h : j ≠ i) : upB f i j = f j := by simp [upB, h]

/-- Each of the operations 'rs' keeps the invariant. -/
def StepsI (P : Program) (md : Region.Mode) (ops : Array Oper) (Q : Exit → Act → World → Prop) (S : World → Prop) (I : (Nat → Bool) → Act → World → Prop) (rs : List Nat) : Prop :=
  ∀ i ∈ rs, ∀ f a w, f i = false → (∀ o, ops[i]? = some o → ∀ e ∈ o.after, Region.binds md e = true → f e.on = true) → S w → I f a w → wpOp P ops Q i (fun a' w' => S w' ∧ I (upB f i) a' w') a w

theorem StepsI.nil {I : (Nat → Bool) → Act → World → Prop} : StepsI P md ops Q S I [] := fun _ h => by cases h
theorem StepsI.cons {I : (Nat → Bool) → Act → World → Prop} {i : Nat} {o : Oper} {rs : List Nat} (ho : ops[i]? = some o)
    (h : ∀ f a w, f i = false → (∀ e ∈ o.after, Region.binds md e = true → f e.on = true) → S w → I f a w → ∀ K' : Act → World → Prop, Shut (∀ a' w', S w' → I (upB f i) a' w' → K' a' w') →
      if Region.wanted o (yielded ops a.tmps) = true then Oper.wp P o a w K' Q else K' (a.put o.dst undef) w)
    (hs : StepsI P md ops Q S I rs) : StepsI P md ops Q S I (i :: rs) := fun j hj => by
  rcases List.mem_cons.1 hj with rfl | hj
  · exact fun f a w h1 h2 h3 h4 => wpOp_step ho (fun K' hK => h f a w h1 (h2 o ho) h3 h4 K' (fun a' w' hS hI => hK a' w' ⟨hS, hI⟩))
  · exact hs j hj

theorem all_listed (hord : ∀ i o, ops[i]? = some o → ∀ e ∈ o.after, Region.binds md e = true → e.on < i) {listed : Array Bool} (hsz : listed.size = ops.size) (hr : Region.ready md ops listed = []) :
    ∀ n i, i < n → i < ops.size → listed.getD i false = true := by
  intro n
  induction n with
  | zero => intro i h; omega
  | succ n ih =>
    intro i hi hlt
    cases e : listed.getD i false with
    | true => rfl
    | false =>
      exfalso
      have hd : listed.getD i true = false := by
        have hl : i < listed.size := by omega
        simp [hl] at e ⊢
        exact e
      have : i ∈ Region.ready md ops listed := mem_ready.2 ⟨hd, ops[i], Array.getElem?_eq_getElem hlt, fun q hq hb => by
        have h1 := hord i ops[i] (Array.getElem?_eq_getElem hlt) q hq hb
        exact ih q.on (by omega) (by omega)⟩
      rw [hr] at this
      cases this

theorem wpAnyH_inv {I : (Nat → Bool) → Act → World → Prop} (hord : ∀ i o, ops[i]? = some o → ∀ e ∈ o.after, Region.binds md e = true → e.on < i)
    (rs : List Nat) (hs : StepsI P md ops Q S I rs) (hd : ∀ f a w, (∀ i, i < ops.size → f i = true) → S w → I f a w → Q .normal a w) :
    ∀ (fuel : Nat) (l : List Nat) (listed : Array Bool) (a : Act) (w : World), l.length ≤ fuel → (∀ i, i < ops.size → listed.getD i false = false → i ∈ l) → (∀ i ∈ l, i ∈ rs) → listed.size = ops.size → S w → I (fun j => listed.getD j false) a w →
      wpAnyH P md ops Q S fuel listed a w := by
  intro fuel
  induction fuel with
  | zero =>
    intro l listed a w hl hin _ hsz hS hI
    have h0 : l = [] := List.length_eq_zero_iff.1 (by omega)
    subst h0
    have hall : ∀ i, i < ops.size → listed.getD i false = true := fun i hi => by
      cases e : listed.getD i false with
      | true => rfl
      | false => exact absurd (hin i hi e) (by simp)
    refine ⟨?_, hd _ a w hall hS hI⟩
    cases e : Region.ready md ops listed with
    | nil => rfl
    | cons j r =>
      have hj : j ∈ Region.ready md ops listed := by rw [e]; simp
      obtain ⟨h1, o, h2, _⟩ := mem_ready.1 hj
      have hlt : j < ops.size := (Array.getElem?_eq_some_iff.1 h2).1
      have := hall j hlt
      have hl : j < listed.size := by omega
      simp [hl] at h1 this
      rw [h1] at this
      cases this
  | succ fuel ih =>
    intro l listed a w hl hin hrs hsz hS hI
    refine ⟨fun hr => hd _ a w (fun i hi => all_listed hord hsz hr _ i (Nat.lt_succ_self i) hi) hS hI, fun i hi => ?_⟩
    obtain ⟨h1, o, h2, h3⟩ := mem_ready.1 hi
    have hlt : i < ops.size := (Array.getElem?_eq_some_iff.1 h2).1
    have hll : i < listed.size := by omega
    have h1' : listed.getD i false = false := by
      simp [hll] at h1 ⊢
      exact h1
    have hil := hin i hlt h1'
    have hst := hs i (hrs i hil) (fun j => listed.getD j false) a w h1' (fun o' ho' e he hb => by rw [h2] at ho'; cases ho'; exact h3 e he hb) hS hI
    refine wpOp_mono (fun a' w' ⟨hS', hI'⟩ => ⟨hS', ?_⟩) hst
    have hf : upB (fun j => listed.getD j false) i = fun j => (listed.setIfInBounds i true).getD j false := by
      funext j
      by_cases e : j = i
      · subst e
        rw [upB_self]
        simp [hll]
      · rw [upB_ne _ e, getD_set_ne false (fun q => e q.symm)]
    rw [hf] at hI'
    refine ih (l.erase i) _ a' w' ?_ ?_ ?_ (by simp [hsz]) hS' hI'
    · rw [List.length_erase_of_mem hil]
      have : 0 < l.length := List.length_pos_of_mem hil
      omega
    · intro j hj hu
      by_cases e : j = i
      · subst e
        simp [hll] at hu
      · rw [getD_set_ne false (fun q => e q.symm)] at hu
        exact (List.mem_erase_of_ne e).2 (hin j hj hu)
    · exact fun j hj => hrs j (List.mem_of_mem_erase hj)

/-- The order of a region's operations, as a Bool. -/
def ordB (md : Region.Mode) (ops : Array Oper) : Bool := (List.range ops.size).all fun i => match ops[i]? with | none => true | some o => o.after.all fun e => !Region.binds md e || decide (e.on < i)
theorem ordB_spec (h : ordB md ops = true) : ∀ i o, ops[i]? = some o → ∀ e ∈ o.after, Region.binds md e = true → e.on < i := by
  intro i o ho e he hb
  have hlt : i < ops.size := (Array.getElem?_eq_some_iff.1 ho).1
  have := (List.all_eq_true.1 h) i (List.mem_range.2 hlt)
  rw [ho] at this
  have := (Array.all_eq_true_iff_forall_mem.1 this) e he
  simpa [hb] using this
/-- What is left, as a Bool. -/
def leftB (ops : Array Oper) (listed : Array Bool) (rs : List Nat) : Bool := (List.range ops.size).all fun i => listed.getD i false || rs.contains i
theorem leftB_spec {listed : Array Bool} {rs : List Nat} (h : leftB ops listed rs = true) : ∀ i, i < ops.size → listed.getD i false = false → i ∈ rs := by
  intro i hi hu
  have := (List.all_eq_true.1 h) i (List.mem_range.2 hi)
  rw [hu] at this
  simpa using this

/-- The law, its side conditions as Bools. -/
theorem wpAnyH_by {I : (Nat → Bool) → Act → World → Prop} {fuel : Nat} {listed : Array Bool} {a : Act} {w : World} (rs : List Nat) (ho : ordB md ops = true) (hl : leftB ops listed rs = true) (hz : (listed.size == ops.size) = true) (hf : Nat.ble rs.length fuel = true)
    (hS : S w) (hI : I (fun j => listed.getD j false) a w) (hd : ∀ f a w, (∀ i, i < ops.size → f i = true) → S w → I f a w → Q .normal a w) (hs : StepsI P md ops Q S I rs) : wpAnyH P md ops Q S fuel listed a w :=
  wpAnyH_inv (ordB_spec ho) rs hs hd fuel rs listed a w (Nat.le_of_ble_eq_true hf) (leftB_spec hl) (fun _ h => h) (by simpa using hz) hS hI


/-- The slots that change, 4 of them. -/
def puts4 (a : Act) (d1 d2 d3 d4 : Tmp) (v1 v2 v3 v4 : Value) : Act := (((a.put (some d1) v1).put (some d2) v2).put (some d3) v3).put (some d4) v4
def IX4 (a : Act) (d1 d2 d3 d4 : Tmp) (J : (Nat → Bool) → Value → Value → Value → Value → World → Prop) (f : Nat → Bool) (b : Act) (w : World) : Prop := ∃ v1 v2 v3 v4, b = puts4 a d1 d2 d3 d4 v1 v2 v3 v4 ∧ J f v1 v2 v3 v4 w
/-- The law, where but 4 slots change. -/
theorem wpAnyH_by4 {fuel : Nat} {listed : Array Bool} {a : Act} {w : World} (d1 d2 d3 d4 : Tmp) (J : (Nat → Bool) → Value → Value → Value → Value → World → Prop) (h0 : puts4 a d1 d2 d3 d4 (a.tmps.getD d1 undef) (a.tmps.getD d2 undef) (a.tmps.getD d3 undef) (a.tmps.getD d4 undef) = a) (rs : List Nat) (ho : ordB md ops = true) (hl : leftB ops listed rs = true) (hz : (listed.size == ops.size) = true) (hf : Nat.ble rs.length fuel = true)
    (hS : S w) (hJ : J (fun j => listed.getD j false) (a.tmps.getD d1 undef) (a.tmps.getD d2 undef) (a.tmps.getD d3 undef) (a.tmps.getD d4 undef) w) (hd : ∀ f v1 v2 v3 v4 w, (∀ i, i < ops.size → f i = true) → S w → J f v1 v2 v3 v4 w → Q .normal (puts4 a d1 d2 d3 d4 v1 v2 v3 v4) w)
    (hs : StepsI P md ops Q S (IX4 a d1 d2 d3 d4 J) rs) : wpAnyH P md ops Q S fuel listed a w :=
  wpAnyH_by rs ho hl hz hf hS ⟨_, _, _, _, h0.symm, hJ⟩ (fun f b w hall hS ⟨v1, v2, v3, v4, hb, hJ⟩ => by rw [hb]; exact hd f v1 v2 v3 v4 w hall hS hJ) hs
theorem StepsI.cons4 {a : Act} {d1 d2 d3 d4 : Tmp} {J : (Nat → Bool) → Value → Value → Value → Value → World → Prop} {i : Nat} {o : Oper} {rs : List Nat} (ho : ops[i]? = some o)
    (h : ∀ f v1 v2 v3 v4 w, f i = false → (∀ e ∈ o.after, Region.binds md e = true → f e.on = true) → S w → J f v1 v2 v3 v4 w → ∀ K' : Act → World → Prop, Shut (∀ u1 u2 u3 u4 b w', S w' → b = puts4 a d1 d2 d3 d4 u1 u2 u3 u4 → J (upB f i) u1 u2 u3 u4 w' → K' b w') →
      if Region.wanted o (yielded ops (puts4 a d1 d2 d3 d4 v1 v2 v3 v4).tmps) = true then Oper.wp P o (puts4 a d1 d2 d3 d4 v1 v2 v3 v4) w K' Q else K' ((puts4 a d1 d2 d3 d4 v1 v2 v3 v4).put o.dst undef) w)
    (hs : StepsI P md ops Q S (IX4 a d1 d2 d3 d4 J) rs) : StepsI P md ops Q S (IX4 a d1 d2 d3 d4 J) (i :: rs) :=
  StepsI.cons ho (fun f b w h1 h2 h3 ⟨v1, v2, v3, v4, hb, hJ⟩ K' hK => by
    subst hb
    exact h f v1 v2 v3 v4 w h1 h2 h3 hJ K' (fun u1 u2 u3 u4 b w' hS hb hJ => hK.out b w' hS ⟨u1, u2, u3, u4, hb, hJ⟩)) hs

/-- The slots that change, 6 of them. -/
def puts6 (a : Act) (d1 d2 d3 d4 d5 d6 : Tmp) (v1 v2 v3 v4 v5 v6 : Value) : Act := (((((a.put (some d1) v1).put (some d2) v2).put (some d3) v3).put (some d4) v4).put (some d5) v5).put (some d6) v6
def IX6 (a : Act) (d1 d2 d3 d4 d5 d6 : Tmp) (J : (Nat → Bool) → Value → Value → Value → Value → Value → Value → World → Prop) (f : Nat → Bool) (b : Act) (w : World) : Prop := ∃ v1 v2 v3 v4 v5 v6, b = puts6 a d1 d2 d3 d4 d5 d6 v1 v2 v3 v4 v5 v6 ∧ J f v1 v2 v3 v4 v5 v6 w
/-- The law, where but 6 slots change. -/
theorem wpAnyH_by6 {fuel : Nat} {listed : Array Bool} {a : Act} {w : World} (d1 d2 d3 d4 d5 d6 : Tmp) (J : (Nat → Bool) → Value → Value → Value → Value → Value → Value → World → Prop) (h0 : puts6 a d1 d2 d3 d4 d5 d6 (a.tmps.getD d1 undef) (a.tmps.getD d2 undef) (a.tmps.getD d3 undef) (a.tmps.getD d4 undef) (a.tmps.getD d5 undef) (a.tmps.getD d6 undef) = a) (rs : List Nat) (ho : ordB md ops = true) (hl : leftB ops listed rs = true) (hz : (listed.size == ops.size) = true) (hf : Nat.ble rs.length fuel = true)
    (hS : S w) (hJ : J (fun j => listed.getD j false) (a.tmps.getD d1 undef) (a.tmps.getD d2 undef) (a.tmps.getD d3 undef) (a.tmps.getD d4 undef) (a.tmps.getD d5 undef) (a.tmps.getD d6 undef) w) (hd : ∀ f v1 v2 v3 v4 v5 v6 w, (∀ i, i < ops.size → f i = true) → S w → J f v1 v2 v3 v4 v5 v6 w → Q .normal (puts6 a d1 d2 d3 d4 d5 d6 v1 v2 v3 v4 v5 v6) w)
    (hs : StepsI P md ops Q S (IX6 a d1 d2 d3 d4 d5 d6 J) rs) : wpAnyH P md ops Q S fuel listed a w :=
  wpAnyH_by rs ho hl hz hf hS ⟨_, _, _, _, _, _, h0.symm, hJ⟩ (fun f b w hall hS ⟨v1, v2, v3, v4, v5, v6, hb, hJ⟩ => by rw [hb]; exact hd f v1 v2 v3 v4 v5 v6 w hall hS hJ) hs
theorem StepsI.cons6 {a : Act} {d1 d2 d3 d4 d5 d6 : Tmp} {J : (Nat → Bool) → Value → Value → Value → Value → Value → Value → World → Prop} {i : Nat} {o : Oper} {rs : List Nat} (ho : ops[i]? = some o)
    (h : ∀ f v1 v2 v3 v4 v5 v6 w, f i = false → (∀ e ∈ o.after, Region.binds md e = true → f e.on = true) → S w → J f v1 v2 v3 v4 v5 v6 w → ∀ K' : Act → World → Prop, Shut (∀ u1 u2 u3 u4 u5 u6 b w', S w' → b = puts6 a d1 d2 d3 d4 d5 d6 u1 u2 u3 u4 u5 u6 → J (upB f i) u1 u2 u3 u4 u5 u6 w' → K' b w') →
      if Region.wanted o (yielded ops (puts6 a d1 d2 d3 d4 d5 d6 v1 v2 v3 v4 v5 v6).tmps) = true then Oper.wp P o (puts6 a d1 d2 d3 d4 d5 d6 v1 v2 v3 v4 v5 v6) w K' Q else K' ((puts6 a d1 d2 d3 d4 d5 d6 v1 v2 v3 v4 v5 v6).put o.dst undef) w)
    (hs : StepsI P md ops Q S (IX6 a d1 d2 d3 d4 d5 d6 J) rs) : StepsI P md ops Q S (IX6 a d1 d2 d3 d4 d5 d6 J) (i :: rs) :=
  StepsI.cons ho (fun f b w h1 h2 h3 ⟨v1, v2, v3, v4, v5, v6, hb, hJ⟩ K' hK => by
    subst hb
    exact h f v1 v2 v3 v4 v5 v6 w h1 h2 h3 hJ K' (fun u1 u2 u3 u4 u5 u6 b w' hS hb hJ => hK.out b w' hS ⟨u1, u2, u3, u4, u5, u6, hb, hJ⟩)) hs

theorem StepsI.store4 {a : Act} {d1 d2 d3 d4 : Tmp} {J : (Nat → Bool) → Value → Value → Value → Value → World → Prop} {i : Nat} {o : Oper} {rs : List Nat} (ho : ops[i]? = some o) (ty : TypeId) (x y : Operand) (hop : o.op = .store ty x y) (hgd : o.guard = none) (hdst : o.dst = none)
    (h : ∀ f v1 v2 v3 v4 w, f i = false → (∀ e ∈ o.after, Region.binds md e = true → f e.on = true) → S w → J f v1 v2 v3 v4 w →
      ∃ (g : Nat) (cs old : List Value), (puts4 a d1 d2 d3 d4 v1 v2 v3 v4).eval x = .pointer (some ⟨g, 0, none⟩) ∧ (puts4 a d1 d2 d3 d4 v1 v2 v3 v4).eval y = .agg cs.toArray ∧ Bk w g ty old ∧ old.length = cs.length ∧ (P.info? ty).map (·.size) = some cs.length ∧ cs.all (·.oneCell') = true ∧ S (w.setRow g cs.toArray) ∧ J (upB f i) v1 v2 v3 v4 (w.setRow g cs.toArray))
    (hs : StepsI P md ops Q S (IX4 a d1 d2 d3 d4 J) rs) : StepsI P md ops Q S (IX4 a d1 d2 d3 d4 J) (i :: rs) :=
  StepsI.cons4 ho (fun f v1 v2 v3 v4 w h1 h2 h3 hJ K' hK => by
    obtain ⟨g, cs, old, e1, e2, e3, e4, e5, e6, e7, e8⟩ := h f v1 v2 v3 v4 w h1 h2 h3 hJ
    have hw : Region.wanted o (yielded ops (puts4 a d1 d2 d3 d4 v1 v2 v3 v4).tmps) = true := by unfold Region.wanted; rw [hgd]
    rw [if_pos hw]
    have s1 : (P.info? ty).map (·.size) = some cs.toArray.size := by rw [e5, List.size_toArray]
    have s2 : old.toArray.size = cs.toArray.size := by rw [List.size_toArray, List.size_toArray, e4]
    have s3 : cs.toArray.all (·.oneCell') = true := Array.all_eq_true_iff_forall_mem.2 fun v hv => (List.all_eq_true.1 e6) v (by simpa using hv)
    refine wp_store_row ty x y hop g cs.toArray e1 e2 ty old.toArray e3 s1 s2 s3 ?_
    have hp : (puts4 a d1 d2 d3 d4 v1 v2 v3 v4).put o.dst undef = (puts4 a d1 d2 d3 d4 v1 v2 v3 v4) := by rw [hdst]; exact put_none _ _
    rw [hp]
    exact hK.out v1 v2 v3 v4 _ _ e7 rfl e8) hs
theorem StepsI.store6 {a : Act} {d1 d2 d3 d4 d5 d6 : Tmp} {J : (Nat → Bool) → Value → Value → Value → Value → Value → Value → World → Prop} {i : Nat} {o : Oper} {rs : List Nat} (ho : ops[i]? = some o) (ty : TypeId) (x y : Operand) (hop : o.op = .store ty x y) (hgd : o.guard = none) (hdst : o.dst = none)
    (h : ∀ f v1 v2 v3 v4 v5 v6 w, f i = false → (∀ e ∈ o.after, Region.binds md e = true → f e.on = true) → S w → J f v1 v2 v3 v4 v5 v6 w →
      ∃ (g : Nat) (cs old : List Value), (puts6 a d1 d2 d3 d4 d5 d6 v1 v2 v3 v4 v5 v6).eval x = .pointer (some ⟨g, 0, none⟩) ∧ (puts6 a d1 d2 d3 d4 d5 d6 v1 v2 v3 v4 v5 v6).eval y = .agg cs.toArray ∧ Bk w g ty old ∧ old.length = cs.length ∧ (P.info? ty).map (·.size) = some cs.length ∧ cs.all (·.oneCell') = true ∧ S (w.setRow g cs.toArray) ∧ J (upB f i) v1 v2 v3 v4 v5 v6 (w.setRow g cs.toArray))
    (hs : StepsI P md ops Q S (IX6 a d1 d2 d3 d4 d5 d6 J) rs) : StepsI P md ops Q S (IX6 a d1 d2 d3 d4 d5 d6 J) (i :: rs) :=
  StepsI.cons6 ho (fun f v1 v2 v3 v4 v5 v6 w h1 h2 h3 hJ K' hK => by
    obtain ⟨g, cs, old, e1, e2, e3, e4, e5, e6, e7, e8⟩ := h f v1 v2 v3 v4 v5 v6 w h1 h2 h3 hJ
    have hw : Region.wanted o (yielded ops (puts6 a d1 d2 d3 d4 d5 d6 v1 v2 v3 v4 v5 v6).tmps) = true := by unfold Region.wanted; rw [hgd]
    rw [if_pos hw]
    have s1 : (P.info? ty).map (·.size) = some cs.toArray.size := by rw [e5, List.size_toArray]
    have s2 : old.toArray.size = cs.toArray.size := by rw [List.size_toArray, List.size_toArray, e4]
    have s3 : cs.toArray.all (·.oneCell') = true := Array.all_eq_true_iff_forall_mem.2 fun v hv => (List.all_eq_true.1 e6) v (by simpa using hv)
    refine wp_store_row ty x y hop g cs.toArray e1 e2 ty old.toArray e3 s1 s2 s3 ?_
    have hp : (puts6 a d1 d2 d3 d4 d5 d6 v1 v2 v3 v4 v5 v6).put o.dst undef = (puts6 a d1 d2 d3 d4 d5 d6 v1 v2 v3 v4 v5 v6) := by rw [hdst]; exact put_none _ _
    rw [hp]
    exact hK.out v1 v2 v3 v4 v5 v6 _ _ e7 rfl e8) hs

end

/-- A box that operation j made, and operation s fills. -/
def BoxF (f : Nat → Bool) (j s : Nat) (T : TypeId) (len : Nat) (B : Nat) (w : World) (p v : Value) : Prop :=
  f j = true → ∃ g cs, p = .pointer (some ⟨g, 0, none⟩) ∧ B ≤ g ∧ Bk w g T cs ∧ cs.length = len ∧ (f s = true → v = .agg cs.toArray)

section
variable {f : Nat → Bool} {j s i : Nat} {T : TypeId} {len B : Nat} {w w' : World} {p v : Value}
theorem BoxF.below (h : BoxF f j s T len B w p v) (b : Below w.heap.size w w') : BoxF f j s T len B w' p v := fun hj => by
  obtain ⟨g, cs, h1, h2, h3, h4, h5⟩ := h hj
  exact ⟨g, cs, h1, h2, h3.below b h3.lt, h4, h5⟩
theorem BoxF.up (h : BoxF f j s T len B w p v) (hi : i ≠ j) (hi' : i ≠ s) : BoxF (upB f i) j s T len B w p v := fun hj => by
  rw [upB_ne _ (fun e => hi e.symm)] at hj
  obtain ⟨g, cs, h1, h2, h3, h4, h5⟩ := h hj
  exact ⟨g, cs, h1, h2, h3, h4, fun hs => h5 (by rwa [upB_ne _ (fun e => hi' e.symm)] at hs)⟩
theorem BoxF.off (h : f j = false) : BoxF f j s T len B w p v := fun e => by rw [h] at e; cases e
/-- Its value is known now; it isn't filled. -/
theorem BoxF.val {u : Value} (h : BoxF f j s T len B w p u) (hs : f s = false) : BoxF f j s T len B w p v := fun hj => by
  obtain ⟨g, cs, h1, h2, h3, h4, h5⟩ := h hj
  exact ⟨g, cs, h1, h2, h3, h4, fun e => by rw [hs] at e; cases e⟩
/-- It is made. -/
theorem BoxF.new (hs : f s = false) (hjs : s ≠ j) (hB : B ≤ w.heap.size) (cs : List Value) (hl : cs.length = len) : BoxF (upB f j) j s T len B (w.alloc (.cells cs.toArray T)) (.pointer (some ⟨w.heap.size, 0, none⟩)) v := fun _ =>
  ⟨w.heap.size, cs, rfl, hB, heap_alloc_new w _, hl, fun e => by rw [upB_ne _ hjs, hs] at e; cases e⟩
/-- It is filled. -/
theorem BoxF.fill {g : Nat} {cs cs' : List Value} (hg : B ≤ g) (hb : Bk w g T cs') (hl : cs.length = len) (hv : v = .agg cs.toArray) : BoxF (upB f s) j s T len B (w.setRow g cs.toArray) (.pointer (some ⟨g, 0, none⟩)) v := fun _ =>
  ⟨g, cs, rfl, hg, setRow_heap w g _ cs.toArray T (0, 0) hb, hl, fun _ => hv⟩
/-- Another one is filled. -/
theorem BoxF.far {g : Nat} {cs : List Value} (h : BoxF f j s T len B w p v) (hne : p ≠ .pointer (some ⟨g, 0, none⟩)) : BoxF f j s T len B (w.setRow g cs.toArray) p v := fun hj => by
  obtain ⟨g', cs', h1, h2, h3, h4, h5⟩ := h hj
  refine ⟨g', cs', h1, h2, (setRow_other w g g' _ (fun e => hne (by rw [h1, e]))).trans h3, h4, h5⟩
theorem BoxF.use {C : Prop} (h : BoxF f j s T len B w p v) (hj : f j = true) (k : ∀ g cs, p = .pointer (some ⟨g, 0, none⟩) → B ≤ g → Bk w g T cs → cs.length = len → (f s = true → v = .agg cs.toArray) → C) : C := by
  obtain ⟨g, cs, h1, h2, h3, h4, h5⟩ := h hj
  exact k g cs h1 h2 h3 h4 h5
/-- It is unlike a new one. -/
theorem BoxF.ne (h : BoxF f j s T len B w p v) (hj : f j = true) : p ≠ .pointer (some ⟨w.heap.size, 0, none⟩) := by
  obtain ⟨g, cs, h1, _, h3, _⟩ := h hj
  have := h3.lt
  rw [h1]
  intro e
  injection e with e
  injection e with e
  injection e with e
  omega
end

/-- What an operation waits for has come up. -/
theorem after_at {md : Region.Mode} {o : Oper} {f : Nat → Bool} (h : ∀ e ∈ o.after, Region.binds md e = true → f e.on = true) (c : Nat) (hb : (o.after.any fun e => e.on == c && Region.binds md e) = true) : f c = true := by
  obtain ⟨i, hi, hp⟩ := Array.any_eq_true.1 hb
  have hp' : (o.after[i].on == c && Region.binds md o.after[i]) = true := hp
  rw [Bool.and_eq_true, beq_iff_eq] at hp'
  rw [← hp'.1]
  exact h _ (Array.getElem_mem hi) hp'.2
theorem off_imp {b : Bool} {p : Prop} (h : b = false) : b = true → p := fun e => by rw [h] at e; cases e
theorem upB_imp {f : Nat → Bool} {i j : Nat} {p : Prop} (h : f j = true → p) (e : j ≠ i) : upB f i j = true → p := fun q => h (by rwa [upB_ne _ e] at q)
/-- What operation j yields. -/
def ValF (f : Nat → Bool) (j : Nat) (u v : Value) : Prop := f j = true → v = u
theorem ValF.up {f : Nat → Bool} {i j : Nat} {u v : Value} (h : ValF f j u v) (e : i ≠ j) : ValF (upB f i) j u v := upB_imp h (fun q => e q.symm)
/-- A whole store that comes up. -/
theorem exec_if_store {P : Program} {ops : Array Oper} {o : Oper} {a : Act} {w : World} {K : Act → World → Prop} {Q : Exit → Act → World → Prop} (hw : Region.wanted o (yielded ops a.tmps) = true) (ty : TypeId) (x y : Operand) (ho : o.op = .store ty x y)
    (g : Nat) (cells : Array Value) (hx : a.eval x = .pointer (some ⟨g, 0, none⟩)) (hy : a.eval y = .agg cells)
    (t : TypeId) (old : Array Value) (hg : w.heap[g]? = some (.cells old t (0, 0))) (hi : (P.info? ty).map (·.size) = some cells.size)
    (hold : old.size = cells.size) (h1 : cells.all (·.oneCell') = true)
    (h : K (a.put o.dst undef) (w.setRow g cells)) : if Region.wanted o (yielded ops a.tmps) = true then Oper.wp P o a w K Q else K (a.put o.dst undef) w := by
  rw [if_pos hw]
  exact wp_store_row ty x y ho g cells hx hy t old hg hi hold h1 h
/-- No store has come up yet, where one of those ahead of all stores has not. -/
theorem no_store {f : Nat → Bool} {l r : List Nat} (h : ∀ s ∈ l, f s = true → ∀ c ∈ r, f c = true) {c : Nat} (hc : c ∈ r) (hf : f c = false) : ∀ s ∈ l, f s = false := fun s hs => by
  cases e : f s with
  | false => rfl
  | true => rw [h s hs e c hc] at hf; cases hf
theorem store_up {f : Nat → Bool} {l r : List Nat} (h : ∀ s ∈ l, f s = true → ∀ c ∈ r, f c = true) {i : Nat} (hi : i ∈ r) (hf : f i = false) (hl : ∀ s ∈ l, s ≠ i) : ∀ s ∈ l, upB f i s = true → ∀ c ∈ r, upB f i c = true := fun s hs e => by
  rw [upB_ne _ (hl s hs), no_store h hi hf s hs] at e
  cases e
theorem store_at {f : Nat → Bool} {l r : List Nat} {i : Nat} (hr : ∀ c ∈ r, f c = true) (hn : ∀ c ∈ r, c ≠ i) : ∀ s ∈ l, upB f i s = true → ∀ c ∈ r, upB f i c = true := fun s _ _ c hc => by rw [upB_ne _ (hn c hc)]; exact hr c hc

/-- Ports that a call laid. -/
def RowT (w : World) (D : Option Addr) (L : List Po) : Prop := L = [] ∨ ∃ g rest, D = some ⟨g, 0, none⟩ ∧ Bk w g 63 (cellsOf lP L ++ rest)
/-- A view that operation j laid. -/
def CallF (f : Nat → Bool) (j : Nat) (t : Th) (n : Nat) (L : List Po) (w : World) (v : Value) : Prop :=
  f j = true → ∃ D cap, v = .agg (lT t D n cap).toArray ∧ (D = none → cap = 0) ∧ RowT w D L
section
variable {f : Nat → Bool} {i j : Nat} {t : Th} {n : Nat} {L : List Po} {w w' : World} {v : Value} {D : Option Addr}
theorem RowT.below (h : RowT w D L) (b : Below w.heap.size w w') : RowT w' D L := h.imp id fun ⟨g, r, e, k⟩ => ⟨g, r, e, k.below b k.lt⟩
theorem RowT.row {g : Nat} {cs cs' : List Value} (h : RowT w D L) (hb : Bk w g 31 cs') : RowT (w.setRow g cs.toArray) D L := h.imp id fun ⟨g', r, e, k⟩ =>
  ⟨g', r, e, (setRow_other w g g' _ (fun q => by subst q; unfold Bk at k hb; rw [k] at hb; injection hb with hb; injection hb with _ hb; cases hb)).trans k⟩
theorem TS.rowT {w0 : World} (h : TS w0 [] D L w) : RowT w D L := h.2.imp id fun ⟨g, r, e, s⟩ => ⟨g, r, e, (s.1 0 _ _ _ rfl).1⟩
theorem RowT.ports (h : RowT w D L) : PoAt w D w.heap.size L := fun k x hx => by
  rcases h with rfl | ⟨g, r, rfl, hb⟩
  · simp at hx
  · refine ⟨_, rfl, hb.lt, fun i v hv => ?_⟩
    have hi : i < 15 := by
      rcases Nat.lt_or_ge i 15 with q | q
      · exact q
      · rw [List.getElem?_eq_none (by rw [lP_len]; exact q)] at hv; cases hv
    have hl : k < L.length := po_lt hx
    rw [addr_add, addr_add, Nat.zero_add, hb.cell, List.getElem?_append_left (by rw [cellsOf_len lP_len]; omega), cellsOf_get lP_len L k x i hx hi]
    exact hv
theorem CallF.below (h : CallF f j t n L w v) (b : Below w.heap.size w w') : CallF f j t n L w' v := fun hj => by
  obtain ⟨D, cap, h1, h2, h3⟩ := h hj
  exact ⟨D, cap, h1, h2, h3.below b⟩
theorem CallF.up (h : CallF f j t n L w v) (hi : i ≠ j) : CallF (upB f i) j t n L w v := fun hj => h (by rwa [upB_ne _ (fun e => hi e.symm)] at hj)
theorem CallF.use {C : Prop} (h : CallF f j t n L w v) (hj : f j = true) (k : ∀ D cap, v = .agg (lT t D n cap).toArray → (D = none → cap = 0) → RowT w D L → C) : C := by
  obtain ⟨D, cap, h1, h2, h3⟩ := h hj
  exact k D cap h1 h2 h3
theorem CallF.off (h : f j = false) : CallF f j t n L w v := fun e => by rw [h] at e; cases e
theorem CallF.new {cap : Nat} (hz : D = none → cap = 0) (hr : RowT w D L) : CallF (upB f j) j t n L w (.agg (lT t D n cap).toArray) := fun _ => ⟨D, cap, rfl, hz, hr⟩
theorem CallF.row {g : Nat} {cs cs' : List Value} (h : CallF f j t n L w v) (hb : Bk w g 31 cs') : CallF f j t n L (w.setRow g cs.toArray) v := fun hj => by
  obtain ⟨D, cap, h1, h2, h3⟩ := h hj
  exact ⟨D, cap, h1, h2, h3.row hb⟩
end

end Go.Proofs.YtnmnihlhcokjpaaGreatDoor
