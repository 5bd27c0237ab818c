/- Several texts in one, one behind the other: SendRefTcn, SendRefDet, SendDet. -/
import Derived.Test.YtcamakkicmapcaaDoorPk07
import Derived.Test.YtcamakkicmapcaaDoorPk12
import Derived.Test.YtcamakkicmapcaaDoorPk04
import Derived.Test.YtcamakkicmapcaaDoorPk09

/- The document's Tcn: contract. -/
namespace Go.Proofs.YtcamakkicmapcaaDoor
set_option maxRecDepth 100000
open Go.ChangeShapes Go.WideShapes Go.ChangeAt Go.RowKit
set_option linter.unusedVariables false
set_option linter.unusedSimpArgs false

/-- The TCN that goes out by the port to the root. -/
def tcnR (t : Th) (n : Nat) : List Ou := if 0 ≤ t.rp ∧ t.rp < n then [⟨t.rp, t.ow % 281474976710656, tcnQ⟩] else []
def OutsEnd (w : World) (M : List Ou) (e : Ending) (w' : World) : Prop := ∃ v, e = .returned v ∧ OutsR w' w.heap.size v M ∧ Below w.heap.size w w'
/-- One Out, just laid in a row. -/
theorem outs_one {w w' : World} {c : Oc} (hb : w.heap.size ≤ w'.heap.size) (h : OcAt w' w.heap.size c) : OutsR (w'.alloc (.cells (lO c).toArray 57)) w.heap.size (.slice (some ⟨w'.heap.size, 0, none⟩) 1 1) [c.o] :=
  ⟨[c], rfl, ⟨rfl, .inr ⟨w'.heap.size, 1, (lO c).toArray, rfl, hb, heap_alloc_new _ _, Nat.le_refl _, by decide, rfl, rfl⟩⟩, fun d hd => by obtain rfl := List.mem_singleton.1 hd; exact h.below (new_below _ _)⟩

set_option maxHeartbeats 1000000 in
theorem rtcn_is (t : Th) (A : Option Addr) (n cap : Nat) (ht : Hid (ThB t)) (w : World) :
    Calls Tryd.prog 20 #[.agg (lT t A n cap).toArray] w (OutsEnd w (tcnR t n)) := by
  obtain ⟨R, hR⟩ : ∃ R, tcnR t n = R := ⟨_, rfl⟩
  rw [hR]
  have HR := Lib.hid hR
  clear hR
  have HOT : ∀ W, Hid (Calls Tryd.prog 36 #[.agg (lT t A n cap).toArray, .int .i64 t.rp, .agg #[.bool true, .bool false, .bool false, .int .u64 0, .int .u32 0, .int .u64 0, .int .u16 0, .int .u16 0, .int .u16 0, .int .u16 0, .int .u16 0]] W (OutEnd W ⟨t.rp, t.ow % 281474976710656, tcnQ⟩)) := fun W => Lib.hid (rout_is t A n cap t.rp tcnQ (by unfold BqIn BpIn tcnQ; decide) ht.out.1 W)
  obtain ⟨wb, hwb, S⟩ := hs_one w 31 (lT t A n cap)
  go_enter Tryd.func20, Tryd.ntmps20
  go_upto_region 1 with fail
  clear hwb
  obtain ⟨X, hX⟩ : ∃ X, w.heap.size = X := ⟨_, rfl⟩
  rw [hX] at S ⊢
  have c3 := S.cell 0 3 rfl rfl
  have c18 := S.cell 0 18 rfl rfl
  by_cases r0 : t.rp < 0
  · obtain rfl : [] = R := by rw [← HR.out, tcnR, if_neg (by omega)]
    go_wp2
    go_ret
    exact ⟨_, rfl, OutsR.nil _ _, S.old⟩
  by_cases r1 : (n : Int) ≤ t.rp
  · obtain rfl : [] = R := by rw [← HR.out, tcnR, if_neg (by omega)]
    go_wp2
    go_ret
    exact ⟨_, rfl, OutsR.nil _ _, S.old⟩
  obtain rfl : [⟨t.rp, t.ow % 281474976710656, tcnQ⟩] = R := by rw [← HR.out, tcnR, if_pos (by omega)]
  go_upto_region 3 with fail
  clear c18
  have hx := S.bk 0 rfl
  go_wp2_with (with_reducible refine wpList_load_row rfl 31 (.tmp 1) rfl X (by kernel_rfl) _ _ (0, 0) _ hx Tryd.underlying31 rfl (by kernel_rfl) ?_)
  (with_reducible refine (HOT _).out.mono ?_); rintro e w2 ⟨g, c, rfl, hoc, b2⟩
  have hoc2 : OcAt w2 w.heap.size ⟨⟨t.rp, t.ow % 281474976710656, tcnQ⟩, g, c⟩ := ⟨Nat.le_trans S.old.size hoc.1, hoc.2⟩
  have S2 := S.below b2
  have hO := outs_one (w := w) S2.old.size hoc2
  have B3 := S2.old.trans ((new_below w2 (.cells (lO ⟨⟨t.rp, t.ow % 281474976710656, tcnQ⟩, g, c⟩).toArray 57)).mono S2.old.size)
  obtain ⟨oc, hoc0⟩ : ∃ q : Oc, (⟨⟨t.rp, t.ow % 281474976710656, tcnQ⟩, g, c⟩ : Oc) = q := ⟨_, rfl⟩
  rw [hoc0] at hO B3 ⊢
  have hlen := lO_len oc
  have hfold : List.foldl (fun (cs : Array Value) (x : Value × Nat) => cs.setIfInBounds x.snd x.fst) #[.int .i64 0, .int .u64 0, .int .u64 0, .int .u16 0, .slice none 0 0] (lO oc).zipIdx = (lO oc).toArray := rfl
  have HO := Lib.hid hO
  have HB3 := Lib.hid B3
  have HQ := Lib.hid hoc0
  clear hO B3 hoc hoc2 S S2 b2 hx HOT hoc0
  go_wp2
  go_ret
  refine ⟨_, rfl, ?_, HB3.out⟩
  have := HO.out
  rw [← HQ.out] at this ⊢
  exact this

end Go.Proofs.YtcamakkicmapcaaDoor

/- The document's Detect: contract. -/
namespace Go.Proofs.YtcamakkicmapcaaDoor
set_option maxRecDepth 100000
open Go.ChangeShapes Go.WideShapes Go.ChangeAt Go.RowKit
set_option linter.unusedVariables false
set_option linter.unusedSimpArgs false

/-- The view when a change is detected, and what goes out. -/
def detT (t : Th) : Th := if t.ro = t.ow then { t with de := true, ch := true, zo := true, zv := 0 } else if t.de = true then t else { t with de := true, xo := true, xv := 0 }
def detO (t : Th) (n : Nat) : List Ou := if t.ro = t.ow then [] else if t.de = true then [] else tcnR t n
def DetEnd (w : World) (t : Th) (A : Option Addr) (n cap : Nat) (e : Ending) (w' : World) : Prop := ∃ v, e = .returned (.tuple #[.agg (lT (detT t) A n cap).toArray, v]) ∧ OutsR w' w.heap.size v (detO t n) ∧ Below w.heap.size w w'
/-- Two cells of a box that stores may write. -/
theorem Hs.there2 {w wx : World} {l : List (Nat × TypeId × List Value)} (h : Hs w l wx) (k : Nat) {g : Nat} {T : TypeId} {cs : List Value} (o : Nat) (hk : l[k]? = some (g, T, cs)) (ho : o + 1 < cs.length) : wx.there g o 2 := fun j hj => by
  have e : ∃ v, cs[o + j]? = some v := ⟨_, List.getElem?_eq_getElem (by omega)⟩
  obtain ⟨v, hv⟩ := e
  exact ⟨by rw [h.cell k (o + j) hk hv]; rfl, h.thaw k (o + j) hk⟩

set_option maxHeartbeats 1000000 in
theorem rdetect_is (t : Th) (A : Option Addr) (n cap : Nat) (ht : Hid (ThB t)) (w : World) :
    Calls Tryd.prog 17 #[.agg (lT t A n cap).toArray] w (DetEnd w t A n cap) := by
  unfold DetEnd
  obtain ⟨T, hT⟩ : ∃ T, detT t = T := ⟨_, rfl⟩
  obtain ⟨R, hR⟩ : ∃ R, detO t n = R := ⟨_, rfl⟩
  rw [hT, hR]
  have HT := Lib.hid hT
  have HR := Lib.hid hR
  clear hT hR
  obtain ⟨wb, hwb, S⟩ := hs_two w 31 31 (lT t A n cap) [.int .u64 0, .int .u64 0, .int .u32 0, .int .i64 0, .int .i64 0, .int .i64 0, .int .i64 0, .int .i64 0, .int .i64 0, .int .i64 0, .bool false, .bool false, .bool false, .int .i64 0, .bool false, .int .i64 0, .bool false, .int .i64 0, .slice none 0 0]
  go_enter Tryd.func17, Tryd.ntmps17
  go_upto_region 1 with fail
  clear hwb
  obtain ⟨X, hX⟩ : ∃ X, w.heap.size = X := ⟨_, rfl⟩
  rw [hX] at S ⊢
  obtain ⟨Y, hY⟩ : ∃ Y, X + 1 = Y := ⟨_, rfl⟩
  rw [hY] at S ⊢
  clear hY
  have c0 := S.cell 1 0 rfl rfl
  have c1 := S.cell 1 1 rfl rfl
  have c10 := S.cell 1 10 rfl rfl
  have c11 := S.cell 1 11 rfl rfl
  have f10 := S.thaw 1 10 rfl
  have f11 := S.thaw 1 11 rfl
  by_cases hro : t.ro = t.ow
  · have q : (t.ro == t.ow) = true := by simp [hro]
    obtain rfl : ({ t with de := true, ch := true, zo := true, zv := 0 } : Th) = T := by rw [← HT.out, detT, if_pos hro]
    obtain rfl : [] = R := by rw [← HR.out, detO, if_pos hro]
    clear hro
    go_upto_region 3 with fail
    have S1 : Hs w [(Y, 31, [.int .u64 0, .int .u64 0, .int .u32 0, .int .i64 0, .int .i64 0, .int .i64 0, .int .i64 0, .int .i64 0, .int .i64 0, .int .i64 0, .bool false, .bool false, .bool false, .int .i64 0, .bool false, .int .i64 0, .bool false, .int .i64 0, .slice none 0 0]), (X, 31, lT { t with de := true, ch := true } A n cap)] ((wb.setCell ⟨X, 11, none⟩ (.bool true)).setCell ⟨X, 10, none⟩ (.bool true)) := (S.set 1 rfl 11 (.bool true)).set 1 rfl 10 (.bool true)
    generalize (wb.setCell ⟨X, 11, none⟩ (.bool true)).setCell ⟨X, 10, none⟩ (.bool true) = w2 at S1 ⊢
    clear S c0 c1 c10 c11 f10 f11 q
    have hth : World.there _ X 16 ([.bool true, .int .i64 0] : List Value).toArray.size := S1.there2 1 16 rfl (show 17 < 19 by decide)
    go_upto_region 4 with (with_reducible refine wpList_store_mid rfl 28 (.tmp 12) _ rfl X 16 ([.bool true, .int .i64 0] : List Value).toArray (by kernel_rfl) (by kernel_rfl) hth (by kernel_rfl) (by kernel_rfl) ?_)
    have S2 : Hs w [(Y, 31, [.int .u64 0, .int .u64 0, .int .u32 0, .int .i64 0, .int .i64 0, .int .i64 0, .int .i64 0, .int .i64 0, .int .i64 0, .int .i64 0, .bool false, .bool false, .bool false, .int .i64 0, .bool false, .int .i64 0, .bool false, .int .i64 0, .slice none 0 0]), (X, 31, lT { t with de := true, ch := true, zo := true, zv := 0 } A n cap)] (w2.setCells X 16 ([.bool true, .int .i64 0] : List Value).toArray.toList) := (S1.set 1 rfl 16 (.bool true)).set 1 rfl 17 (.int .i64 0)
    generalize w2.setCells X 16 ([.bool true, .int .i64 0] : List Value).toArray.toList = w3 at S2 ⊢
    clear S1 hth
    have hx := S2.bk 1 rfl
    have hy := S2.bk 0 rfl
    go_wp2_with (first | (refine wpList_load_row rfl 31 _ rfl X rfl _ _ (0, 0) _ hx Tryd.underlying31 rfl (by kernel_rfl) ?_) | (refine wpList_store_row rfl 31 _ _ rfl Y _ rfl rfl _ _ hy (by kernel_rfl) (by kernel_rfl) (by kernel_rfl) ?_))
    exact bodyPost_ret (v := .tuple #[.agg (lT { t with de := true, ch := true, zo := true, zv := 0 } A n cap).toArray, .slice none 0 0]) (results_two rfl _ _ Y _ _ _ _ rfl _ rfl (setRow_heap _ _ _ _ _ _ hy) Tryd.underlying31 rfl (by kernel_rfl)) rfl ⟨_, rfl, OutsR.nil _ _, (S2.row 0 rfl (lT { t with de := true, ch := true, zo := true, zv := 0 } A n cap)).old⟩
  · have q : (t.ro == t.ow) = false := by simp [hro]
    obtain ⟨d, hd⟩ : ∃ d, t.de = d := ⟨_, rfl⟩
    cases d with
    | true =>
      obtain rfl : t = T := by rw [← HT.out, detT, if_neg hro, if_pos hd]
      obtain rfl : [] = R := by rw [← HR.out, detO, if_neg hro, if_pos hd]
      rw [hd] at c10
      clear hro hd
      have hx := S.bk 1 rfl
      have hy := S.bk 0 rfl
      go_wp2_with (first | (refine wpList_load_row rfl 31 _ rfl X rfl _ _ (0, 0) _ hx Tryd.underlying31 rfl (by kernel_rfl) ?_) | (refine wpList_store_row rfl 31 _ _ rfl Y _ rfl rfl _ _ hy (by kernel_rfl) (by kernel_rfl) (by kernel_rfl) ?_))
      exact bodyPost_ret (v := .tuple #[.agg (lT t A n cap).toArray, .slice none 0 0]) (results_two rfl _ _ Y _ _ _ _ rfl _ rfl (setRow_heap _ _ _ _ _ _ hy) Tryd.underlying31 rfl (by kernel_rfl)) rfl ⟨_, rfl, OutsR.nil _ _, (S.row 0 rfl (lT t A n cap)).old⟩
    | false =>
      obtain rfl : ({ t with de := true, xo := true, xv := 0 } : Th) = T := by rw [← HT.out, detT, if_neg hro, if_neg (by rw [hd]; decide)]
      obtain rfl : tcnR t n = R := by rw [← HR.out, detO, if_neg hro, if_neg (by rw [hd]; decide)]
      rw [hd] at c10
      clear hro hd
      go_upto_region 8 with fail
      have S1 : Hs w [(Y, 31, [.int .u64 0, .int .u64 0, .int .u32 0, .int .i64 0, .int .i64 0, .int .i64 0, .int .i64 0, .int .i64 0, .int .i64 0, .int .i64 0, .bool false, .bool false, .bool false, .int .i64 0, .bool false, .int .i64 0, .bool false, .int .i64 0, .slice none 0 0]), (X, 31, lT { t with de := true } A n cap)] (wb.setCell ⟨X, 10, none⟩ (.bool true)) := S.set 1 rfl 10 (.bool true)
      generalize wb.setCell ⟨X, 10, none⟩ (.bool true) = w2 at S1 ⊢
      clear S c0 c1 c10 c11 f10 f11 q
      have hth : World.there _ X 14 ([.bool true, .int .i64 0] : List Value).toArray.size := S1.there2 1 14 rfl (show 15 < 19 by decide)
      go_upto_region 9 with (with_reducible refine wpList_store_mid rfl 28 (.tmp 19) _ rfl X 14 ([.bool true, .int .i64 0] : List Value).toArray (by kernel_rfl) (by kernel_rfl) hth (by kernel_rfl) (by kernel_rfl) ?_)
      have S2 : Hs w [(Y, 31, [.int .u64 0, .int .u64 0, .int .u32 0, .int .i64 0, .int .i64 0, .int .i64 0, .int .i64 0, .int .i64 0, .int .i64 0, .int .i64 0, .bool false, .bool false, .bool false, .int .i64 0, .bool false, .int .i64 0, .bool false, .int .i64 0, .slice none 0 0]), (X, 31, lT { t with de := true, xo := true, xv := 0 } A n cap)] (w2.setCells X 14 ([.bool true, .int .i64 0] : List Value).toArray.toList) := (S1.set 1 rfl 14 (.bool true)).set 1 rfl 15 (.int .i64 0)
      generalize w2.setCells X 14 ([.bool true, .int .i64 0] : List Value).toArray.toList = w3 at S2 ⊢
      clear S1 hth
      have HTC := fun W => Lib.hid (rtcn_is { t with de := true, xo := true, xv := 0 } A n cap (Lib.hid (show ThB { t with de := true, xo := true, xv := 0 } from ht.out)) W)
      refine wp_region_held_drew (S := (fun w' => Bk w' X 31 (lT { t with de := true, xo := true, xv := 0 } A n cap))) (by kernel_rfl) (S2.1 1 _ _ _ rfl).1 (fun hHeld => ?_)
      have S3 := S2.drew
      refine wpAnyH_take (i := 0) (v := _) rfl (by kernel_rfl) (by kernel_rfl) (by kernel_rfl) (fun _ _ _ h => h) (Or.inl ⟨by kernel_rfl, fun w' hSw => exec_load_row 31 _ rfl X (by kernel_rfl) _ _ (0, 0) _ (hSw) Tryd.underlying31 rfl (by kernel_rfl)⟩) (by assumption) ?_
      try simp only [Act.put, List.setIfInBounds_toArray, List.set_cons_succ]
      refine wpAnyH_take (i := 1) (v := _) rfl (by kernel_rfl) (by kernel_rfl) (by kernel_rfl) (fun _ _ _ h => h) (Or.inl ⟨by kernel_rfl, fun w' hSw => exec_load_row 31 _ rfl X (by kernel_rfl) _ _ (0, 0) _ (hSw) Tryd.underlying31 rfl (by kernel_rfl)⟩) (by assumption) ?_
      try simp only [Act.put, List.setIfInBounds_toArray, List.set_cons_succ]
      refine wpAnyH_ready (rs := [2]) (by kernel_rfl) (by simp) ?_
      refine AllReadyH.cons rfl (fun K hK => ?_) AllReadyH.nil
      go_simp
      (with_reducible refine (HTC _).out.mono ?_); rintro e w4 ⟨v, rfl, hO, b4⟩
      have S4 := S3.below b4
      refine hK.out _ _ ((S4.1 1 _ _ _ rfl).1) (fun hHeld => ?_)
      clear hK K
      try simp only [Act.put, List.setIfInBounds_toArray, List.set_cons_succ]
      have hy := S4.bk 0 rfl
      refine wpAnyH_ready (rs := [3]) (by kernel_rfl) (by simp) ?_
      refine AllReadyH.cons rfl (fun K hK => ?_) AllReadyH.nil
      refine exec_if_store (by kernel_rfl) 31 (.tmp 2) (.tmp 20) rfl Y (lT { t with de := true, xo := true, xv := 0 } A n cap).toArray (by kernel_rfl) (by kernel_rfl) _ _ hy (by kernel_rfl) (by kernel_rfl) (by kernel_rfl) ?_
      have S5 := S4.row 0 rfl (lT { t with de := true, xo := true, xv := 0 } A n cap)
      refine hK.out _ _ (S5.1 1 _ _ _ rfl).1 (fun hHeld => ?_)
      clear hK K
      try simp only [Act.put, List.getElem_toArray, List.getElem_cons_succ, List.getElem_cons_zero, List.setIfInBounds_toArray, List.set_cons_succ, List.set_cons_zero]
      refine wpAnyH_take (i := 4) (v := ?_) rfl (by kernel_rfl) (by kernel_rfl) (by kernel_rfl) (fun _ _ _ h => h) (Or.inl ⟨by kernel_rfl, ?_⟩) (by assumption) ?_
      rotate_left
      · intro w' hSw; (try dsimp only at hSw); go_simp; with_reducible rfl
      try simp only [Act.put, List.setIfInBounds_toArray, List.set_cons_succ]
      try simp only [Act.put, List.getElem_toArray, List.getElem_cons_succ, List.getElem_cons_zero, List.setIfInBounds_toArray, List.set_cons_succ, List.set_cons_zero]
      refine wpAnyH_done (by kernel_rfl) ?_ _
      have hYw : Y < w3.drew.heap.size := S3.lt 0 rfl
      have hOF : OutsR (w4.setRow Y (lT { t with de := true, xo := true, xv := 0 } A n cap).toArray) w.heap.size v (tcnR t n) := (hO.heap (fun k hk => setRow_other w4 Y k _ (by omega))).mono S3.old.size
      have hyF := setRow_heap w4 Y _ (lT { t with de := true, xo := true, xv := 0 } A n cap).toArray _ _ hy
      go_wp2
      exact bodyPost_ret (v := .tuple #[.agg (lT { t with de := true, xo := true, xv := 0 } A n cap).toArray, v]) (results_two rfl _ _ Y _ _ _ _ rfl _ rfl hyF Tryd.underlying31 rfl (by kernel_rfl)) rfl ⟨v, rfl, hOF, S5.old⟩

end Go.Proofs.YtcamakkicmapcaaDoor

/- Tcn, Acked, Detect: contracts. -/
namespace Go.Proofs.YtcamakkicmapcaaDoor
set_option maxRecDepth 100000
open Go.ChangeShapes Go.WideShapes Go.ChangeAt Go.RowKit
set_option linter.unusedVariables false
set_option linter.unusedSimpArgs false

set_option maxHeartbeats 1000000 in
theorem stcn_is (t : Th) (A : Option Addr) (n cap : Nat) (ht : Hid (ThB t)) (w : World) (hd : Hd w) :
    Calls Tryd.prog 19 #[.agg (lT t A n cap).toArray] w (OutsEnd w (tcnR t n)) := by
  obtain ⟨R, hR⟩ : ∃ R, tcnR t n = R := ⟨_, rfl⟩
  rw [hR]
  have HR := Lib.hid hR
  clear hR
  have HD := Lib.hid hd
  clear hd
  have HOT : ∀ W, Hd W → Hid (Calls Tryd.prog 39 #[.agg (lT t A n cap).toArray, .int .i64 t.rp, .agg #[.bool true, .bool false, .bool false, .int .u64 0, .int .u32 0, .int .u64 0, .int .u16 0, .int .u16 0, .int .u16 0, .int .u16 0, .int .u16 0]] W (OutEnd W ⟨t.rp, t.ow % 281474976710656, tcnQ⟩)) := fun W h => Lib.hid (goes_is t A n cap t.rp tcnQ (by unfold BqIn BpIn tcnQ; decide) ht.out.1 W h)
  obtain ⟨q, hq⟩ : ∃ q, (decide (0 ≤ t.rp) && decide (t.rp < (n : Int))) = q := ⟨_, rfl⟩
  have HT := fun W => Lib.hid (there_is t A n cap t.rp q (Lib.hid hq) W)
  have HQ := Lib.hid hq
  clear hq
  obtain ⟨wb, hwb, S⟩ := hs_one w 31 (lT t A n cap)
  go_enter Tryd.func19, Tryd.ntmps19
  go_upto_region 1 with fail
  clear hwb
  obtain ⟨X, hX⟩ : ∃ X, w.heap.size = X := ⟨_, rfl⟩
  rw [hX] at S ⊢
  clear hX
  have hx := S.bk 0 rfl
  have c3 := S.cell 0 3 rfl rfl
  go_wp2_with (with_reducible refine wpList_load_row rfl 31 (.tmp 1) rfl X (by kernel_rfl) _ _ (0, 0) _ hx Tryd.underlying31 rfl (by kernel_rfl) ?_)
  (with_reducible refine (HT _).out.mono ?_); rintro e w1 ⟨rfl, b1⟩
  have S1 := S.below b1
  clear S hx c3 HT b1
  cases q with
  | false =>
    obtain rfl : [] = R := by
      rw [← HR.out, tcnR, if_neg]
      have h := HQ.out
      simp only [Bool.and_eq_false_iff, decide_eq_false_iff_not] at h
      omega
    go_wp2
    go_ret
    exact ⟨_, rfl, OutsR.nil _ _, S1.old⟩
  | true =>
    obtain rfl : [⟨t.rp, t.ow % 281474976710656, tcnQ⟩] = R := by
      rw [← HR.out, tcnR, if_pos]
      have h := HQ.out
      simp only [Bool.and_eq_true, decide_eq_true_eq] at h
      exact h
    have HO := HOT w1 (HD.out.below S1.old (Nat.le_refl _))
    have hx := S1.bk 0 rfl
    have c3 := S1.cell 0 3 rfl rfl
    clear HOT HD
    go_wp2_with (with_reducible refine wpList_load_row rfl 31 (.tmp 1) rfl X (by kernel_rfl) _ _ (0, 0) _ hx Tryd.underlying31 rfl (by kernel_rfl) ?_)
    (with_reducible refine HO.out.mono ?_); rintro e w2 ⟨g, c, rfl, hoc, b2⟩
    have hoc2 : OcAt w2 w.heap.size ⟨⟨t.rp, t.ow % 281474976710656, tcnQ⟩, g, c⟩ := ⟨Nat.le_trans S1.old.size hoc.1, hoc.2⟩
    have S2 := S1.below b2
    have hO := outs_one (w := w) S2.old.size hoc2
    have B3 := S2.old.trans ((new_below w2 (.cells (lO ⟨⟨t.rp, t.ow % 281474976710656, tcnQ⟩, g, c⟩).toArray 57)).mono S2.old.size)
    obtain ⟨oc, hoc0⟩ : ∃ q : Oc, (⟨⟨t.rp, t.ow % 281474976710656, tcnQ⟩, g, c⟩ : Oc) = q := ⟨_, rfl⟩
    rw [hoc0] at hO B3 ⊢
    have hlen := lO_len oc
    have hfold : List.foldl (fun (cs : Array Value) (x : Value × Nat) => cs.setIfInBounds x.snd x.fst) #[.int .i64 0, .int .u64 0, .int .u64 0, .int .u16 0, .slice none 0 0] (lO oc).zipIdx = (lO oc).toArray := rfl
    have HO := Lib.hid hO
    have HB3 := Lib.hid B3
    have HQ := Lib.hid hoc0
    clear hO B3 hoc hoc2 S1 S2 b2 hx c3 hoc0
    go_wp2
    go_ret
    refine ⟨_, rfl, ?_, HB3.out⟩
    have := HO.out
    rw [← HQ.out] at this ⊢
    exact this

set_option maxHeartbeats 1000000 in
theorem acked_is (t : Th) (A : Option Addr) (n cap : Nat) (L : List Po) (hL : Hid (L.length = n)) (hf : n ≤ 200) (hc : Hid (A = none → cap = 0)) (w : World) (hp : Hid (PoAt w A w.heap.size L)) :
    Calls Tryd.prog 18 #[.agg (lT t A n cap).toArray] w (TOut w { t with de := false, xo := false, xv := 0 } n L) := by
  obtain ⟨wb, hwb, S⟩ := hs_two w 31 31 (lT t A n cap) [.int .u64 0, .int .u64 0, .int .u32 0, .int .i64 0, .int .i64 0, .int .i64 0, .int .i64 0, .int .i64 0, .int .i64 0, .int .i64 0, .bool false, .bool false, .bool false, .int .i64 0, .bool false, .int .i64 0, .bool false, .int .i64 0, .slice none 0 0]
  go_enter Tryd.func18, Tryd.ntmps18
  go_upto_region 1 with fail
  clear hwb
  obtain ⟨X, hX⟩ : ∃ X, w.heap.size = X := ⟨_, rfl⟩
  rw [hX] at S
  obtain ⟨Y, hY⟩ : ∃ Y, X + 1 = Y := ⟨_, rfl⟩
  rw [hY] at S
  rw [hX]
  rw [hY]
  clear hX hY
  have hp1 := Lib.hid ((hp.out.below S.old (Nat.le_refl _)).wide S.old.size)
  have HC := Lib.hid (tcopy_is t A n cap L hL hf hc wb hp1)
  have hx := S.bk 1 rfl
  go_wp2_with (with_reducible refine wpList_load_row rfl 31 (.tmp 1) rfl X (by kernel_rfl) _ _ (0, 0) _ hx Tryd.underlying31 rfl (by kernel_rfl) ?_)
  (with_reducible refine HC.out.mono ?_); rintro e w1 ⟨D, cap', rfl, hz, k1⟩
  have S1 := TS.take S k1
  have HZ := Lib.hid hz
  clear S hx HC hp1 k1 hz
  have hx := S1.hs.bk 1 rfl
  go_upto_region 2 with (refine wpList_store_row rfl 31 _ _ rfl X _ rfl rfl _ _ hx (by kernel_rfl) (by kernel_rfl) (by kernel_rfl) ?_)
  have S2 : TS w [(Y, 31, [.int .u64 0, .int .u64 0, .int .u32 0, .int .i64 0, .int .i64 0, .int .i64 0, .int .i64 0, .int .i64 0, .int .i64 0, .int .i64 0, .bool false, .bool false, .bool false, .int .i64 0, .bool false, .int .i64 0, .bool false, .int .i64 0, .slice none 0 0]), (X, 31, lT t D n cap')] D L _ := S1.row 1 rfl (lT t D n cap')
  generalize w1.setRow X (lT t D n cap').toArray = w2 at S2 ⊢
  clear S1 hx
  have ca := S2.hs.cell 1 10 rfl rfl
  have fa := S2.hs.thaw 1 10 rfl
  go_upto_region 3 with fail
  have S3 : TS w [(Y, 31, [.int .u64 0, .int .u64 0, .int .u32 0, .int .i64 0, .int .i64 0, .int .i64 0, .int .i64 0, .int .i64 0, .int .i64 0, .int .i64 0, .bool false, .bool false, .bool false, .int .i64 0, .bool false, .int .i64 0, .bool false, .int .i64 0, .slice none 0 0]), (X, 31, lT { t with de := false } D n cap')] D L (w2.setCell ⟨X, 10, none⟩ (.bool false)) := S2.set 1 rfl 10 (.bool false)
  generalize w2.setCell ⟨X, 10, none⟩ (.bool false) = w3 at S3 ⊢
  clear S2 ca fa
  go_wp2_with fail
  (with_reducible refine (stop_is _).mono ?_); rintro e w4 ⟨rfl, b4⟩
  have S4 := S3.below b4
  clear S3 b4
  have ca := S4.hs.cell 1 14 rfl rfl
  have cb := S4.hs.cell 1 15 rfl rfl
  have fa := S4.hs.thaw 1 14 rfl
  have fb := S4.hs.thaw 1 15 rfl
  go_upto_region 4 with fail
  have S5 : TS w [(Y, 31, [.int .u64 0, .int .u64 0, .int .u32 0, .int .i64 0, .int .i64 0, .int .i64 0, .int .i64 0, .int .i64 0, .int .i64 0, .int .i64 0, .bool false, .bool false, .bool false, .int .i64 0, .bool false, .int .i64 0, .bool false, .int .i64 0, .slice none 0 0]), (X, 31, lT { t with de := false, xo := false, xv := 0 } D n cap')] D L ((w4.setCell ⟨X, 14, none⟩ (.bool false)).setCell ⟨X, 15, none⟩ (.int .i64 0)) := (S4.set 1 rfl 14 (.bool false)).set 1 rfl 15 (.int .i64 0)
  generalize (w4.setCell ⟨X, 14, none⟩ (.bool false)).setCell ⟨X, 15, none⟩ (.int .i64 0) = w5 at S5 ⊢
  clear S4 ca cb fa fb
  have hx := S5.hs.bk 1 rfl
  have hy := S5.hs.bk 0 rfl
  go_wp2_with (first | (with_reducible refine wpList_load_row rfl 31 (.tmp 1) rfl X (by kernel_rfl) _ _ (0, 0) _ hx Tryd.underlying31 rfl (by kernel_rfl) ?_) | (refine wpList_store_row rfl 31 _ _ rfl Y _ rfl rfl _ _ hy (by kernel_rfl) (by kernel_rfl) (by kernel_rfl) ?_))
  exact bodyPost_ret (v := .agg (lT { t with de := false, xo := false, xv := 0 } D n cap').toArray) (results_cell_row rfl _ _ Y _ _ _ _ rfl (setRow_heap _ _ _ _ _ _ hy) Tryd.underlying31 rfl (by kernel_rfl)) rfl ⟨D, cap', rfl, HZ.out, (S5.row 0 rfl (lT { t with de := false, xo := false, xv := 0 } D n cap')).nobox⟩

set_option maxHeartbeats 2000000 in
theorem sdetect_is (t : Th) (A : Option Addr) (n cap : Nat) (L : List Po) (hL : Hid (L.length = n)) (hf : n ≤ 200) (ht : Hid (ThB t)) (hc : Hid (A = none → cap = 0)) (w : World) (hd : Hd w) (hp : Hid (PoAt w A w.heap.size L)) :
    Calls Tryd.prog 16 #[.agg (lT t A n cap).toArray] w (ConfEnd w (detT t) n (L, detO t n)) := by
  unfold ConfEnd
  obtain ⟨T, hT⟩ : ∃ T, detT t = T := ⟨_, rfl⟩
  obtain ⟨R, hR⟩ : ∃ R, detO t n = R := ⟨_, rfl⟩
  rw [hT, hR]
  have HT := Lib.hid hT
  have HR := Lib.hid hR
  clear hT hR
  have HD := Lib.hid hd
  clear hd
  obtain ⟨wb, hwb, S⟩ := hs_two w 31 31 (lT t A n cap) [.int .u64 0, .int .u64 0, .int .u32 0, .int .i64 0, .int .i64 0, .int .i64 0, .int .i64 0, .int .i64 0, .int .i64 0, .int .i64 0, .bool false, .bool false, .bool false, .int .i64 0, .bool false, .int .i64 0, .bool false, .int .i64 0, .slice none 0 0]
  go_enter Tryd.func16, Tryd.ntmps16
  go_upto_region 1 with fail
  clear hwb
  obtain ⟨X, hX⟩ : ∃ X, w.heap.size = X := ⟨_, rfl⟩
  rw [hX] at S
  obtain ⟨Y, hY⟩ : ∃ Y, X + 1 = Y := ⟨_, rfl⟩
  rw [hY] at S
  rw [hX]
  rw [hY]
  clear hX hY
  have hp1 := Lib.hid ((hp.out.below S.old (Nat.le_refl _)).wide S.old.size)
  have HC := Lib.hid (tcopy_is t A n cap L hL hf hc wb hp1)
  have hx := S.bk 1 rfl
  go_wp2_with (with_reducible refine wpList_load_row rfl 31 (.tmp 1) rfl X (by kernel_rfl) _ _ (0, 0) _ hx Tryd.underlying31 rfl (by kernel_rfl) ?_)
  (with_reducible refine HC.out.mono ?_); rintro e w1 ⟨D, cap', rfl, hz, k1⟩
  have S1 := TS.take S k1
  have HZ := Lib.hid hz
  clear S hx HC hp1 k1 hz
  have hx := S1.hs.bk 1 rfl
  go_upto_region 2 with (refine wpList_store_row rfl 31 _ _ rfl X _ rfl rfl _ _ hx (by kernel_rfl) (by kernel_rfl) (by kernel_rfl) ?_)
  have S2 : TS w [(Y, 31, [.int .u64 0, .int .u64 0, .int .u32 0, .int .i64 0, .int .i64 0, .int .i64 0, .int .i64 0, .int .i64 0, .int .i64 0, .int .i64 0, .bool false, .bool false, .bool false, .int .i64 0, .bool false, .int .i64 0, .bool false, .int .i64 0, .slice none 0 0]), (X, 31, lT t D n cap')] D L _ := S1.row 1 rfl (lT t D n cap')
  generalize w1.setRow X (lT t D n cap').toArray = w2 at S2 ⊢
  clear S1 hx
  obtain ⟨q, hq⟩ : ∃ q, decide (t.ro = t.ow) = q := ⟨_, rfl⟩
  have HI := fun W => Lib.hid (isroot_is t D n cap' q (Lib.hid hq) W)
  have HQ := Lib.hid hq
  clear hq
  have hx := S2.hs.bk 1 rfl
  go_wp2_with (with_reducible refine wpList_load_row rfl 31 (.tmp 1) rfl X (by kernel_rfl) _ _ (0, 0) _ hx Tryd.underlying31 rfl (by kernel_rfl) ?_)
  (with_reducible refine (HI _).out.mono ?_); rintro e w3 ⟨rfl, b3⟩
  have S3 := S2.below b3
  clear S2 hx HI b3
  cases q with
  | true =>
    have hro := of_decide_eq_true HQ.out
    obtain rfl : ({ t with de := true, ch := true, zo := true, zv := 0 } : Th) = T := by rw [← HT.out, detT, if_pos hro]
    obtain rfl : [] = R := by rw [← HR.out, detO, if_pos hro]
    clear hro
    have ca := S3.hs.cell 1 10 rfl rfl
    have cb := S3.hs.cell 1 11 rfl rfl
    have fa := S3.hs.thaw 1 10 rfl
    have fb := S3.hs.thaw 1 11 rfl
    go_upto_region 4 with fail
    have S4 : TS w [(Y, 31, [.int .u64 0, .int .u64 0, .int .u32 0, .int .i64 0, .int .i64 0, .int .i64 0, .int .i64 0, .int .i64 0, .int .i64 0, .int .i64 0, .bool false, .bool false, .bool false, .int .i64 0, .bool false, .int .i64 0, .bool false, .int .i64 0, .slice none 0 0]), (X, 31, lT { t with de := true, ch := true } D n cap')] D L ((w3.setCell ⟨X, 10, none⟩ (.bool true)).setCell ⟨X, 11, none⟩ (.bool true)) := (S3.set 1 rfl 10 (.bool true)).set 1 rfl 11 (.bool true)
    generalize (w3.setCell ⟨X, 10, none⟩ (.bool true)).setCell ⟨X, 11, none⟩ (.bool true) = w4 at S4 ⊢
    clear S3 ca cb fa fb
    go_wp2_with fail
    (with_reducible refine (start0 _).mono ?_); rintro e w5 ⟨rfl, b5⟩
    have S5 := S4.below b5
    clear S4 b5
    have ca := S5.hs.cell 1 16 rfl rfl
    have cb := S5.hs.cell 1 17 rfl rfl
    have fa := S5.hs.thaw 1 16 rfl
    have fb := S5.hs.thaw 1 17 rfl
    go_upto_region 9 with fail
    have S6 : TS w [(Y, 31, [.int .u64 0, .int .u64 0, .int .u32 0, .int .i64 0, .int .i64 0, .int .i64 0, .int .i64 0, .int .i64 0, .int .i64 0, .int .i64 0, .bool false, .bool false, .bool false, .int .i64 0, .bool false, .int .i64 0, .bool false, .int .i64 0, .slice none 0 0]), (X, 31, lT { t with de := true, ch := true, zo := true, zv := 0 } D n cap')] D L ((w5.setCell ⟨X, 16, none⟩ (.bool true)).setCell ⟨X, 17, none⟩ (.int .i64 0)) := (S5.set 1 rfl 16 (.bool true)).set 1 rfl 17 (.int .i64 0)
    generalize (w5.setCell ⟨X, 16, none⟩ (.bool true)).setCell ⟨X, 17, none⟩ (.int .i64 0) = w6 at S6 ⊢
    clear S5 ca cb fa fb
    have hx := S6.hs.bk 1 rfl
    have hy := S6.hs.bk 0 rfl
    go_wp2_with (first | (with_reducible refine wpList_load_row rfl 31 (.tmp 1) rfl X (by kernel_rfl) _ _ (0, 0) _ hx Tryd.underlying31 rfl (by kernel_rfl) ?_) | (refine wpList_store_row rfl 31 _ _ rfl Y _ rfl rfl _ _ hy (by kernel_rfl) (by kernel_rfl) (by kernel_rfl) ?_))
    exact bodyPost_ret (v := .tuple #[.agg (lT { t with de := true, ch := true, zo := true, zv := 0 } D n cap').toArray, .slice none 0 0]) (results_two rfl _ _ Y _ _ _ _ rfl _ rfl (setRow_heap _ _ _ _ _ _ hy) Tryd.underlying31 rfl (by kernel_rfl)) rfl ⟨D, cap', _, rfl, HZ.out, (S6.row 0 rfl (lT { t with de := true, ch := true, zo := true, zv := 0 } D n cap')).nobox, OutsR.nil _ _⟩
  | false =>
    have hro : ¬ t.ro = t.ow := of_decide_eq_false HQ.out
    obtain ⟨d, hd⟩ : ∃ d, t.de = d := ⟨_, rfl⟩
    have c10 := S3.hs.cell 1 10 rfl rfl
    cases d with
    | true =>
      obtain rfl : t = T := by rw [← HT.out, detT, if_neg hro, if_pos hd]
      obtain rfl : [] = R := by rw [← HR.out, detO, if_neg hro, if_pos hd]
      rw [hd] at c10
      clear hro hd
      have hx := S3.hs.bk 1 rfl
      have hy := S3.hs.bk 0 rfl
      go_wp2_with (first | (with_reducible refine wpList_load_row rfl 31 (.tmp 1) rfl X (by kernel_rfl) _ _ (0, 0) _ hx Tryd.underlying31 rfl (by kernel_rfl) ?_) | (refine wpList_store_row rfl 31 _ _ rfl Y _ rfl rfl _ _ hy (by kernel_rfl) (by kernel_rfl) (by kernel_rfl) ?_))
      exact bodyPost_ret (v := .tuple #[.agg (lT t D n cap').toArray, .slice none 0 0]) (results_two rfl _ _ Y _ _ _ _ rfl _ rfl (setRow_heap _ _ _ _ _ _ hy) Tryd.underlying31 rfl (by kernel_rfl)) rfl ⟨D, cap', _, rfl, HZ.out, (S3.row 0 rfl (lT t D n cap')).nobox, OutsR.nil _ _⟩
    | false =>
      obtain rfl : ({ t with de := true, xo := true, xv := 0 } : Th) = T := by rw [← HT.out, detT, if_neg hro, if_neg (by rw [hd]; decide)]
      obtain rfl : tcnR t n = R := by rw [← HR.out, detO, if_neg hro, if_neg (by rw [hd]; decide)]
      rw [hd] at c10
      clear hro hd
      go_upto_region 6 with fail
      clear c10
      have ca := S3.hs.cell 1 10 rfl rfl
      have fa := S3.hs.thaw 1 10 rfl
      go_upto_region 7 with fail
      have S4 : TS w [(Y, 31, [.int .u64 0, .int .u64 0, .int .u32 0, .int .i64 0, .int .i64 0, .int .i64 0, .int .i64 0, .int .i64 0, .int .i64 0, .int .i64 0, .bool false, .bool false, .bool false, .int .i64 0, .bool false, .int .i64 0, .bool false, .int .i64 0, .slice none 0 0]), (X, 31, lT { t with de := true } D n cap')] D L (w3.setCell ⟨X, 10, none⟩ (.bool true)) := S3.set 1 rfl 10 (.bool true)
      generalize w3.setCell ⟨X, 10, none⟩ (.bool true) = w4 at S4 ⊢
      clear S3 ca fa
      go_wp2_with fail
      (with_reducible refine (start0 _).mono ?_); rintro e w5 ⟨rfl, b5⟩
      have S5 := S4.below b5
      clear S4 b5
      have ca := S5.hs.cell 1 14 rfl rfl
      have cb := S5.hs.cell 1 15 rfl rfl
      have fa := S5.hs.thaw 1 14 rfl
      have fb := S5.hs.thaw 1 15 rfl
      go_upto_region 8 with fail
      have S6 : TS w [(Y, 31, [.int .u64 0, .int .u64 0, .int .u32 0, .int .i64 0, .int .i64 0, .int .i64 0, .int .i64 0, .int .i64 0, .int .i64 0, .int .i64 0, .bool false, .bool false, .bool false, .int .i64 0, .bool false, .int .i64 0, .bool false, .int .i64 0, .slice none 0 0]), (X, 31, lT { t with de := true, xo := true, xv := 0 } D n cap')] D L ((w5.setCell ⟨X, 14, none⟩ (.bool true)).setCell ⟨X, 15, none⟩ (.int .i64 0)) := (S5.set 1 rfl 14 (.bool true)).set 1 rfl 15 (.int .i64 0)
      generalize (w5.setCell ⟨X, 14, none⟩ (.bool true)).setCell ⟨X, 15, none⟩ (.int .i64 0) = w6 at S6 ⊢
      clear S5 ca cb fa fb
      have HTC := fun W h => Lib.hid (stcn_is { t with de := true, xo := true, xv := 0 } D n cap' (Lib.hid (show ThB { t with de := true, xo := true, xv := 0 } from ht.out)) W h)
      refine wp_region_held_drew (S := (fun w' => Bk w' X 31 (lT { t with de := true, xo := true, xv := 0 } D n cap'))) (by kernel_rfl) ((S6.hs.1 1 _ _ _ rfl).1) (fun hHeld => ?_)
      have S7 := S6.below (wy := World.drew _) ((Below.refl _ _).drew)
      obtain ⟨v7, hv7⟩ : ∃ v, w6.drew = v := ⟨_, rfl⟩
      rw [hv7] at S7 hHeld ⊢
      clear hv7 S6
      refine wpAnyH_take (i := 0) (v := _) rfl (by kernel_rfl) (by kernel_rfl) (by kernel_rfl) (fun _ _ _ h => h) (Or.inl ⟨by kernel_rfl, fun w' hSw => exec_load_row 31 _ rfl X (by kernel_rfl) _ _ (0, 0) _ (hSw) Tryd.underlying31 rfl (by kernel_rfl)⟩) (by assumption) ?_
      try simp only [Act.put, List.getElem_toArray, List.getElem_cons_succ, List.getElem_cons_zero, List.setIfInBounds_toArray, List.set_cons_succ, List.set_cons_zero]
      refine wpAnyH_take (i := 1) (v := _) rfl (by kernel_rfl) (by kernel_rfl) (by kernel_rfl) (fun _ _ _ h => h) (Or.inl ⟨by kernel_rfl, fun w' hSw => exec_load_row 31 _ rfl X (by kernel_rfl) _ _ (0, 0) _ (hSw) Tryd.underlying31 rfl (by kernel_rfl)⟩) (by assumption) ?_
      try simp only [Act.put, List.getElem_toArray, List.getElem_cons_succ, List.getElem_cons_zero, List.setIfInBounds_toArray, List.set_cons_succ, List.set_cons_zero]
      refine wpAnyH_ready (rs := [2]) (by kernel_rfl) (by simp) ?_
      refine AllReadyH.cons rfl (fun K hK => ?_) AllReadyH.nil
      go_simp
      (with_reducible refine (HTC _ (HD.out.below S7.old (Nat.le_refl _))).out.mono ?_); rintro e w8 ⟨v, rfl, hO, b8⟩
      have S8 := S7.below b8
      refine hK.out _ _ ((S8.hs.1 1 _ _ _ rfl).1) (fun hHeld => ?_)
      clear hK K
      try simp only [Act.put, List.getElem_toArray, List.getElem_cons_succ, List.getElem_cons_zero, List.setIfInBounds_toArray, List.set_cons_succ, List.set_cons_zero]
      have hy := S8.hs.bk 0 rfl
      refine wpAnyH_ready (rs := [3]) (by kernel_rfl) (by simp) ?_
      refine AllReadyH.cons rfl (fun K hK => ?_) AllReadyH.nil
      refine exec_if_store (by kernel_rfl) 31 (.tmp 2) (.tmp 20) rfl Y (lT { t with de := true, xo := true, xv := 0 } D n cap').toArray (by kernel_rfl) (by kernel_rfl) _ _ hy (by kernel_rfl) (by kernel_rfl) (by kernel_rfl) ?_
      have S9 := S8.row 0 rfl (lT { t with de := true, xo := true, xv := 0 } D n cap')
      refine hK.out _ _ ((S9.hs.1 1 _ _ _ rfl).1) (fun hHeld => ?_)
      clear hK K
      try simp only [Act.put, List.getElem_toArray, List.getElem_cons_succ, List.getElem_cons_zero, List.setIfInBounds_toArray, List.set_cons_succ, List.set_cons_zero]
      refine wpAnyH_take (i := 4) (v := ?_) rfl (by kernel_rfl) (by kernel_rfl) (by kernel_rfl) (fun _ _ _ h => h) (Or.inl ⟨by kernel_rfl, ?_⟩) (by assumption) ?_
      rotate_left
      · intro w' hSw; (try dsimp only at hSw); go_simp; with_reducible rfl
      try simp only [Act.put, List.getElem_toArray, List.getElem_cons_succ, List.getElem_cons_zero, List.setIfInBounds_toArray, List.set_cons_succ, List.set_cons_zero]
      refine wpAnyH_done (by kernel_rfl) ?_ _
      have hYw : Y < v7.heap.size := S7.hs.lt 0 rfl
      have hOF := (hO.heap (w' := w8.setRow Y (lT { t with de := true, xo := true, xv := 0 } D n cap').toArray) (fun k hk => setRow_other w8 Y k _ (by omega))).mono S7.old.size
      have hyF := setRow_heap w8 Y _ (lT { t with de := true, xo := true, xv := 0 } D n cap').toArray _ _ hy
      go_wp2
      exact bodyPost_ret (v := .tuple #[.agg (lT { t with de := true, xo := true, xv := 0 } D n cap').toArray, v]) (results_two rfl _ _ Y _ _ _ _ rfl _ rfl hyF Tryd.underlying31 rfl (by kernel_rfl)) rfl ⟨D, cap', v, rfl, HZ.out, S9.nobox, hOF⟩

end Go.Proofs.YtcamakkicmapcaaDoor
