/- Several texts in one, one behind the other: SendOncePure, SendRefOut, SendRefTcn, SendRefDet, TreeTwice, HeardPure, HeardTwice, SendAppend, HeardAppend, HeardKeep, HeardBd. -/
import Derived.Test.YtnmnihlhcokjpaaGreatDoorPk08
import Derived.Test.YtnmnihlhcokjpaaGreatDoorPk04
import Derived.Laws.AppendOwnNone
import Derived.Test.YtnmnihlhcokjpaaGreatDoorPk06
import Derived.Laws.OwnMore
import Derived.Test.YtnmnihlhcokjpaaGreatDoorPk05

/- All designated ports tell: port by port; what goes out, in the order of the ports; told again at once. No program. -/
namespace Go.Proofs.YtnmnihlhcokjpaaGreatDoor
set_option maxRecDepth 100000
open Go.ChangeShapes Go.WideShapes Go.ChangeAt Go.RowKit
set_option linter.unusedVariables false

/-- What becomes of a port, where what is told is of the age a. -/
def stepP (t : Th) (a : Int) (p : Po) : Po := if tellsB t p = true then (if p.ho = true then owingP p else if t.n1 ≤ a then p else sentP p) else p
theorem stepP_av (t : Th) (a : Int) (p : Po) : (stepP t a p).av = p.av := by
  unfold stepP
  split
  · split
    · rfl
    · split <;> rfl
  · rfl
theorem toldI_av {t : Th} {L L' : List Po} (h : ∀ j : Nat, (L'[j]?).map Po.av = (L[j]?).map Po.av) : toldI t L' = toldI t L := by
  unfold toldI
  split
  · rfl
  · split
    · have e := h t.rp.toNat
      cases h1 : L[t.rp.toNat]? with
      | none => cases h2 : L'[t.rp.toNat]? with
        | none => rfl
        | some y => rw [h1, h2] at e; cases e
      | some x => cases h2 : L'[t.rp.toNat]? with
        | none => rw [h1, h2] at e; cases e
        | some y =>
          rw [h1, h2] at e
          have e' : y.av = x.av := Option.some.inj e
          show olderI y.av = olderI x.av
          rw [e']
    · rfl
theorem mixL_av (t : Th) (a : Int) (k : Nat) (L : List Po) (j : Nat) : ((mixL (fun _ p => stepP t a p) k L)[j]?).map Po.av = (L[j]?).map Po.av := by
  rw [mixL_get]
  cases L[j]? with
  | none => rfl
  | some x =>
    show some _ = some _
    dsimp only
    split
    · rw [stepP_av]
    · rfl
theorem allR_fst (t : Th) (L : List Po) : ∀ k, (allR t L k).1 = mixL (fun _ p => stepP t (toldI t L) p) k L
  | 0 => (mixL_zero _ _).symm
  | k + 1 => by
    have ih := allR_fst t L k
    show (allStep t (allR t L k) k).1 = _
    cases hk : L[k]? with
    | none =>
      have e : (allR t L k).1[k]? = none := by rw [ih, mixL_get, hk]; rfl
      unfold allStep
      rw [e]
      show (allR t L k).1 = _
      rw [ih]
      apply List.ext_getElem?
      intro j
      rw [mixL_get, mixL_get]
      by_cases hj : j = k
      · subst hj; rw [hk]; rfl
      · by_cases hl : j < k
        · simp only [hl, show j < k + 1 by omega]
        · simp only [hl, show ¬ j < k + 1 by omega]
    | some p =>
      have e : (allR t L k).1[k]? = some p := by rw [ih]; exact mixL_at hk
      cases ht : tellsB t p with
      | false =>
        rw [allStep_no e ht, ih]
        exact mixL_same hk (by unfold stepP; rw [ht]; rfl)
      | true =>
        rw [allStep_yes e ht]
        show (confR t (allR t L k).1 k).1 = _
        have ha : toldI t (allR t L k).1 = toldI t L := toldI_av (by rw [ih]; exact mixL_av t _ k L)
        rw [confR_at e, ha]
        by_cases h1 : p.ho = true
        · have hf : stepP t (toldI t L) p = owingP p := by unfold stepP; rw [if_pos ht, if_pos h1]
          rw [if_pos h1, ← mixL_set hk, ih, hf]
        · rw [if_neg h1]
          by_cases h2 : t.n1 ≤ toldI t L
          · have hf : stepP t (toldI t L) p = p := by unfold stepP; rw [if_pos ht, if_neg h1, if_pos h2]
            rw [if_pos h2, ih]
            exact mixL_same hk hf
          · have hf : stepP t (toldI t L) p = sentP p := by unfold stepP; rw [if_pos ht, if_neg h1, if_neg h2]
            rw [if_neg h2, ← mixL_set hk, ih, hf]
end Go.Proofs.YtnmnihlhcokjpaaGreatDoor

/- The document's Out: contract. -/
namespace Go.Proofs.YtnmnihlhcokjpaaGreatDoor
set_option maxRecDepth 100000
open Go.ChangeShapes Go.WideShapes Go.ChangeAt Go.RowKit
set_option linter.unusedVariables false

set_option maxHeartbeats 1000000 in
theorem rout_is (t : Th) (A : Option Addr) (n cap : Nat) (i : Int) (x : Bq) (hin : BqIn x) (ht : 0 ≤ t.ow ∧ t.ow ≤ 18446744073709551615) (w : World) :
    Calls Tryz.prog 58 #[.agg (lT t A n cap).toArray, .int .i64 i, .agg (lB x).toArray] w (OutEnd w ⟨i, t.ow % 281474976710656, x⟩) := by
  have HP := fun W => Lib.hid (bq_refput x hin W)
  obtain ⟨h0, h1⟩ := ht
  obtain ⟨wb, hwb, S⟩ := hs_three w 31 46 83 (lT t A n cap) (lB x) [.int .i64 0, .int .u64 0, .int .u64 0, .int .u16 0, .slice none 0 0]
  go_enter Tryz.func58, Tryz.ntmps58
  go_upto_region 1 with fail
  clear hwb hin
  obtain ⟨X, hX⟩ : ∃ X, w.heap.size = X := ⟨_, rfl⟩
  rw [hX] at S ⊢
  obtain ⟨Y, hY⟩ : ∃ Y, X + 1 = Y := ⟨_, rfl⟩
  rw [hY] at S ⊢
  obtain ⟨Z, hZ⟩ : ∃ Z, Y + 1 = Z := ⟨_, rfl⟩
  rw [hZ] at S ⊢
  have HX := Lib.hid hX
  clear hX hY hZ
  have hXG : w.heap.size ≤ wb.heap.size := S.old.size
  have S1 := S.al rfl 5 [.int .u8 66, .int .u8 66, .int .u8 3]
  obtain ⟨G, hG⟩ : ∃ G, wb.heap.size = G := ⟨_, rfl⟩
  have hlow : ∀ y ∈ ([(Z, 83, [.int .i64 0, .int .u64 0, .int .u64 0, .int .u16 0, .slice none 0 0]), (Y, 46, lB x), (X, 31, lT t A n cap)] : List (Nat × TypeId × List Value)), y.1 < G := by
    rw [← hG]
    exact List.forall_mem_cons.2 ⟨S.lt 0 rfl, List.forall_mem_cons.2 ⟨S.lt 1 rfl, List.forall_mem_cons.2 ⟨S.lt 2 rfl, fun y hy => by cases hy⟩⟩⟩
  rw [hG] at S1 hXG
  have HLOW := Lib.hid hlow
  have HXG := Lib.hid hXG
  clear hlow hXG
  have hy := S1.bk 2 rfl
  go_wp2_with (with_reducible refine wpList_load_row rfl 46 (.tmp 5) rfl Y (by kernel_rfl) _ _ (0, 0) _ hy Tryz.underlying46 rfl (by kernel_rfl) ?_)
  (with_reducible refine (HP _).out.mono ?_); rintro e w2 ⟨g, c, rfl, hg, hrow, hl, b2⟩
  have S2 := S1.below b2
  have hk : Bk w2 G 5 [.int .u8 66, .int .u8 66, .int .u8 3] := (S2.1 0 _ _ _ rfl).1
  have hown : w2.ownsRow G 5 1 (.slice (some ⟨G, 0, none⟩) 3 3) 3 (([66, 66, 3] : List UInt8).map bc) := ⟨rfl, .inr ⟨G, 3, _, rfl, Nat.le_refl _, hk, Nat.le_refl _, by decide, rfl, rfl⟩⟩
  have hle := bqN_le x
  have hGs : G ≤ w2.heap.size := Nat.le_of_lt (Bk.lt hk)
  go_upto_region 2 with (at_builtin; refine append_bytes _ rfl (.tmp 8) (.tmp 10) rfl G G 3 3 [66, 66, 3] rfl hown (some ⟨g, 0, none⟩) (bqN x) c 0 w2.heap.size (bqB x) rfl (hrow.rb 0 _ (Nat.zero_le _) hrow.lt) (Lib.hid hl) (fun e => by cases e) (by omega) hGs G w2 (Below.refl _ _) (Nat.le_refl _) ?_; intro g7 cap7 w7 hown7 hb7 hbase7)
  have S7 := S2.tail.under hb7 HLOW.out HXG.out
  obtain ⟨hrow7, hg7, -⟩ := Row.of_own hown7
  obtain ⟨M, hM⟩ : ∃ M, 3 + bqN x = M := ⟨_, rfl⟩
  rw [hM]
  have HR7 := Lib.hid hrow7
  have HG7 := Lib.hid hg7
  have hMu : M ≤ 1000 := by omega
  have HM := Lib.hid hM
  clear hown7 hb7 hbase7 hrow7 hg7 S1 S2 hy hrow hl hg b2 hk hown hGs hM hle S HP
  have hwk : IntKind.u16.wrap (M : Int) = (M : Int) := by rw [show IntKind.u16.wrap (M : Int) = (M : Int) % 65536 by simp [IntKind.wrap, IntKind.bits, IntKind.signed]]; omega
  have x0 := S7.cell 2 0 rfl rfl
  have hz := S7.bk 0 rfl
  go_wp2_with (refine wpList_store_row rfl 83 _ _ rfl Z _ rfl rfl _ _ hz (by kernel_rfl) (by kernel_rfl) (by kernel_rfl) ?_)
  have hZG : Z < G := HLOW.out _ (List.mem_cons_self ..)
  have hne : g7 ≠ Z := by have := HG7.out; omega
  have S9 := S7.row 0 rfl (lO ⟨⟨i, t.ow % 281474976710656, x⟩, g7, cap7⟩)
  have e2 : (lO ⟨⟨i, t.ow % 281474976710656, x⟩, g7, cap7⟩).toArray = #[.int .i64 i, .int .u64 1652522221568, .int .u64 (t.ow % 281474976710656), .int .u16 (M : Int), .slice (some ⟨g7, 0, none⟩) M cap7] := by rw [← HM.out]; rfl
  rw [← e2]
  refine bodyPost_ret (v := .agg (lO ⟨⟨i, t.ow % 281474976710656, x⟩, g7, cap7⟩).toArray) (results_cell_row rfl _ _ Z _ _ _ _ rfl (setRow_heap w7 Z _ (lO ⟨⟨i, t.ow % 281474976710656, x⟩, g7, cap7⟩).toArray _ _ hz) Tryz.underlying83 rfl (by kernel_rfl)) rfl ⟨g7, cap7, rfl, ⟨Nat.le_trans HXG.out HG7.out, ?_⟩, S9.old⟩
  · obtain ⟨sp, q1, q2, q3⟩ := HR7.out
    refine ⟨sp, q1, q2, ?_⟩
    exact (setRow_other w7 Z g7 _ hne).trans q3

end Go.Proofs.YtnmnihlhcokjpaaGreatDoor

/- The document's Tcn: contract. -/
namespace Go.Proofs.YtnmnihlhcokjpaaGreatDoor
set_option maxRecDepth 100000
open Go.ChangeShapes Go.WideShapes Go.ChangeAt Go.RowKit
set_option linter.unusedVariables false
set_option linter.unusedSimpArgs false

/-- The TCN that goes out by the port to the root. -/
def tcnR (t : Th) (n : Nat) : List Ou := if 0 ≤ t.rp ∧ t.rp < n then [⟨t.rp, t.ow % 281474976710656, tcnQ⟩] else []
def OutsEnd (w : World) (M : List Ou) (e : Ending) (w' : World) : Prop := ∃ v, e = .returned v ∧ OutsR w' w.heap.size v M ∧ Below w.heap.size w w'
/-- One Out, just laid in a row. -/
theorem outs_one {w w' : World} {c : Oc} (hb : w.heap.size ≤ w'.heap.size) (h : OcAt w' w.heap.size c) : OutsR (w'.alloc (.cells (lO c).toArray 83)) w.heap.size (.slice (some ⟨w'.heap.size, 0, none⟩) 1 1) [c.o] :=
  ⟨[c], rfl, ⟨rfl, .inr ⟨w'.heap.size, 1, (lO c).toArray, rfl, hb, heap_alloc_new _ _, Nat.le_refl _, by decide, rfl, rfl⟩⟩, fun d hd => by obtain rfl := List.mem_singleton.1 hd; exact h.below (new_below _ _)⟩

set_option maxHeartbeats 1000000 in
theorem rtcn_is (t : Th) (A : Option Addr) (n cap : Nat) (ht : Hid (ThB t)) (w : World) :
    Calls Tryz.prog 23 #[.agg (lT t A n cap).toArray] w (OutsEnd w (tcnR t n)) := by
  obtain ⟨R, hR⟩ : ∃ R, tcnR t n = R := ⟨_, rfl⟩
  rw [hR]
  have HR := Lib.hid hR
  clear hR
  have HOT : ∀ W, Hid (Calls Tryz.prog 58 #[.agg (lT t A n cap).toArray, .int .i64 t.rp, .agg #[.bool true, .bool false, .bool false, .int .u64 0, .int .u32 0, .int .u64 0, .int .u16 0, .int .u16 0, .int .u16 0, .int .u16 0, .int .u16 0]] W (OutEnd W ⟨t.rp, t.ow % 281474976710656, tcnQ⟩)) := fun W => Lib.hid (rout_is t A n cap t.rp tcnQ (by unfold BqIn BpIn tcnQ; decide) ht.out.1 W)
  obtain ⟨wb, hwb, S⟩ := hs_one w 31 (lT t A n cap)
  go_enter Tryz.func23, Tryz.ntmps23
  go_upto_region 1 with fail
  clear hwb
  obtain ⟨X, hX⟩ : ∃ X, w.heap.size = X := ⟨_, rfl⟩
  rw [hX] at S ⊢
  have c3 := S.cell 0 3 rfl rfl
  have c18 := S.cell 0 18 rfl rfl
  by_cases r0 : t.rp < 0
  · obtain rfl : [] = R := by rw [← HR.out, tcnR, if_neg (by omega)]
    go_wp2
    go_ret
    exact ⟨_, rfl, OutsR.nil _ _, S.old⟩
  by_cases r1 : (n : Int) ≤ t.rp
  · obtain rfl : [] = R := by rw [← HR.out, tcnR, if_neg (by omega)]
    go_wp2
    go_ret
    exact ⟨_, rfl, OutsR.nil _ _, S.old⟩
  obtain rfl : [⟨t.rp, t.ow % 281474976710656, tcnQ⟩] = R := by rw [← HR.out, tcnR, if_pos (by omega)]
  go_upto_region 3 with fail
  clear c18
  have hx := S.bk 0 rfl
  go_wp2_with (with_reducible refine wpList_load_row rfl 31 (.tmp 1) rfl X (by kernel_rfl) _ _ (0, 0) _ hx Tryz.underlying31 rfl (by kernel_rfl) ?_)
  (with_reducible refine (HOT _).out.mono ?_); rintro e w2 ⟨g, c, rfl, hoc, b2⟩
  have hoc2 : OcAt w2 w.heap.size ⟨⟨t.rp, t.ow % 281474976710656, tcnQ⟩, g, c⟩ := ⟨Nat.le_trans S.old.size hoc.1, hoc.2⟩
  have S2 := S.below b2
  have hO := outs_one (w := w) S2.old.size hoc2
  have B3 := S2.old.trans ((new_below w2 (.cells (lO ⟨⟨t.rp, t.ow % 281474976710656, tcnQ⟩, g, c⟩).toArray 83)).mono S2.old.size)
  obtain ⟨oc, hoc0⟩ : ∃ q : Oc, (⟨⟨t.rp, t.ow % 281474976710656, tcnQ⟩, g, c⟩ : Oc) = q := ⟨_, rfl⟩
  rw [hoc0] at hO B3 ⊢
  have hlen := lO_len oc
  have hfold : List.foldl (fun (cs : Array Value) (x : Value × Nat) => cs.setIfInBounds x.snd x.fst) #[.int .i64 0, .int .u64 0, .int .u64 0, .int .u16 0, .slice none 0 0] (lO oc).zipIdx = (lO oc).toArray := rfl
  have HO := Lib.hid hO
  have HB3 := Lib.hid B3
  have HQ := Lib.hid hoc0
  clear hO B3 hoc hoc2 S S2 b2 hx HOT hoc0
  go_wp2
  go_ret
  refine ⟨_, rfl, ?_, HB3.out⟩
  have := HO.out
  rw [← HQ.out] at this ⊢
  exact this

end Go.Proofs.YtnmnihlhcokjpaaGreatDoor

/- The document's Detect: contract. -/
namespace Go.Proofs.YtnmnihlhcokjpaaGreatDoor
set_option maxRecDepth 100000
open Go.ChangeShapes Go.WideShapes Go.ChangeAt Go.RowKit
set_option linter.unusedVariables false
set_option linter.unusedSimpArgs false

/-- The view when a change is detected, and what goes out. -/
def detT (t : Th) : Th := if t.ro = t.ow then { t with de := true, ch := true, zo := true, zv := 0 } else if t.de = true then t else { t with de := true, xo := true, xv := 0 }
def detO (t : Th) (n : Nat) : List Ou := if t.ro = t.ow then [] else if t.de = true then [] else tcnR t n
def DetEnd (w : World) (t : Th) (A : Option Addr) (n cap : Nat) (e : Ending) (w' : World) : Prop := ∃ v, e = .returned (.tuple #[.agg (lT (detT t) A n cap).toArray, v]) ∧ OutsR w' w.heap.size v (detO t n) ∧ Below w.heap.size w w'
/-- Two cells of a box that stores may write. -/
theorem Hs.there2 {w wx : World} {l : List (Nat × TypeId × List Value)} (h : Hs w l wx) (k : Nat) {g : Nat} {T : TypeId} {cs : List Value} (o : Nat) (hk : l[k]? = some (g, T, cs)) (ho : o + 1 < cs.length) : wx.there g o 2 := fun j hj => by
  have e : ∃ v, cs[o + j]? = some v := ⟨_, List.getElem?_eq_getElem (by omega)⟩
  obtain ⟨v, hv⟩ := e
  exact ⟨by rw [h.cell k (o + j) hk hv]; rfl, h.thaw k (o + j) hk⟩

set_option maxHeartbeats 1000000 in
theorem rdetect_is (t : Th) (A : Option Addr) (n cap : Nat) (ht : Hid (ThB t)) (w : World) :
    Calls Tryz.prog 25 #[.agg (lT t A n cap).toArray] w (DetEnd w t A n cap) := by
  unfold DetEnd
  obtain ⟨T, hT⟩ : ∃ T, detT t = T := ⟨_, rfl⟩
  obtain ⟨R, hR⟩ : ∃ R, detO t n = R := ⟨_, rfl⟩
  rw [hT, hR]
  have HT := Lib.hid hT
  have HR := Lib.hid hR
  clear hT hR
  obtain ⟨wb, hwb, S⟩ := hs_two w 31 31 (lT t A n cap) [.int .u64 0, .int .u64 0, .int .u32 0, .int .i64 0, .int .i64 0, .int .i64 0, .int .i64 0, .int .i64 0, .int .i64 0, .int .i64 0, .bool false, .bool false, .bool false, .int .i64 0, .bool false, .int .i64 0, .bool false, .int .i64 0, .slice none 0 0]
  go_enter Tryz.func25, Tryz.ntmps25
  go_upto_region 1 with fail
  clear hwb
  obtain ⟨X, hX⟩ : ∃ X, w.heap.size = X := ⟨_, rfl⟩
  rw [hX] at S ⊢
  obtain ⟨Y, hY⟩ : ∃ Y, X + 1 = Y := ⟨_, rfl⟩
  rw [hY] at S ⊢
  clear hY
  have c0 := S.cell 1 0 rfl rfl
  have c1 := S.cell 1 1 rfl rfl
  have c10 := S.cell 1 10 rfl rfl
  have c11 := S.cell 1 11 rfl rfl
  have f10 := S.thaw 1 10 rfl
  have f11 := S.thaw 1 11 rfl
  by_cases hro : t.ro = t.ow
  · have q : (t.ro == t.ow) = true := by simp [hro]
    obtain rfl : ({ t with de := true, ch := true, zo := true, zv := 0 } : Th) = T := by rw [← HT.out, detT, if_pos hro]
    obtain rfl : [] = R := by rw [← HR.out, detO, if_pos hro]
    clear hro
    go_upto_region 3 with fail
    have S1 : Hs w [(Y, 31, [.int .u64 0, .int .u64 0, .int .u32 0, .int .i64 0, .int .i64 0, .int .i64 0, .int .i64 0, .int .i64 0, .int .i64 0, .int .i64 0, .bool false, .bool false, .bool false, .int .i64 0, .bool false, .int .i64 0, .bool false, .int .i64 0, .slice none 0 0]), (X, 31, lT { t with de := true, ch := true } A n cap)] ((wb.setCell ⟨X, 11, none⟩ (.bool true)).setCell ⟨X, 10, none⟩ (.bool true)) := (S.set 1 rfl 11 (.bool true)).set 1 rfl 10 (.bool true)
    generalize (wb.setCell ⟨X, 11, none⟩ (.bool true)).setCell ⟨X, 10, none⟩ (.bool true) = w2 at S1 ⊢
    clear S c0 c1 c10 c11 f10 f11 q
    have hth : World.there _ X 16 ([.bool true, .int .i64 0] : List Value).toArray.size := S1.there2 1 16 rfl (show 17 < 19 by decide)
    go_upto_region 4 with (with_reducible refine wpList_store_mid rfl 28 (.tmp 12) _ rfl X 16 ([.bool true, .int .i64 0] : List Value).toArray (by kernel_rfl) (by kernel_rfl) hth (by kernel_rfl) (by kernel_rfl) ?_)
    have S2 : Hs w [(Y, 31, [.int .u64 0, .int .u64 0, .int .u32 0, .int .i64 0, .int .i64 0, .int .i64 0, .int .i64 0, .int .i64 0, .int .i64 0, .int .i64 0, .bool false, .bool false, .bool false, .int .i64 0, .bool false, .int .i64 0, .bool false, .int .i64 0, .slice none 0 0]), (X, 31, lT { t with de := true, ch := true, zo := true, zv := 0 } A n cap)] (w2.setCells X 16 ([.bool true, .int .i64 0] : List Value).toArray.toList) := (S1.set 1 rfl 16 (.bool true)).set 1 rfl 17 (.int .i64 0)
    generalize w2.setCells X 16 ([.bool true, .int .i64 0] : List Value).toArray.toList = w3 at S2 ⊢
    clear S1 hth
    have hx := S2.bk 1 rfl
    have hy := S2.bk 0 rfl
    go_wp2_with (first | (refine wpList_load_row rfl 31 _ rfl X rfl _ _ (0, 0) _ hx Tryz.underlying31 rfl (by kernel_rfl) ?_) | (refine wpList_store_row rfl 31 _ _ rfl Y _ rfl rfl _ _ hy (by kernel_rfl) (by kernel_rfl) (by kernel_rfl) ?_))
    exact bodyPost_ret (v := .tuple #[.agg (lT { t with de := true, ch := true, zo := true, zv := 0 } A n cap).toArray, .slice none 0 0]) (results_two rfl _ _ Y _ _ _ _ rfl _ rfl (setRow_heap _ _ _ _ _ _ hy) Tryz.underlying31 rfl (by kernel_rfl)) rfl ⟨_, rfl, OutsR.nil _ _, (S2.row 0 rfl (lT { t with de := true, ch := true, zo := true, zv := 0 } A n cap)).old⟩
  · have q : (t.ro == t.ow) = false := by simp [hro]
    obtain ⟨d, hd⟩ : ∃ d, t.de = d := ⟨_, rfl⟩
    cases d with
    | true =>
      obtain rfl : t = T := by rw [← HT.out, detT, if_neg hro, if_pos hd]
      obtain rfl : [] = R := by rw [← HR.out, detO, if_neg hro, if_pos hd]
      rw [hd] at c10
      clear hro hd
      have hx := S.bk 1 rfl
      have hy := S.bk 0 rfl
      go_wp2_with (first | (refine wpList_load_row rfl 31 _ rfl X rfl _ _ (0, 0) _ hx Tryz.underlying31 rfl (by kernel_rfl) ?_) | (refine wpList_store_row rfl 31 _ _ rfl Y _ rfl rfl _ _ hy (by kernel_rfl) (by kernel_rfl) (by kernel_rfl) ?_))
      exact bodyPost_ret (v := .tuple #[.agg (lT t A n cap).toArray, .slice none 0 0]) (results_two rfl _ _ Y _ _ _ _ rfl _ rfl (setRow_heap _ _ _ _ _ _ hy) Tryz.underlying31 rfl (by kernel_rfl)) rfl ⟨_, rfl, OutsR.nil _ _, (S.row 0 rfl (lT t A n cap)).old⟩
    | false =>
      obtain rfl : ({ t with de := true, xo := true, xv := 0 } : Th) = T := by rw [← HT.out, detT, if_neg hro, if_neg (by rw [hd]; decide)]
      obtain rfl : tcnR t n = R := by rw [← HR.out, detO, if_neg hro, if_neg (by rw [hd]; decide)]
      rw [hd] at c10
      clear hro hd
      go_upto_region 8 with fail
      have S1 : Hs w [(Y, 31, [.int .u64 0, .int .u64 0, .int .u32 0, .int .i64 0, .int .i64 0, .int .i64 0, .int .i64 0, .int .i64 0, .int .i64 0, .int .i64 0, .bool false, .bool false, .bool false, .int .i64 0, .bool false, .int .i64 0, .bool false, .int .i64 0, .slice none 0 0]), (X, 31, lT { t with de := true } A n cap)] (wb.setCell ⟨X, 10, none⟩ (.bool true)) := S.set 1 rfl 10 (.bool true)
      generalize wb.setCell ⟨X, 10, none⟩ (.bool true) = w2 at S1 ⊢
      clear S c0 c1 c10 c11 f10 f11 q
      have hth : World.there _ X 14 ([.bool true, .int .i64 0] : List Value).toArray.size := S1.there2 1 14 rfl (show 15 < 19 by decide)
      go_upto_region 9 with (with_reducible refine wpList_store_mid rfl 28 (.tmp 19) _ rfl X 14 ([.bool true, .int .i64 0] : List Value).toArray (by kernel_rfl) (by kernel_rfl) hth (by kernel_rfl) (by kernel_rfl) ?_)
      have S2 : Hs w [(Y, 31, [.int .u64 0, .int .u64 0, .int .u32 0, .int .i64 0, .int .i64 0, .int .i64 0, .int .i64 0, .int .i64 0, .int .i64 0, .int .i64 0, .bool false, .bool false, .bool false, .int .i64 0, .bool false, .int .i64 0, .bool false, .int .i64 0, .slice none 0 0]), (X, 31, lT { t with de := true, xo := true, xv := 0 } A n cap)] (w2.setCells X 14 ([.bool true, .int .i64 0] : List Value).toArray.toList) := (S1.set 1 rfl 14 (.bool true)).set 1 rfl 15 (.int .i64 0)
      generalize w2.setCells X 14 ([.bool true, .int .i64 0] : List Value).toArray.toList = w3 at S2 ⊢
      clear S1 hth
      have HTC := fun W => Lib.hid (rtcn_is { t with de := true, xo := true, xv := 0 } A n cap (Lib.hid (show ThB { t with de := true, xo := true, xv := 0 } from ht.out)) W)
      refine wp_region_held_drew (S := (fun w' => Bk w' X 31 (lT { t with de := true, xo := true, xv := 0 } A n cap))) (by kernel_rfl) (S2.1 1 _ _ _ rfl).1 (fun hHeld => ?_)
      have S3 := S2.drew
      refine wpAnyH_take (i := 0) (v := _) rfl (by kernel_rfl) (by kernel_rfl) (by kernel_rfl) (fun _ _ _ h => h) (Or.inl ⟨by kernel_rfl, fun w' hSw => exec_load_row 31 _ rfl X (by kernel_rfl) _ _ (0, 0) _ (hSw) Tryz.underlying31 rfl (by kernel_rfl)⟩) (by assumption) ?_
      try simp only [Act.put, List.setIfInBounds_toArray, List.set_cons_succ]
      refine wpAnyH_take (i := 1) (v := _) rfl (by kernel_rfl) (by kernel_rfl) (by kernel_rfl) (fun _ _ _ h => h) (Or.inl ⟨by kernel_rfl, fun w' hSw => exec_load_row 31 _ rfl X (by kernel_rfl) _ _ (0, 0) _ (hSw) Tryz.underlying31 rfl (by kernel_rfl)⟩) (by assumption) ?_
      try simp only [Act.put, List.setIfInBounds_toArray, List.set_cons_succ]
      refine wpAnyH_ready (rs := [2]) (by kernel_rfl) (by simp) ?_
      refine AllReadyH.cons rfl (fun K hK => ?_) AllReadyH.nil
      go_simp
      (with_reducible refine (HTC _).out.mono ?_); rintro e w4 ⟨v, rfl, hO, b4⟩
      have S4 := S3.below b4
      refine hK.out _ _ ((S4.1 1 _ _ _ rfl).1) (fun hHeld => ?_)
      clear hK K
      try simp only [Act.put, List.setIfInBounds_toArray, List.set_cons_succ]
      have hy := S4.bk 0 rfl
      refine wpAnyH_ready (rs := [3]) (by kernel_rfl) (by simp) ?_
      refine AllReadyH.cons rfl (fun K hK => ?_) AllReadyH.nil
      refine exec_if_store (by kernel_rfl) 31 (.tmp 2) (.tmp 20) rfl Y (lT { t with de := true, xo := true, xv := 0 } A n cap).toArray (by kernel_rfl) (by kernel_rfl) _ _ hy (by kernel_rfl) (by kernel_rfl) (by kernel_rfl) ?_
      have S5 := S4.row 0 rfl (lT { t with de := true, xo := true, xv := 0 } A n cap)
      refine hK.out _ _ (S5.1 1 _ _ _ rfl).1 (fun hHeld => ?_)
      clear hK K
      try simp only [Act.put, List.getElem_toArray, List.getElem_cons_succ, List.getElem_cons_zero, List.setIfInBounds_toArray, List.set_cons_succ, List.set_cons_zero]
      refine wpAnyH_take (i := 4) (v := ?_) rfl (by kernel_rfl) (by kernel_rfl) (by kernel_rfl) (fun _ _ _ h => h) (Or.inl ⟨by kernel_rfl, ?_⟩) (by assumption) ?_
      rotate_left
      · intro w' hSw; (try dsimp only at hSw); go_simp; with_reducible rfl
      try simp only [Act.put, List.setIfInBounds_toArray, List.set_cons_succ]
      try simp only [Act.put, List.getElem_toArray, List.getElem_cons_succ, List.getElem_cons_zero, List.setIfInBounds_toArray, List.set_cons_succ, List.set_cons_zero]
      refine wpAnyH_done (by kernel_rfl) ?_ _
      have hYw : Y < w3.drew.heap.size := S3.lt 0 rfl
      have hOF : OutsR (w4.setRow Y (lT { t with de := true, xo := true, xv := 0 } A n cap).toArray) w.heap.size v (tcnR t n) := (hO.heap (fun k hk => setRow_other w4 Y k _ (by omega))).mono S3.old.size
      have hyF := setRow_heap w4 Y _ (lT { t with de := true, xo := true, xv := 0 } A n cap).toArray _ _ hy
      go_wp2
      exact bodyPost_ret (v := .tuple #[.agg (lT { t with de := true, xo := true, xv := 0 } A n cap).toArray, v]) (results_two rfl _ _ Y _ _ _ _ rfl _ rfl hyF Tryz.underlying31 rfl (by kernel_rfl)) rfl ⟨v, rfl, hOF, S5.old⟩

end Go.Proofs.YtnmnihlhcokjpaaGreatDoor

/- Behind an Update: what holds of a view, and that doing it twice changes nothing; behind States: no memory. -/
namespace Go.Proofs.YtnmnihlhcokjpaaGreatDoor
set_option maxRecDepth 100000
set_option linter.unusedVariables false

/-- Costs that all configurations, and all that is heard, have. -/
def CostB (p : Po) : Prop := 1 ≤ p.co ∧ p.co ≤ 65535 ∧ 0 ≤ p.hc ∧ p.hc < 2147483648

theorem desB_become (t : Th) (p : Po) : desB (becomeP t p) t.ow = true := by simp [desB, becomeP]
theorem desP_yes {t : Th} {p : Po} (h : takesB t p = true) : desP t p = becomeP t p := by unfold desP; rw [if_pos h]
theorem desP_no {t : Th} {p : Po} (h : takesB t p = false) : desP t p = p := by unfold desP; rw [if_neg (by rw [h]; decide)]
theorem desP_id (t : Th) (p : Po) : (desP t p).id = p.id := by
  cases h : takesB t p with
  | false => rw [desP_no h]
  | true => rw [desP_yes h]; rfl
theorem may_des {p : Po} {o : Int} (h : desB p o = true) : mayB p o = false := by unfold mayB; rw [h]; rfl

/-- What Select finds. -/
theorem sel_cases (t : Th) (L : List Po) :
    (bst t.ow L L.length = none ∧ selectT t L = { t with rp := -1, ro := t.ow, co := 0 } ∧ ∀ (i : Nat) p, L[i]? = some p → mayB p t.ow = false) ∨
    (∃ (j : Nat) (p : Po), L[j]? = some p ∧ bst t.ow L L.length = some j ∧ selectT t L = { t with rp := (j : Int), ro := p.hr, co := farI p.hc p.co } ∧ mayB p t.ow = true ∧ Top t.ow L L.length j) := by
  have hb := bst_spec t.ow L L.length
  revert hb
  cases e : bst t.ow L L.length with
  | none =>
    intro hb
    exact .inl ⟨rfl, by unfold selectT; rw [e]; rfl, fun i p hp => hb i (po_lt hp) p hp⟩
  | some j =>
    intro hb
    obtain ⟨hj, hT⟩ := hb
    have hT' := hT
    obtain ⟨p, h1, h2, _⟩ := hT'
    exact .inr ⟨j, p, h1, rfl, by unfold selectT; rw [e]; simp only [selT, h1], h2, hT⟩

theorem sel_ow (t : Th) (L : List Po) : (selectT t L).ow = t.ow := by
  rcases sel_cases t L with ⟨_, e, _⟩ | ⟨j, p, _, _, e, _⟩ <;> rw [e]

/-- Behind States. -/
def foreB (t : Th) (j : Nat) (y : Po) : Bool := decide ((j : Int) = t.rp) || desB y t.ow
theorem rise_parts (p : Po) : (riseP p).id = p.id ∧ (riseP p).hb = p.hb ∧ (riseP p).hp = p.hp ∧ (riseP p).ak = p.ak ∧ (riseP p).pe = p.pe ∧ (riseP p).ao = p.ao ∧ (riseP p).av = p.av ∧ (riseP p).st ≠ 1 ∧ ((riseP p).st = 0 ↔ p.st = 0) := by
  unfold riseP
  split
  · rename_i h
    refine ⟨rfl, rfl, rfl, rfl, rfl, rfl, rfl, by (show ¬ (2 : Int) = 1; decide), ?_⟩
    show (2 : Int) = 0 ↔ _
    omega
  · rename_i h
    exact ⟨rfl, rfl, rfl, rfl, rfl, rfl, rfl, h, Iff.rfl⟩
theorem rise_twice {p : Po} (h : p.st ≠ 1) : riseP p = p := by unfold riseP; rw [if_neg h]
theorem block_parts (p : Po) : (blockP p).1.id = p.id ∧ (blockP p).1.hb = p.hb ∧ (blockP p).1.hp = p.hp ∧ (blockP p).1.ak = p.ak ∧ (blockP p).1.pe = p.pe ∧ ((blockP p).1.st = 0 ∨ (blockP p).1.st = 1) ∧ ((blockP p).1.st = 0 ↔ p.st = 0) := by
  unfold blockP
  split
  · rename_i h
    exact ⟨rfl, rfl, rfl, rfl, rfl, h, Iff.rfl⟩
  · rename_i h
    refine ⟨rfl, rfl, rfl, rfl, rfl, .inr rfl, ?_⟩
    simp only
    omega
theorem block_twice {p : Po} (h : p.st = 0 ∨ p.st = 1) : blockP p = (p, false) := by unfold blockP; rw [if_pos h]
theorem owes_twice {p : Po} (h : p.ak = false) (h' : p.pe = false) : owesP p = p := by cases p; simp_all [owesP]
theorem rest_twice {p : Po} (h : p.ao = false) (h' : p.av = 0) : restP p = p := by cases p; simp_all [restP]
theorem desB_keep {p q : Po} {o : Int} (h1 : q.id = p.id) (h2 : q.hb = p.hb) (h3 : q.hp = p.hp) : desB q o = desB p o := by unfold desB; rw [h1, h2, h3]
theorem st_all (t : Th) (j : Nat) (y : Po) :
    desB (stP t j y).1 t.ow = desB y t.ow ∧ ((stP t j y).1.st = 0 ↔ y.st = 0) ∧ ((stP t j y).1.st ≠ 0 → ((stP t j y).1.st = 1 ↔ foreB t j y = false)) ∧ (foreB t j y = false → (stP t j y).1.pe = false ∧ (stP t j y).1.ak = false) ∧ stP t j (stP t j y).1 = ((stP t j y).1, false) := by
  unfold stP foreB
  by_cases h : (j : Int) = t.rp
  · simp only [h, if_true, decide_true, Bool.true_or]
    obtain ⟨a1, a2, a3, a4, a5, a6, a7, a8, a9⟩ := rise_parts (owesP y)
    refine ⟨desB_keep a1 a2 a3, a9, fun _ => ⟨fun e => absurd e a8, (fun e => by cases e)⟩, (fun e => by cases e), ?_⟩
    rw [owes_twice a4 a5, rise_twice a8]
  · simp only [h, if_false, decide_false, Bool.false_or]
    cases d : desB y t.ow with
    | true =>
      obtain ⟨a1, a2, a3, a4, a5, a6, a7, a8, a9⟩ := rise_parts (restP y)
      have hd : desB (riseP (restP y)) t.ow = true := (desB_keep a1 a2 a3).trans d
      simp only [if_true]
      refine ⟨hd, a9, fun _ => ⟨fun e => absurd e a8, (fun e => by cases e)⟩, (fun e => by cases e), ?_⟩
      rw [hd, if_pos rfl, rest_twice a6 a7, rise_twice a8]
    | false =>
      obtain ⟨a1, a2, a3, a4, a5, a6, a7⟩ := block_parts (owesP y)
      have hd : desB (blockP (owesP y)).1 t.ow = false := (desB_keep a1 a2 a3).trans d
      simp only [Bool.false_eq_true, if_false]
      refine ⟨hd, a7, fun e => ⟨fun _ => trivial, fun _ => by rcases a6 with q | q; exact absurd q e; exact q⟩, fun _ => ⟨a5, a4⟩, ?_⟩
      rw [hd]
      simp only [Bool.false_eq_true, if_false]
      rw [owes_twice a4 a5, block_twice a6]
end Go.Proofs.YtnmnihlhcokjpaaGreatDoor

/- What a bridge does with what it hears, as a function of the view and its ports: no program. -/
namespace Go.Proofs.YtnmnihlhcokjpaaGreatDoor
set_option maxRecDepth 100000
open Go.ChangeShapes Go.WideShapes Go.ChangeAt Go.RowKit
set_option linter.unusedVariables false

/-- A view settles: the view, its ports, and what goes out. -/
def settleR (t : Th) (L : List Po) : (Th × List Po) × List Ou :=
  if lostB (selectT t L) (desL (selectT t L) L) L.length = true then ((detT (selectT t L), statesL (selectT t L) (desL (selectT t L) L)), detO (selectT t L) L.length)
  else ((selectT t L, statesL (selectT t L) (desL (selectT t L) L)), [])
def confV (x : Bq) : Vec := ⟨x.ro, x.co, x.br, x.po⟩
/-- A port that holds what it heard. -/
def heldP (p : Po) (x : Bq) : Po := { p with hr := x.ro, hc := x.co, hb := x.br, hp := x.po, ao := true, av := x.ag }
/-- The bridge took itself for the root, and doesn't any more. -/
def lateT (root : Bool) (u : Th) : Th := if root = true ∧ u.ro ≠ u.ow then (if u.de = true then { u with ho := false, hv := 0, zo := false, zv := 0, xo := true, xv := 0 } else { u with ho := false, hv := 0 }) else u
def lateO (root : Bool) (u : Th) (n : Nat) : List Ou := if root = true ∧ u.ro ≠ u.ow then (if u.de = true then tcnR u n else []) else []
/-- Its port to the root told it. -/
def toldT (u : Th) (x : Bq) : Th := { u with n1 := x.ma, n2 := x.he, n3 := x.de, ch := x.ch }
def ackedT (u : Th) (x : Bq) : Th := if x.ak = true then { u with de := false, xo := false, xv := 0 } else u
/-- What takes the place of what the port holds. -/
def tookR (t : Th) (L : List Po) (k : Nat) (p : Po) (x : Bq) : (Th × List Po) × List Ou :=
  let s := settleR t (L.set k (heldP p x))
  let u := lateT (decide (t.ro = t.ow)) s.1.1
  let o := s.2 ++ lateO (decide (t.ro = t.ow)) s.1.1 L.length
  if u.rp = (k : Int) then ((ackedT (toldT u x) x, (allR (toldT u x) s.1.2 L.length).1), o ++ (allR (toldT u x) s.1.2 L.length).2)
  else ((u, s.1.2), o)
/-- A port hears a configuration. -/
def heardR (t : Th) (L : List Po) (i : Int) (x : Bq) : (Th × List Po) × List Ou :=
  if 0 ≤ i then (match L[i.toNat]? with
    | none => ((t, L), [])
    | some p => if p.st = 0 then ((t, L), []) else if supB (confV x) (heldV p) t.ow = true then tookR t L i.toNat p x
        else if desB p t.ow = true then ((t, (confR t L i).1), (confR t L i).2) else ((t, L), []))
  else ((t, L), [])
/-- A port hears a TCN. -/
def tcnHeardR (t : Th) (L : List Po) (i : Int) : (Th × List Po) × List Ou :=
  if 0 ≤ i then (match L[i.toNat]? with
    | none => ((t, L), [])
    | some p => if p.st = 0 then ((t, L), []) else if desB p t.ow = true then
        ((detT t, (confR (detT t) (L.set i.toNat { p with ak := true }) i).1), detO t L.length ++ (confR (detT t) (L.set i.toNat { p with ak := true }) i).2) else ((t, L), []))
  else ((t, L), [])
theorem heardR_at {t : Th} {L : List Po} {k : Nat} {p : Po} {x : Bq} (h : L[k]? = some p) (hs : p.st ≠ 0) : heardR t L k x = if supB (confV x) (heldV p) t.ow = true then tookR t L k p x
    else if desB p t.ow = true then ((t, (confR t L k).1), (confR t L k).2) else ((t, L), []) := by
  unfold heardR
  rw [if_pos (by omega), Int.toNat_natCast, h]
  simp only [if_neg hs]
/-- What later steps keep of the root, and of the port to it. -/
def RootOf (u t : Th) : Prop := u.ow = t.ow ∧ u.ro = t.ro ∧ u.co = t.co ∧ u.rp = t.rp
theorem root_det (t : Th) : RootOf (detT t) t := by
  unfold detT RootOf
  split
  · exact ⟨rfl, rfl, rfl, rfl⟩
  · split <;> exact ⟨rfl, rfl, rfl, rfl⟩
theorem RootOf.trans {a b c : Th} (h : RootOf a b) (k : RootOf b c) : RootOf a c := ⟨h.1.trans k.1, h.2.1.trans k.2.1, h.2.2.1.trans k.2.2.1, h.2.2.2.trans k.2.2.2⟩
theorem root_settle (t : Th) (L : List Po) : RootOf (settleR t L).1.1 (selectT t L) := by
  unfold settleR
  split
  · exact root_det _
  · exact ⟨rfl, rfl, rfl, rfl⟩
theorem settle_ports (t : Th) (L : List Po) : (settleR t L).1.2 = statesL (selectT t L) (desL (selectT t L) L) := by unfold settleR; split <;> rfl
/-- A port behind a settling. -/
theorem settle_at {t : Th} {L : List Po} {k : Nat} {y : Po} (h : (settleR t L).1.2[k]? = some y) : ∃ x, L[k]? = some x ∧ y = (stP (selectT t L) k (desP (selectT t L) x)).1 := by
  rw [settle_ports] at h
  unfold statesL desL at h
  rw [allL_get, allL_get] at h
  cases hx : L[k]? with
  | none => rw [hx] at h; cases h
  | some x => rw [hx] at h; exact ⟨x, rfl, (Option.some.inj h).symm⟩
theorem st_held (t : Th) (j : Nat) (y : Po) : (stP t j y).1.hr = y.hr ∧ (stP t j y).1.hc = y.hc ∧ (stP t j y).1.hb = y.hb ∧ (stP t j y).1.hp = y.hp ∧ (stP t j y).1.id = y.id ∧ (stP t j y).1.co = y.co := by
  unfold stP
  split
  · unfold riseP owesP
    split <;> exact ⟨rfl, rfl, rfl, rfl, rfl, rfl⟩
  · split
    · unfold riseP restP
      split <;> exact ⟨rfl, rfl, rfl, rfl, rfl, rfl⟩
    · unfold blockP owesP
      split <;> exact ⟨rfl, rfl, rfl, rfl, rfl, rfl⟩
end Go.Proofs.YtnmnihlhcokjpaaGreatDoor

/- The same configuration heard twice at once: no program. -/
namespace Go.Proofs.YtnmnihlhcokjpaaGreatDoor
set_option maxRecDepth 100000
open Go.ChangeShapes Go.WideShapes Go.ChangeAt Go.RowKit
set_option linter.unusedVariables false

/-- Alike for who leads: number, cost, what is held, and whether on. -/
def Like (p q : Po) : Prop := p.id = q.id ∧ p.co = q.co ∧ p.hr = q.hr ∧ p.hc = q.hc ∧ p.hb = q.hb ∧ p.hp = q.hp ∧ (p.st = 0 ↔ q.st = 0)
theorem Like.refl (p : Po) : Like p p := ⟨rfl, rfl, rfl, rfl, rfl, rfl, Iff.rfl⟩
theorem Like.trans {p q r : Po} (h : Like p q) (k : Like q r) : Like p r := ⟨h.1.trans k.1, h.2.1.trans k.2.1, h.2.2.1.trans k.2.2.1, h.2.2.2.1.trans k.2.2.2.1, h.2.2.2.2.1.trans k.2.2.2.2.1, h.2.2.2.2.2.1.trans k.2.2.2.2.2.1, h.2.2.2.2.2.2.trans k.2.2.2.2.2.2⟩
theorem Like.des {p q : Po} (h : Like p q) (o : Int) : desB p o = desB q o := by unfold desB; rw [h.1, h.2.2.2.2.1, h.2.2.2.2.2.1]
theorem Like.may {p q : Po} (h : Like p q) (o : Int) : mayB p o = mayB q o := by
  unfold mayB
  rw [h.des o, h.2.2.1]
  by_cases e : p.st = 0
  · rw [e, h.2.2.2.2.2.2.1 e]
  · have e' : q.st ≠ 0 := fun x => e (h.2.2.2.2.2.2.2 x)
    rw [show decide (p.st ≠ 0) = true from decide_eq_true e, show decide (q.st ≠ 0) = true from decide_eq_true e']
theorem Like.thru {p q : Po} (h : Like p q) : thruV p = thruV q := by unfold thruV; rw [h.2.1, h.2.2.1, h.2.2.2.1, h.2.2.2.2.1, h.2.2.2.2.2.1]
theorem Like.better {p q p' q' : Po} (h : Like p p') (k : Like q q') : betterB p q = betterB p' q' := by unfold betterB; rw [h.thru, k.thru, h.1, k.1]
/-- Two rows of ports, alike one by one. -/
def Alike (R : Po → Po → Prop) (L M : List Po) : Prop := L.length = M.length ∧ ∀ (j : Nat) (p q : Po), L[j]? = some p → M[j]? = some q → R p q
theorem Alike.get {R : Po → Po → Prop} {L M : List Po} (h : Alike R L M) {j : Nat} {p : Po} (hp : L[j]? = some p) : ∃ q, M[j]? = some q ∧ R p q := by
  have hj := po_lt hp
  have hj' : j < M.length := by have := h.1; omega
  have hq : M[j]? = some M[j] := List.getElem?_eq_getElem hj'
  exact ⟨_, hq, h.2 j p _ hp hq⟩
/-- What twice the same leaves: the state, and what is held. -/
def Core (p q : Po) : Prop := p.st = q.st ∧ p.hr = q.hr ∧ p.hc = q.hc ∧ p.hb = q.hb ∧ p.hp = q.hp
def Full (p q : Po) : Prop := Core p q ∧ p.id = q.id ∧ p.co = q.co
theorem Full.refl (p : Po) : Full p p := ⟨⟨rfl, rfl, rfl, rfl, rfl⟩, rfl, rfl⟩
theorem Full.symm {p q : Po} (h : Full p q) : Full q p := ⟨⟨h.1.1.symm, h.1.2.1.symm, h.1.2.2.1.symm, h.1.2.2.2.1.symm, h.1.2.2.2.2.symm⟩, h.2.1.symm, h.2.2.symm⟩
theorem Full.trans {p q r : Po} (h : Full p q) (k : Full q r) : Full p r := ⟨⟨h.1.1.trans k.1.1, h.1.2.1.trans k.1.2.1, h.1.2.2.1.trans k.1.2.2.1, h.1.2.2.2.1.trans k.1.2.2.2.1, h.1.2.2.2.2.trans k.1.2.2.2.2⟩, h.2.1.trans k.2.1, h.2.2.trans k.2.2⟩
theorem Full.like {p q : Po} (h : Full p q) : Like p q := ⟨h.2.1, h.2.2, h.1.2.1, h.1.2.2.1, h.1.2.2.2.1, h.1.2.2.2.2, by rw [h.1.1]⟩
theorem Alike.map {R S : Po → Po → Prop} (hRS : ∀ p q, R p q → S p q) {L M : List Po} (h : Alike R L M) : Alike S L M := ⟨h.1, fun j p q hp hq => hRS p q (h.2 j p q hp hq)⟩
theorem full_step (t : Th) (a : Int) (p : Po) : Full (stepP t a p) p := by
  unfold stepP
  split
  · split
    · exact Full.refl _
    · split <;> exact Full.refl _
  · exact Full.refl _
theorem full_all (t : Th) (L : List Po) (n : Nat) : Alike Full (allR t L n).1 L := by
  rw [allR_fst]
  refine ⟨mixL_len _ _ _, fun j p q hp hq => ?_⟩
  rw [mixL_get, hq] at hp
  have hp := Option.some.inj hp
  rw [← hp]
  dsimp only
  split
  · exact full_step _ _ _
  · exact Full.refl _
theorem full_conf (t : Th) (L : List Po) (i : Int) : Alike Full (confR t L i).1 L := by
  refine ⟨confR_len _ _ _, fun j p q hp hq => ?_⟩
  have same : L[j]? = some p → Full p q := fun h => by rw [hq] at h; cases h; exact Full.refl _
  have put : ∀ (k : Nat) (x y : Po), L[k]? = some x → Full y x → (L.set k y)[j]? = some p → Full p q := fun k x y hx hy h => by
    rw [List.getElem?_set] at h
    split at h
    · rename_i e
      subst e
      rw [hq] at hx
      cases hx
      split at h
      · cases h; exact hy
      · cases h
    · exact same h
  unfold confR at hp
  split at hp
  · split at hp
    · exact same hp
    · rename_i x hx
      split at hp
      · exact put i.toNat x (owingP x) hx ⟨⟨rfl, rfl, rfl, rfl, rfl⟩, rfl, rfl⟩ hp
      · split at hp
        · exact same hp
        · exact put i.toNat x (sentP x) hx ⟨⟨rfl, rfl, rfl, rfl, rfl⟩, rfl, rfl⟩ hp
  · exact same hp

/-- Behind a settling. -/
theorem settle_len (t : Th) (L : List Po) : (settleR t L).1.2.length = L.length := by rw [settle_ports]; unfold statesL desL; rw [allL_len, allL_len]
theorem settle_unlike {t : Th} {L : List Po} (hU : Unlike L) : Unlike (settleR t L).1.2 := by
  intro i j p q hp hq hn
  obtain ⟨x, hx, rfl⟩ := settle_at hp
  obtain ⟨y, hy, rfl⟩ := settle_at hq
  rw [(st_held _ _ _).2.2.2.2.1, (st_held _ _ _).2.2.2.2.1, desP_id, desP_id]
  exact hU i j x y hx hy hn
end Go.Proofs.YtnmnihlhcokjpaaGreatDoor

/- Outs appended to Outs. -/
namespace Go.Proofs.YtnmnihlhcokjpaaGreatDoor
set_option maxRecDepth 100000
open Go.ChangeShapes Go.WideShapes Go.ChangeAt Go.RowKit
set_option linter.unusedVariables false

theorem Tryz.infoOut : (Tryz.prog.info? 83).map (fun i => (i.zero, i.size, i.bytes)) = some (some (.agg #[.int .i64 0, .int .u64 0, .int .u64 0, .int .u16 0, .slice none 0 0]), 5, 56) := by kernel_rfl
theorem oc_cells_one : ∀ (L : List Oc), ∀ u ∈ cellsOf lO L, u.oneCell' = true
  | [], u, hu => by simp [cellsOf] at hu
  | p :: r, u, hu => by
    simp only [cellsOf, List.mem_append] at hu
    rcases hu with h | h
    · exact (List.all_eq_true.1 (lO_one p)) u h
    · exact oc_cells_one r u h
/-- What a row's growth leaves: data of other Outs. -/
theorem OcAt.grown {w w' : World} {base B : Nat} {v : Value} {n : Nat} {xs : List Value} {c : Oc} (h : OcAt w B c) (hown : w.ownsRow base 83 5 v n xs) (gr : w.grownBy w' v.ownBlock) : OcAt w' B c := by
  obtain ⟨h1, sp, h2, h3, h4⟩ := h
  refine ⟨h1, sp, h2, h3, ?_⟩
  have hne : some c.g ≠ v.ownBlock := by
    intro e
    rcases hown.2 with ⟨rfl, _⟩ | ⟨g, cap, cur, rfl, _, hh, _⟩
    · cases e
    · have e' : c.g = g := Option.some.inj e
      subst e'
      unfold Bk at h4
      rw [h4] at hh
      injection hh with q
      injection q with _ q
      cases q
  exact (gr.block c.g h4.lt hne).trans h4

theorem append_outs (w : World) {ops : Array Oper} {rest : List Oper} {o : Oper} {a : Act} {Q : Exit → Act → World → Prop} (hgd : o.guard = none) (s x : Operand)
    (ho : o.op = .call { callee := .builtin .append, args := #[s, x], argTypes := #[34, 34] })
    (base base2 : Nat) (v v2 : Value) (M M2 : List Ou) (hs : a.eval s = v) (hx : a.eval x = v2) (h1 : OutsR w base v M) (h2 : OutsR w base2 v2 M2) (hb2 : base ≤ base2) (hm : M.length + M2.length ≤ 100000)
    (hbase : base ≤ w.heap.size) (w0 : World) (hb : Below base w0 w)
    (h : ∀ v' w', OutsR w' base v' (M ++ M2) → Below base w0 w' → w.grownBy w' v.ownBlock → wpList Tryz.prog ops Q rest (a.put o.dst v') w') :
    wpList Tryz.prog ops Q (o :: rest) a w := by
  obtain ⟨i0, hi0, hz0, hz1, hz2⟩ := info_parts Tryz.infoOut
  obtain ⟨C, hC, hown, hd⟩ := h1
  obtain ⟨C2, hC2, hown2, hd2⟩ := h2
  have hl : C.length = M.length := by rw [← hC, List.length_map]
  have hl2 : C2.length = M2.length := by rw [← hC2, List.length_map]
  have hown2' := hown2
  rcases hown2.2 with ⟨rfl, h0⟩ | ⟨g2, cap2, cur2, rfl, hg2, hh2, _⟩
  · have e2 : C2 = [] := List.length_eq_zero_iff.1 h0
    subst e2
    have e3 : M2 = [] := by rw [← hC2]; rfl
    subst e3
    refine wpList_append_own_none hgd s x 34 ho base 83 i0 5 Tryz.underlying34 hi0 v C.length (cellsOf lO C) hs hown hx ?_
    exact h v w ⟨C, by rw [List.append_nil]; exact hC, hown, hd⟩ hb ⟨rfl, rfl, rfl, Nat.le_refl _, fun _ _ _ => rfl⟩
  · refine wpList_append_own w hgd s x 34 ho base 83 i0 _ 5 56 Tryz.underlying34 hi0 hz0 hz1 hz2 rfl (by decide) v C.length (cellsOf lO C) hs hown ⟨g2, 0, none⟩ C2.length cap2 (cellsOf lO C2) hx (cellsOf_len lO_len C2) ?_ (oc_cells_one C2) (by unfold maxLen; omega) (by omega) hbase ?_
    · intro j u hu
      have hj : j < C2.length * 5 := by
        rcases Nat.lt_or_ge j (C2.length * 5) with q | q
        · exact q
        · rw [List.getElem?_eq_none (by rw [cellsOf_len lO_len]; exact q)] at hu; cases hu
      rw [addr_add, Nat.zero_add]
      have hw2 : w.ownsRow base2 83 5 (.slice (some ⟨g2, 0, none⟩) C2.length cap2) C2.length (cellsOf lO C2) := hown2'
      rw [hw2.cellAt j hj]
      exact hu
    · intro v' w' hown3 hgrow hv
      refine h v' w' ⟨C ++ C2, by rw [List.map_append, hC, hC2], ?_, fun c hc => ?_⟩ (hb.grown hgrow hbase (fun k hk => (World.ownsRow.lt hown k hk).1)) hgrow
      · unfold OwnL
        rw [List.length_append, cellsOf_append]
        exact hown3
      · rcases List.mem_append.1 hc with q | q
        · exact (hd c q).grown hown hgrow
        · have := (hd2 c q).grown hown hgrow
          exact ⟨Nat.le_trans hb2 this.1, this.2⟩

end Go.Proofs.YtnmnihlhcokjpaaGreatDoor

/- Outs appended to Outs, as a step of a region that draws its order. -/
namespace Go.Proofs.YtnmnihlhcokjpaaGreatDoor
set_option maxRecDepth 100000
open Go.ChangeShapes Go.WideShapes Go.ChangeAt Go.RowKit
set_option linter.unusedVariables false

theorem step_append_outs {ops : Array Oper} {o : Oper} {a : Act} {W : World} {K : Act → World → Prop} {Q : Exit → Act → World → Prop} {E : Prop} (hgd : o.guard = none) (s x : Operand)
    (ho : o.op = .call { callee := .builtin .append, args := #[s, x], argTypes := #[34, 34] })
    (base base2 : Nat) (v v2 : Value) (M M2 : List Ou) (hs : a.eval s = v) (hx : a.eval x = v2) (h1 : OutsR W base v M) (h2 : OutsR W base2 v2 M2) (hb2 : base ≤ base2) (hm : M.length + M2.length ≤ 100000) (hbase : base ≤ W.heap.size)
    (hK : ∀ v' w', OutsR w' base v' (M ++ M2) → W.grownBy w' v.ownBlock → K (a.put o.dst v') w') :
    if Region.wanted o (yielded ops a.tmps) = true then Oper.wp Tryz.prog o a W K Q else E := by
  obtain ⟨i0, hi0, hz0, hz1, hz2⟩ := info_parts Tryz.infoOut
  have hw : Region.wanted o (yielded ops a.tmps) = true := by simp [Region.wanted, hgd]
  rw [if_pos hw]
  obtain ⟨C, hC, hown, hd⟩ := h1
  obtain ⟨C2, hC2, hown2, hd2⟩ := h2
  have hl : C.length = M.length := by rw [← hC, List.length_map]
  have hl2 : C2.length = M2.length := by rw [← hC2, List.length_map]
  have hown2' := hown2
  rcases hown2.2 with ⟨rfl, h0⟩ | ⟨g2, cap2, cur2, rfl, hg2, hh2, _⟩
  · have e2 : C2 = [] := List.length_eq_zero_iff.1 h0
    subst e2
    have e3 : M2 = [] := by rw [← hC2]; rfl
    subst e3
    have hrun := run_append_owned_none (P := Tryz.prog) (w := W) base 34 o.type 83 i0 5 Tryz.underlying34 hi0 v C.length (cellsOf lO C) hown
    unfold Oper.wp
    simp [execOp, ho, resolve, invoke, builtin, hs, hx, hrun, Result.andThen]
    exact hK v W ⟨C, by rw [List.append_nil]; exact hC, hown, hd⟩ ⟨rfl, rfl, rfl, Nat.le_refl _, fun _ _ _ => rfl⟩
  · have hsrc : ∀ (j : Nat) u, (cellsOf lO C2)[j]? = some u → W.cell? ((⟨g2, 0, none⟩ : Addr).add j) = some u := by
      intro j u hu
      have hj : j < C2.length * 5 := by
        rcases Nat.lt_or_ge j (C2.length * 5) with q | q
        · exact q
        · rw [List.getElem?_eq_none (by rw [cellsOf_len lO_len]; exact q)] at hu; cases hu
      rw [addr_add, Nat.zero_add]
      have hw2 : W.ownsRow base2 83 5 (.slice (some ⟨g2, 0, none⟩) C2.length cap2) C2.length (cellsOf lO C2) := hown2'
      rw [hw2.cellAt j hj]
      exact hu
    obtain ⟨v', w', hrun, r1, r2, -⟩ := run_append_own (P := Tryz.prog) W base 34 o.type 83 i0 _ 5 56 Tryz.underlying34 hi0 hz0 hz1 hz2 rfl (by decide) v C.length (cellsOf lO C) hown ⟨g2, 0, none⟩ C2.length cap2 (cellsOf lO C2) (cellsOf_len lO_len C2) hsrc (oc_cells_one C2) (by unfold maxLen; omega) (by omega) hbase
    unfold Oper.wp
    simp [execOp, ho, resolve, invoke, builtin, hs, hx, hrun, Result.andThen]
    refine hK v' w' ⟨C ++ C2, by rw [List.map_append, hC, hC2], ?_, fun c hc => ?_⟩ r2
    · unfold OwnL
      rw [List.length_append, cellsOf_append]
      exact r1
    · rcases List.mem_append.1 hc with q | q
      · exact (hd c q).grown hown r2
      · have := (hd2 c q).grown hown r2
        exact ⟨Nat.le_trans hb2 this.1, this.2⟩

end Go.Proofs.YtnmnihlhcokjpaaGreatDoor

/- What goes out, and ports, while a block of another type changes, or while Outs grow. -/
namespace Go.Proofs.YtnmnihlhcokjpaaGreatDoor
set_option maxRecDepth 100000
open Go.ChangeShapes Go.WideShapes Go.ChangeAt Go.RowKit
set_option linter.unusedVariables false

theorem OutsR.but {w w' : World} {base g : Nat} {v : Value} {M : List Ou} {T : TypeId} {cs : List Value} (h : OutsR w base v M) (hb : Bk w g T cs) (h1 : 83 ≠ T) (h2 : 5 ≠ T) (hh : ∀ k, k ≠ g → w'.heap[k]? = w.heap[k]?) : OutsR w' base v M := by
  obtain ⟨C, e, hown, hd⟩ := h
  refine ⟨C, e, ⟨hown.1, hown.2.imp id ?_⟩, fun c hc => ?_⟩
  · rintro ⟨g', cap', cur, hv, hg, hh2, r⟩
    have hne : g' ≠ g := by
      rintro rfl
      unfold Bk at hb
      rw [hb] at hh2
      injection hh2 with q
      injection q with _ q
      exact h1 q.symm
    exact ⟨g', cap', cur, hv, hg, (hh g' hne).trans hh2, r⟩
  · obtain ⟨hg, sp, y1, y2, y3⟩ := hd c hc
    exact ⟨hg, sp, y1, y2, (hh c.g (bk_ne y3 hb h2)).trans y3⟩
theorem TS.port_block {w wx : World} {l : List (Nat × TypeId × List Value)} {g : Nat} {L : List Po} (h : TS w l (some ⟨g, 0, none⟩) L wx) {k : Nat} {x : Po} (hx : L[k]? = some x) : ∃ cs, Bk wx g 63 cs := by
  rcases h.2 with rfl | ⟨g', r, e, s⟩
  · simp at hx
  · cases e
    have hk : (l ++ [(g, 63, cellsOf lP L ++ r)])[l.length]? = some (g, 63, cellsOf lP L ++ r) := by simp
    exact ⟨_, (s.1 _ _ _ _ hk).1⟩
theorem OutsR.own {w : World} {base : Nat} {v : Value} {M : List Ou} (h : OutsR w base v M) : ∃ n xs, w.ownsRow base 83 5 v n xs := by
  obtain ⟨C, _, hown, _⟩ := h
  exact ⟨_, _, hown⟩
/-- A block of another type, while Outs grow. -/
theorem Bk.grown {w w' : World} {base g n : Nat} {v : Value} {xs cs : List Value} {T : TypeId} (h : Bk w g T cs) (hown : w.ownsRow base 83 5 v n xs) (hT : 83 ≠ T) (gr : w.grownBy w' v.ownBlock) : Bk w' g T cs := by
  have hne : some g ≠ v.ownBlock := by
    intro e
    rcases hown.2 with ⟨rfl, _⟩ | ⟨g', cap, cur, rfl, _, hh, _⟩
    · cases e
    · have e' : g = g' := Option.some.inj e
      subst e'
      unfold Bk at h
      rw [h] at hh
      injection hh with q
      injection q with _ q
      exact hT q.symm
  exact (gr.block g h.lt hne).trans h
theorem grown_below {w0 w w' : World} {base n : Nat} {v : Value} {xs : List Value} (b : Below w0.heap.size w0 w) (hown : w.ownsRow base 83 5 v n xs) (gr : w.grownBy w' v.ownBlock) (hB : w0.heap.size ≤ base) : Below w0.heap.size w0 w' :=
  b.grown gr b.size (fun k hk => Nat.le_trans hB (World.ownsRow.lt hown k hk).1)
/-- Boxes of other types, while Outs grow. -/
theorem Hs.grownT {w wx wy : World} {l : List (Nat × TypeId × List Value)} {base n : Nat} {v : Value} {xs : List Value} (h : Hs w l wx) (hown : wx.ownsRow base 83 5 v n xs) (gr : wx.grownBy wy v.ownBlock) (hl : ∀ y ∈ l, 83 ≠ y.2.1) (hB : w.heap.size ≤ base := by exact Nat.le_refl _) : Hs w l wy := by
  have h' := hs_iff.1 h
  exact hs_iff.2 ⟨fun y hy => ⟨(h'.1 y hy).1.grown hown (hl y hy) gr, (h'.1 y hy).2⟩, h'.2.1, grown_below h.old hown gr hB⟩

end Go.Proofs.YtnmnihlhcokjpaaGreatDoor

/- What settling, and what a port holds, leaves of bounds; what a bridge does that took itself for the root. -/
namespace Go.Proofs.YtnmnihlhcokjpaaGreatDoor
set_option maxRecDepth 100000
open Go.ChangeShapes Go.WideShapes Go.ChangeAt Go.RowKit
set_option linter.unusedVariables false

theorem RowT.but {w w' : World} {D : Option Addr} {L : List Po} {g : Nat} {T : TypeId} {cs : List Value} (h : RowT w D L) (hb : Bk w g T cs) (hT : 63 ≠ T) (hh : ∀ k, k ≠ g → w'.heap[k]? = w.heap[k]?) : RowT w' D L :=
  h.imp id fun ⟨g', r, e, k⟩ => ⟨g', r, e, (hh g' (bk_ne k hb hT)).trans k⟩
theorem sel_bd {t : Th} {L : List Po} (hn : L.length ≤ 200) (ht : ThB t) (hb : ∀ x ∈ L, PoB x) : ThB (selectT t L) := by
  rcases sel_cases t L with ⟨_, e, _⟩ | ⟨j, p, hj, hbj, e, _⟩
  · rw [e]
    unfold ThB at *
    dsimp only
    omega
  · rw [e]
    have hP := hb p (List.mem_of_getElem? hj)
    have hjl := (bst_lt hbj).2
    unfold ThB PoB farI at *
    dsimp only at *
    omega
theorem late_no {rb : Bool} {u : Th} (h : (rb && (u.ro != u.ow)) = false) : lateT rb u = u ∧ ∀ n, lateO rb u n = [] := by
  have k : ¬ (rb = true ∧ u.ro ≠ u.ow) := fun ⟨h1, h2⟩ => by
    rw [h1, Bool.true_and] at h
    simp at h
    exact h2 h
  exact ⟨by unfold lateT; rw [if_neg k], fun n => by unfold lateO; rw [if_neg k]⟩
theorem late_yes {rb : Bool} {u : Th} (h : (rb && (u.ro != u.ow)) = true) : (lateT rb u = if u.de = true then { u with ho := false, hv := 0, zo := false, zv := 0, xo := true, xv := 0 } else { u with ho := false, hv := 0 }) ∧ ∀ n, lateO rb u n = if u.de = true then tcnR u n else [] := by
  have k : rb = true ∧ u.ro ≠ u.ow := by
    simp only [Bool.and_eq_true] at h
    exact ⟨h.1, by simpa using h.2⟩
  exact ⟨by unfold lateT; rw [if_pos k], fun n => by unfold lateO; rw [if_pos k]⟩
theorem unlike_set {L : List Po} {k : Nat} {p y : Po} (hU : Unlike L) (hp : L[k]? = some p) (hid : y.id = p.id) : Unlike (L.set k y) := by
  intro i j a b ha hb hn
  have g : ∀ (i : Nat) (a : Po), (L.set k y)[i]? = some a → ∃ a', L[i]? = some a' ∧ a'.id = a.id := fun i a h => by
    rw [List.getElem?_set] at h
    split at h
    · rename_i e
      subst e
      split at h
      · cases h; exact ⟨p, hp, hid.symm⟩
      · cases h
    · exact ⟨a, h, rfl⟩
  obtain ⟨a', h1, e1⟩ := g i a ha
  obtain ⟨b', h2, e2⟩ := g j b hb
  rw [← e1, ← e2]
  exact hU i j a' b' h1 h2 hn
theorem held_bd {p : Po} {x : Bq} (hp : PoB p) (hx : BqIn x) : PoB (heldP p x) := by
  unfold BqIn BpIn at hx
  unfold PoB heldP at *
  dsimp only at *
  omega
theorem settle_bd {t : Th} {L : List Po} (hn : L.length ≤ 200) (ht : ThB t) (hb : ∀ x ∈ L, PoB x) : ThB (settleR t L).1.1 := by
  have h := sel_bd hn ht hb
  obtain ⟨a, b, c, d⟩ := root_settle t L
  unfold ThB at *
  rw [a, b, c, d]
  exact h

end Go.Proofs.YtnmnihlhcokjpaaGreatDoor
