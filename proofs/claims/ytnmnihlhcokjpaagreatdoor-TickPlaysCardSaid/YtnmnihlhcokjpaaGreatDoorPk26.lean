/- Several texts in one, one behind the other: TreeRefStates. -/
import Derived.Test.YtnmnihlhcokjpaaGreatDoorPk25
import Derived.Test.YtnmnihlhcokjpaaGreatDoorPk04
import Derived.LoopTactic

/- The document's States: contract. -/
namespace Go.Proofs.YtnmnihlhcokjpaaGreatDoor
set_option maxRecDepth 100000
open Go.ChangeShapes Go.WideShapes Go.ChangeAt Go.RowKit
set_option linter.unusedVariables false
set_option linter.unusedSimpArgs false

def lostI (t : Th) (L : List Po) (k : Nat) : Int := if lostB t L k = true then 1 else 0
def StatesEnd (w : World) (t : Th) (n : Nat) (L : List Po) (e : Ending) (w' : World) : Prop := ∃ D cap, e = .returned (.tuple #[.agg (lT t D n cap).toArray, .int .i64 (lostI t L n)]) ∧ (D = none → cap = 0) ∧ TS w [] D (statesL t L) w'
/-- Rise and Block, as the document goes. -/
theorem rise_doc (p : Po) : riseP p = (if (rriseI p.st).2 = 1 then { p with st := (rriseI p.st).1, yo := true, yv := 0 } else { p with st := (rriseI p.st).1 }) := by
  unfold riseP rriseI
  by_cases h : p.st = 1
  · simp only [h, if_true]
  · simp only [if_neg h]
    rfl
theorem block_doc (p : Po) : blockP p = (if (rblockI p.st).2.1 = 1 then { p with st := (rblockI p.st).1, yo := false, yv := 0 } else { p with st := (rblockI p.st).1 }, decide ((rblockI p.st).2.2 = 1)) := by
  unfold blockP rblockI learnsB
  by_cases h : p.st = 0 ∨ p.st = 1
  · simp only [if_pos h]
    rfl
  · simp only [if_neg h]
    by_cases h2 : p.st = 3 ∨ p.st = 4
    · simp only [if_pos h2]
      rcases h2 with e | e <;> rw [e] <;> rfl
    · simp only [if_neg h2]
      have e1 : ¬ p.st = 3 := fun e => h2 (.inl e)
      have e2 : ¬ p.st = 4 := fun e => h2 (.inr e)
      simp [e1, e2]

set_option maxHeartbeats 4000000 in
theorem rstates_is (t : Th) (A : Option Addr) (n cap : Nat) (L : List Po) (hL : Hid (L.length = n)) (hf : n ≤ 200) (hc : Hid (A = none → cap = 0)) (w : World) (hp : Hid (PoAt w A w.heap.size L)) :
    Calls Tryz.prog 59 #[.agg (lT t A n cap).toArray] w (StatesEnd w t n L) := by
  obtain ⟨wb, hwb, S⟩ := hs_two w 31 31 (lT t A n cap) [.int .u64 0, .int .u64 0, .int .u32 0, .int .i64 0, .int .i64 0, .int .i64 0, .int .i64 0, .int .i64 0, .int .i64 0, .int .i64 0, .bool false, .bool false, .bool false, .int .i64 0, .bool false, .int .i64 0, .bool false, .int .i64 0, .slice none 0 0]
  go_enter Tryz.func59, Tryz.ntmps59
  go_upto_region 1 with fail
  clear hwb
  obtain ⟨X, hX⟩ : ∃ X, w.heap.size = X := ⟨_, rfl⟩
  rw [hX] at S
  obtain ⟨Y, hY⟩ : ∃ Y, X + 1 = Y := ⟨_, rfl⟩
  rw [hY] at S
  rw [hX]
  rw [hY]
  clear hX hY
  have hp1 := Lib.hid ((hp.out.below S.old (Nat.le_refl _)).wide S.old.size)
  have HC := Lib.hid (rcopied_is t A n cap L hL hf hc wb hp1)
  have hx := S.bk 1 rfl
  go_wp2_with (with_reducible refine wpList_load_row rfl 31 (.tmp 1) rfl X (by kernel_rfl) _ _ (0, 0) _ hx Tryz.underlying31 rfl (by kernel_rfl) ?_)
  (with_reducible refine HC.out.mono ?_); rintro e w1 ⟨D, cap', rfl, hz, k1⟩
  have S1 := TS.take S k1
  have HZ := Lib.hid hz
  clear S hx HC hp1 k1 hz
  have hx := S1.hs.bk 1 rfl
  go_upto_region 2 with (refine wpList_store_row rfl 31 _ _ rfl X _ rfl rfl _ _ hx (by kernel_rfl) (by kernel_rfl) (by kernel_rfl) ?_)
  have S2 : TS w [(Y, 31, [.int .u64 0, .int .u64 0, .int .u32 0, .int .i64 0, .int .i64 0, .int .i64 0, .int .i64 0, .int .i64 0, .int .i64 0, .int .i64 0, .bool false, .bool false, .bool false, .int .i64 0, .bool false, .int .i64 0, .bool false, .int .i64 0, .slice none 0 0]), (X, 31, lT t D n cap')] D L _ := S1.row 1 rfl (lT t D n cap')
  generalize w1.setRow X (lT t D n cap').toArray = w2 at S2 ⊢
  clear S1 hx
  go_wp2
  go_loopw [4, 5] (fun b i wr => ∃ k : Nat, k ≤ n ∧ i = .int .i64 k ∧ b = .int .i64 (lostI t L k) ∧ TS w [(Y, 31, [.int .u64 0, .int .u64 0, .int .u32 0, .int .i64 0, .int .i64 0, .int .i64 0, .int .i64 0, .int .i64 0, .int .i64 0, .int .i64 0, .bool false, .bool false, .bool false, .int .i64 0, .bool false, .int .i64 0, .bool false, .int .i64 0, .slice none 0 0]), (X, 31, lT t D n cap')] D (mixL (fun j p => (stP t j p).1) k L) wr) (fun b i _ => n - (intOf i).toNat)
  case atStart => exact ⟨0, Nat.zero_le _, rfl, rfl, by rw [mixL_zero]; exact S2⟩
  case round =>
    clear S2
    obtain ⟨k, hk, rfl, rfl, S⟩ := hrel
    have c18 := S.hs.cell 1 18 rfl rfl
    by_cases hkn : k < n
    · obtain ⟨x, hx⟩ := po_at hL.out hkn
      have hki : (k : Int) < (n : Int) := by omega
      have hkz : ¬ (n : Int) ≤ (k : Int) := by omega
      have HX := Lib.hid hx
      have HM := Lib.hid (mixL_at (f := fun j p => (stP t j p).1) hx)
      obtain ⟨g, hD, -⟩ := S.at HM.out
      subst hD
      clear hx
      have HML := Lib.hid (show (mixL (fun j p => (stP t j p).1) k L).length = n by rw [mixL_len, hL.out])
      go_upto_region 7 with fail
      clear c18
      have c3 := S.hs.cell 1 3 rfl rfl
      obtain ⟨d, hd⟩ : ∃ d, desB x t.ow = d := ⟨_, rfl⟩
      have HDD := Lib.hid hd
      clear hd
      by_cases hrp : (k : Int) = t.rp
      · have hb : ((k : Int) != t.rp) = false := by simp [hrp]
        have hb2 : ((k : Int) == t.rp) = true := by simp [hrp]
        have HRP := Lib.hid hrp
        clear hrp
        go_upto_region 9 with fail
        clear c3
        obtain ⟨_, e', _, _, hfz⟩ := S.at HM.out
        cases e'
        have p8 := S.port_cell HM.out 8 rfl
        have f8 := hfz (k * 15 + 8)
        have p7 := S.port_cell HM.out 7 rfl
        have f7 := hfz (k * 15 + 7)
        clear hfz
        go_upto_region 10 with fail
        have T2_0 := TS.put (y := ({ x with pe := false } : Po)) S HM.out 8 [.bool false] (by simp) rfl
        have HT2_0 : ((mixL (fun j p => (stP t j p).1) k L).set k ({ x with pe := false } : Po))[k]? = some ({ x with pe := false } : Po) := List.getElem?_set_self (by rw [HML.out]; exact hkn)
        have T2_1 := TS.put (y := ({ ({ x with pe := false } : Po) with ak := false } : Po)) T2_0 HT2_0 7 [.bool false] (by simp) rfl
        have HT2_1 : ((mixL (fun j p => (stP t j p).1) k L).set k ({ ({ x with pe := false } : Po) with ak := false } : Po))[k]? = some ({ ({ x with pe := false } : Po) with ak := false } : Po) := List.getElem?_set_self (by rw [HML.out]; exact hkn)
        rw [List.set_set] at T2_1
        have T2 : TS w [(Y, 31, [.int .u64 0, .int .u64 0, .int .u32 0, .int .i64 0, .int .i64 0, .int .i64 0, .int .i64 0, .int .i64 0, .int .i64 0, .int .i64 0, .bool false, .bool false, .bool false, .int .i64 0, .bool false, .int .i64 0, .bool false, .int .i64 0, .slice none 0 0]), (X, 31, lT t (some ⟨g, 0, none⟩) n cap')] (some ⟨g, 0, none⟩) ((mixL (fun j p => (stP t j p).1) k L).set k ({ x with pe := false, ak := false } : Po)) ((wr.setCell ⟨g, k * 15 + 8, none⟩ (.bool false)).setCell ⟨g, k * 15 + 7, none⟩ (.bool false)) := T2_1
        have HT2 := Lib.hid (show ((mixL (fun j p => (stP t j p).1) k L).set k ({ x with pe := false, ak := false } : Po))[k]? = some ({ x with pe := false, ak := false } : Po) from List.getElem?_set_self (by rw [HML.out]; exact hkn))
        generalize (wr.setCell ⟨g, k * 15 + 8, none⟩ (.bool false)).setCell ⟨g, k * 15 + 7, none⟩ (.bool false) = w2 at T2 ⊢
        clear p8 f8 p7 f7 T2_0 HT2_0 T2_1 HT2_1 S
        have c3 := T2.hs.cell 1 3 rfl rfl
        go_upto_region 11 with fail
        clear c3
        obtain ⟨a, b, hab⟩ : ∃ a b, rriseI (({ x with pe := false, ak := false } : Po)).st = (a, b) := ⟨_, _, rfl⟩
        have HRI := fun W => Lib.hid (rrise_is _ a b (Lib.hid hab) W)
        have HAB := Lib.hid hab
        have p1 : w2.cell? ⟨g, k * 15 + 1, none⟩ = some (.int .i64 (({ x with pe := false, ak := false } : Po)).st) := T2.port_cell HT2.out 1 rfl
        clear hab
        go_wp2_with fail
        (with_reducible refine (HRI _).out.mono ?_); rintro e v4 ⟨rfl, rfl⟩
        clear p1 HRI
        obtain ⟨_, e', _, _, hfz⟩ := T2.at HT2.out
        cases e'
        have p1 := T2.port_cell HT2.out 1 rfl
        have f1 := hfz (k * 15 + 1)
        clear hfz
        go_upto_region 13 with fail
        have T5_0 := TS.put (y := ({ ({ x with pe := false, ak := false } : Po) with st := a } : Po)) T2 HT2.out 1 [.int .i64 a] (by simp) rfl
        have HT5_0 : ((mixL (fun j p => (stP t j p).1) k L).set k ({ ({ x with pe := false, ak := false } : Po) with st := a } : Po))[k]? = some ({ ({ x with pe := false, ak := false } : Po) with st := a } : Po) := List.getElem?_set_self (by rw [HML.out]; exact hkn)
        rw [List.set_set] at T5_0
        have T5 : TS w [(Y, 31, [.int .u64 0, .int .u64 0, .int .u32 0, .int .i64 0, .int .i64 0, .int .i64 0, .int .i64 0, .int .i64 0, .int .i64 0, .int .i64 0, .bool false, .bool false, .bool false, .int .i64 0, .bool false, .int .i64 0, .bool false, .int .i64 0, .slice none 0 0]), (X, 31, lT t (some ⟨g, 0, none⟩) n cap')] (some ⟨g, 0, none⟩) ((mixL (fun j p => (stP t j p).1) k L).set k ({ (({ x with pe := false, ak := false } : Po)) with st := a } : Po)) (w2.setCell ⟨g, k * 15 + 1, none⟩ (.int .i64 a)) := T5_0
        have HT5 := Lib.hid (show ((mixL (fun j p => (stP t j p).1) k L).set k ({ (({ x with pe := false, ak := false } : Po)) with st := a } : Po))[k]? = some ({ (({ x with pe := false, ak := false } : Po)) with st := a } : Po) from List.getElem?_set_self (by rw [HML.out]; exact hkn))
        generalize w2.setCell ⟨g, k * 15 + 1, none⟩ (.int .i64 a) = w5 at T5 ⊢
        clear p1 f1 T5_0 HT5_0 T2
        have hr := rise_doc (({ x with pe := false, ak := false } : Po))
        rw [HAB.out] at hr
        dsimp only at hr
        by_cases hb : b = 1
        · subst hb
          rw [if_pos rfl] at hr
          obtain ⟨_, e', _, _, hfz⟩ := T5.at HT5.out
          cases e'
          have p11 := T5.port_cell HT5.out 11 rfl
          have f11 := hfz (k * 15 + 11)
          have p12 := T5.port_cell HT5.out 12 rfl
          have f12 := hfz (k * 15 + 12)
          clear hfz
          go_upto_region 5 with fail
          have T6_0 := TS.put (y := ({ ({ (({ x with pe := false, ak := false } : Po)) with st := a } : Po) with yo := true } : Po)) T5 HT5.out 11 [.bool true] (by simp) rfl
          have HT6_0 : ((mixL (fun j p => (stP t j p).1) k L).set k ({ ({ (({ x with pe := false, ak := false } : Po)) with st := a } : Po) with yo := true } : Po))[k]? = some ({ ({ (({ x with pe := false, ak := false } : Po)) with st := a } : Po) with yo := true } : Po) := List.getElem?_set_self (by rw [HML.out]; exact hkn)
          rw [List.set_set] at T6_0
          have T6_1 := TS.put (y := ({ ({ ({ (({ x with pe := false, ak := false } : Po)) with st := a } : Po) with yo := true } : Po) with yv := 0 } : Po)) T6_0 HT6_0 12 [.int .i64 0] (by simp) rfl
          have HT6_1 : ((mixL (fun j p => (stP t j p).1) k L).set k ({ ({ ({ (({ x with pe := false, ak := false } : Po)) with st := a } : Po) with yo := true } : Po) with yv := 0 } : Po))[k]? = some ({ ({ ({ (({ x with pe := false, ak := false } : Po)) with st := a } : Po) with yo := true } : Po) with yv := 0 } : Po) := List.getElem?_set_self (by rw [HML.out]; exact hkn)
          rw [List.set_set] at T6_1
          have T6 : TS w [(Y, 31, [.int .u64 0, .int .u64 0, .int .u32 0, .int .i64 0, .int .i64 0, .int .i64 0, .int .i64 0, .int .i64 0, .int .i64 0, .int .i64 0, .bool false, .bool false, .bool false, .int .i64 0, .bool false, .int .i64 0, .bool false, .int .i64 0, .slice none 0 0]), (X, 31, lT t (some ⟨g, 0, none⟩) n cap')] (some ⟨g, 0, none⟩) ((mixL (fun j p => (stP t j p).1) k L).set k ({ (({ x with pe := false, ak := false } : Po)) with st := a, yo := true, yv := 0 } : Po)) ((w5.setCell ⟨g, k * 15 + 11, none⟩ (.bool true)).setCell ⟨g, k * 15 + 12, none⟩ (.int .i64 0)) := T6_1
          have HT6 := Lib.hid (show ((mixL (fun j p => (stP t j p).1) k L).set k ({ (({ x with pe := false, ak := false } : Po)) with st := a, yo := true, yv := 0 } : Po))[k]? = some ({ (({ x with pe := false, ak := false } : Po)) with st := a, yo := true, yv := 0 } : Po) from List.getElem?_set_self (by rw [HML.out]; exact hkn))
          generalize (w5.setCell ⟨g, k * 15 + 11, none⟩ (.bool true)).setCell ⟨g, k * 15 + 12, none⟩ (.int .i64 0) = w6 at T6 ⊢
          clear p11 f11 p12 f12 T6_0 HT6_0 T6_1 HT6_1 T5
          have hst : stP t k x = (({ (({ x with pe := false, ak := false } : Po)) with st := a, yo := true, yv := 0 } : Po), false) := by unfold stP; rw [if_pos HRP.out]; show (riseP (owesP x), false) = _; rw [show owesP x = ({ x with pe := false, ak := false } : Po) from rfl]; rw [hr]
          have q : (mixL (fun j p => (stP t j p).1) k L).set k (({ (({ x with pe := false, ak := false } : Po)) with st := a, yo := true, yv := 0 } : Po)) = mixL (fun j p => (stP t j p).1) (k + 1) L := (congrArg (fun p : Po × Bool => (mixL (fun j p => (stP t j p).1) k L).set k p.1) hst.symm).trans (mixL_set (f := fun j p => (stP t j p).1) HX.out)
          have hl := lostB_step (t := t) HX.out
          rw [hst] at hl
          have HLI : Hid (lostI t L (k + 1) = lostI t L k) := Lib.hid (by unfold lostI; rw [hl]; simp only [Bool.or_false])
          have T9 := T6
          rw [q] at T9
          clear T6 q hst hl
          go_wp2
          go_roundw
          case rel => exact ⟨k + 1, by omega, by go_num, HLI.out.symm ▸ rfl, T9⟩
          case measure => simp [intOf]; omega
        · rw [if_neg hb] at hr
          have hb2 : (b == 1) = false := by simpa using hb
          clear hb
          have hst : stP t k x = (({ (({ x with pe := false, ak := false } : Po)) with st := a } : Po), false) := by unfold stP; rw [if_pos HRP.out]; show (riseP (owesP x), false) = _; rw [show owesP x = ({ x with pe := false, ak := false } : Po) from rfl]; rw [hr]
          have q : (mixL (fun j p => (stP t j p).1) k L).set k (({ (({ x with pe := false, ak := false } : Po)) with st := a } : Po)) = mixL (fun j p => (stP t j p).1) (k + 1) L := (congrArg (fun p : Po × Bool => (mixL (fun j p => (stP t j p).1) k L).set k p.1) hst.symm).trans (mixL_set (f := fun j p => (stP t j p).1) HX.out)
          have hl := lostB_step (t := t) HX.out
          rw [hst] at hl
          have HLI : Hid (lostI t L (k + 1) = lostI t L k) := Lib.hid (by unfold lostI; rw [hl]; simp only [Bool.or_false])
          have T9 := T5
          rw [q] at T9
          clear T5 q hst hl
          go_wp2
          go_roundw
          case rel => exact ⟨k + 1, by omega, by go_num, HLI.out.symm ▸ rfl, T9⟩
          case measure => simp [intOf]; omega
      · have hb : ((k : Int) != t.rp) = true := by simp [hrp]
        have hb2 : ((k : Int) == t.rp) = false := by simp [hrp]
        have HRP := Lib.hid hrp
        clear hrp
        have S0 := S
        clear S
        have HDS := Lib.hid (rdes_is t (some ⟨g, 0, none⟩) n cap' (mixL (fun j p => (stP t j p).1) k L) HML k x HM d (Lib.hid (HDD.out)) wr (Lib.hid S0.ports))
        have hx := S0.hs.bk 1 rfl
        go_wp2_with (with_reducible refine wpList_load_rowG (by kernel_rfl) 31 (.tmp 1) rfl X (by kernel_rfl) _ _ (0, 0) _ hx Tryz.underlying31 rfl (by kernel_rfl) ?_)
        (with_reducible refine HDS.out.mono ?_); rintro e v1 ⟨rfl, b2⟩
        have S := S0.below b2
        clear S0 HDS hx b2
        clear c3
        cases d with
        | true =>
          go_upto_region 8 with fail
          obtain ⟨_, e', _, _, hfz⟩ := S.at HM.out
          cases e'
          have p9 := S.port_cell HM.out 9 rfl
          have f9 := hfz (k * 15 + 9)
          have p10 := S.port_cell HM.out 10 rfl
          have f10 := hfz (k * 15 + 10)
          clear hfz
          go_upto_region 10 with fail
          have T2_0 := TS.put (y := ({ x with ao := false } : Po)) S HM.out 9 [.bool false] (by simp) rfl
          have HT2_0 : ((mixL (fun j p => (stP t j p).1) k L).set k ({ x with ao := false } : Po))[k]? = some ({ x with ao := false } : Po) := List.getElem?_set_self (by rw [HML.out]; exact hkn)
          have T2_1 := TS.put (y := ({ ({ x with ao := false } : Po) with av := 0 } : Po)) T2_0 HT2_0 10 [.int .i64 0] (by simp) rfl
          have HT2_1 : ((mixL (fun j p => (stP t j p).1) k L).set k ({ ({ x with ao := false } : Po) with av := 0 } : Po))[k]? = some ({ ({ x with ao := false } : Po) with av := 0 } : Po) := List.getElem?_set_self (by rw [HML.out]; exact hkn)
          rw [List.set_set] at T2_1
          have T2 : TS w [(Y, 31, [.int .u64 0, .int .u64 0, .int .u32 0, .int .i64 0, .int .i64 0, .int .i64 0, .int .i64 0, .int .i64 0, .int .i64 0, .int .i64 0, .bool false, .bool false, .bool false, .int .i64 0, .bool false, .int .i64 0, .bool false, .int .i64 0, .slice none 0 0]), (X, 31, lT t (some ⟨g, 0, none⟩) n cap')] (some ⟨g, 0, none⟩) ((mixL (fun j p => (stP t j p).1) k L).set k ({ x with ao := false, av := 0 } : Po)) ((v1.setCell ⟨g, k * 15 + 9, none⟩ (.bool false)).setCell ⟨g, k * 15 + 10, none⟩ (.int .i64 0)) := T2_1
          have HT2 := Lib.hid (show ((mixL (fun j p => (stP t j p).1) k L).set k ({ x with ao := false, av := 0 } : Po))[k]? = some ({ x with ao := false, av := 0 } : Po) from List.getElem?_set_self (by rw [HML.out]; exact hkn))
          generalize (v1.setCell ⟨g, k * 15 + 9, none⟩ (.bool false)).setCell ⟨g, k * 15 + 10, none⟩ (.int .i64 0) = w2 at T2 ⊢
          clear p9 f9 p10 f10 T2_0 HT2_0 T2_1 HT2_1 S
          have c3 := T2.hs.cell 1 3 rfl rfl
          have HDS := Lib.hid (rdes_is t (some ⟨g, 0, none⟩) n cap' ((mixL (fun j p => (stP t j p).1) k L).set k ({ x with ao := false, av := 0 } : Po)) (Lib.hid (show ((mixL (fun j p => (stP t j p).1) k L).set k ({ x with ao := false, av := 0 } : Po)).length = n by rw [List.length_set]; exact HML.out)) k ({ x with ao := false, av := 0 } : Po) HT2 true (Lib.hid (show desB x t.ow = _ from HDD.out)) w2 (Lib.hid T2.ports))
          have hx := T2.hs.bk 1 rfl
          go_wp2_with (with_reducible refine wpList_load_rowG (by kernel_rfl) 31 (.tmp 1) rfl X (by kernel_rfl) _ _ (0, 0) _ hx Tryz.underlying31 rfl (by kernel_rfl) ?_)
          (with_reducible refine HDS.out.mono ?_); rintro e w3 ⟨rfl, b2⟩
          have T3 := T2.below b2
          clear T2 HDS hx b2
          clear c3
          go_upto_region 11 with fail
          obtain ⟨a, b, hab⟩ : ∃ a b, rriseI (({ x with ao := false, av := 0 } : Po)).st = (a, b) := ⟨_, _, rfl⟩
          have HRI := fun W => Lib.hid (rrise_is _ a b (Lib.hid hab) W)
          have HAB := Lib.hid hab
          have p1 : w3.cell? ⟨g, k * 15 + 1, none⟩ = some (.int .i64 (({ x with ao := false, av := 0 } : Po)).st) := T3.port_cell HT2.out 1 rfl
          clear hab
          go_wp2_with fail
          (with_reducible refine (HRI _).out.mono ?_); rintro e v4 ⟨rfl, rfl⟩
          clear p1 HRI
          obtain ⟨_, e', _, _, hfz⟩ := T3.at HT2.out
          cases e'
          have p1 := T3.port_cell HT2.out 1 rfl
          have f1 := hfz (k * 15 + 1)
          clear hfz
          go_upto_region 13 with fail
          have T5_0 := TS.put (y := ({ ({ x with ao := false, av := 0 } : Po) with st := a } : Po)) T3 HT2.out 1 [.int .i64 a] (by simp) rfl
          have HT5_0 : ((mixL (fun j p => (stP t j p).1) k L).set k ({ ({ x with ao := false, av := 0 } : Po) with st := a } : Po))[k]? = some ({ ({ x with ao := false, av := 0 } : Po) with st := a } : Po) := List.getElem?_set_self (by rw [HML.out]; exact hkn)
          rw [List.set_set] at T5_0
          have T5 : TS w [(Y, 31, [.int .u64 0, .int .u64 0, .int .u32 0, .int .i64 0, .int .i64 0, .int .i64 0, .int .i64 0, .int .i64 0, .int .i64 0, .int .i64 0, .bool false, .bool false, .bool false, .int .i64 0, .bool false, .int .i64 0, .bool false, .int .i64 0, .slice none 0 0]), (X, 31, lT t (some ⟨g, 0, none⟩) n cap')] (some ⟨g, 0, none⟩) ((mixL (fun j p => (stP t j p).1) k L).set k ({ (({ x with ao := false, av := 0 } : Po)) with st := a } : Po)) (w3.setCell ⟨g, k * 15 + 1, none⟩ (.int .i64 a)) := T5_0
          have HT5 := Lib.hid (show ((mixL (fun j p => (stP t j p).1) k L).set k ({ (({ x with ao := false, av := 0 } : Po)) with st := a } : Po))[k]? = some ({ (({ x with ao := false, av := 0 } : Po)) with st := a } : Po) from List.getElem?_set_self (by rw [HML.out]; exact hkn))
          generalize w3.setCell ⟨g, k * 15 + 1, none⟩ (.int .i64 a) = w5 at T5 ⊢
          clear p1 f1 T5_0 HT5_0 T3
          have hr := rise_doc (({ x with ao := false, av := 0 } : Po))
          rw [HAB.out] at hr
          dsimp only at hr
          by_cases hb : b = 1
          · subst hb
            rw [if_pos rfl] at hr
            obtain ⟨_, e', _, _, hfz⟩ := T5.at HT5.out
            cases e'
            have p11 := T5.port_cell HT5.out 11 rfl
            have f11 := hfz (k * 15 + 11)
            have p12 := T5.port_cell HT5.out 12 rfl
            have f12 := hfz (k * 15 + 12)
            clear hfz
            go_upto_region 5 with fail
            have T6_0 := TS.put (y := ({ ({ (({ x with ao := false, av := 0 } : Po)) with st := a } : Po) with yo := true } : Po)) T5 HT5.out 11 [.bool true] (by simp) rfl
            have HT6_0 : ((mixL (fun j p => (stP t j p).1) k L).set k ({ ({ (({ x with ao := false, av := 0 } : Po)) with st := a } : Po) with yo := true } : Po))[k]? = some ({ ({ (({ x with ao := false, av := 0 } : Po)) with st := a } : Po) with yo := true } : Po) := List.getElem?_set_self (by rw [HML.out]; exact hkn)
            rw [List.set_set] at T6_0
            have T6_1 := TS.put (y := ({ ({ ({ (({ x with ao := false, av := 0 } : Po)) with st := a } : Po) with yo := true } : Po) with yv := 0 } : Po)) T6_0 HT6_0 12 [.int .i64 0] (by simp) rfl
            have HT6_1 : ((mixL (fun j p => (stP t j p).1) k L).set k ({ ({ ({ (({ x with ao := false, av := 0 } : Po)) with st := a } : Po) with yo := true } : Po) with yv := 0 } : Po))[k]? = some ({ ({ ({ (({ x with ao := false, av := 0 } : Po)) with st := a } : Po) with yo := true } : Po) with yv := 0 } : Po) := List.getElem?_set_self (by rw [HML.out]; exact hkn)
            rw [List.set_set] at T6_1
            have T6 : TS w [(Y, 31, [.int .u64 0, .int .u64 0, .int .u32 0, .int .i64 0, .int .i64 0, .int .i64 0, .int .i64 0, .int .i64 0, .int .i64 0, .int .i64 0, .bool false, .bool false, .bool false, .int .i64 0, .bool false, .int .i64 0, .bool false, .int .i64 0, .slice none 0 0]), (X, 31, lT t (some ⟨g, 0, none⟩) n cap')] (some ⟨g, 0, none⟩) ((mixL (fun j p => (stP t j p).1) k L).set k ({ (({ x with ao := false, av := 0 } : Po)) with st := a, yo := true, yv := 0 } : Po)) ((w5.setCell ⟨g, k * 15 + 11, none⟩ (.bool true)).setCell ⟨g, k * 15 + 12, none⟩ (.int .i64 0)) := T6_1
            have HT6 := Lib.hid (show ((mixL (fun j p => (stP t j p).1) k L).set k ({ (({ x with ao := false, av := 0 } : Po)) with st := a, yo := true, yv := 0 } : Po))[k]? = some ({ (({ x with ao := false, av := 0 } : Po)) with st := a, yo := true, yv := 0 } : Po) from List.getElem?_set_self (by rw [HML.out]; exact hkn))
            generalize (w5.setCell ⟨g, k * 15 + 11, none⟩ (.bool true)).setCell ⟨g, k * 15 + 12, none⟩ (.int .i64 0) = w6 at T6 ⊢
            clear p11 f11 p12 f12 T6_0 HT6_0 T6_1 HT6_1 T5
            have hst : stP t k x = (({ (({ x with ao := false, av := 0 } : Po)) with st := a, yo := true, yv := 0 } : Po), false) := by unfold stP; rw [if_neg HRP.out, if_pos HDD.out]; show (riseP (restP x), false) = _; rw [show restP x = ({ x with ao := false, av := 0 } : Po) from rfl]; rw [hr]
            have q : (mixL (fun j p => (stP t j p).1) k L).set k (({ (({ x with ao := false, av := 0 } : Po)) with st := a, yo := true, yv := 0 } : Po)) = mixL (fun j p => (stP t j p).1) (k + 1) L := (congrArg (fun p : Po × Bool => (mixL (fun j p => (stP t j p).1) k L).set k p.1) hst.symm).trans (mixL_set (f := fun j p => (stP t j p).1) HX.out)
            have hl := lostB_step (t := t) HX.out
            rw [hst] at hl
            have HLI : Hid (lostI t L (k + 1) = lostI t L k) := Lib.hid (by unfold lostI; rw [hl]; simp only [Bool.or_false])
            have T9 := T6
            rw [q] at T9
            clear T6 q hst hl
            go_wp2
            go_roundw
            case rel => exact ⟨k + 1, by omega, by go_num, HLI.out.symm ▸ rfl, T9⟩
            case measure => simp [intOf]; omega
          · rw [if_neg hb] at hr
            have hb2 : (b == 1) = false := by simpa using hb
            clear hb
            have hst : stP t k x = (({ (({ x with ao := false, av := 0 } : Po)) with st := a } : Po), false) := by unfold stP; rw [if_neg HRP.out, if_pos HDD.out]; show (riseP (restP x), false) = _; rw [show restP x = ({ x with ao := false, av := 0 } : Po) from rfl]; rw [hr]
            have q : (mixL (fun j p => (stP t j p).1) k L).set k (({ (({ x with ao := false, av := 0 } : Po)) with st := a } : Po)) = mixL (fun j p => (stP t j p).1) (k + 1) L := (congrArg (fun p : Po × Bool => (mixL (fun j p => (stP t j p).1) k L).set k p.1) hst.symm).trans (mixL_set (f := fun j p => (stP t j p).1) HX.out)
            have hl := lostB_step (t := t) HX.out
            rw [hst] at hl
            have HLI : Hid (lostI t L (k + 1) = lostI t L k) := Lib.hid (by unfold lostI; rw [hl]; simp only [Bool.or_false])
            have T9 := T5
            rw [q] at T9
            clear T5 q hst hl
            go_wp2
            go_roundw
            case rel => exact ⟨k + 1, by omega, by go_num, HLI.out.symm ▸ rfl, T9⟩
            case measure => simp [intOf]; omega
        | false =>
          go_upto_region 9 with fail
          obtain ⟨_, e', _, _, hfz⟩ := S.at HM.out
          cases e'
          have p8 := S.port_cell HM.out 8 rfl
          have f8 := hfz (k * 15 + 8)
          have p7 := S.port_cell HM.out 7 rfl
          have f7 := hfz (k * 15 + 7)
          clear hfz
          go_upto_region 10 with fail
          have T2_0 := TS.put (y := ({ x with pe := false } : Po)) S HM.out 8 [.bool false] (by simp) rfl
          have HT2_0 : ((mixL (fun j p => (stP t j p).1) k L).set k ({ x with pe := false } : Po))[k]? = some ({ x with pe := false } : Po) := List.getElem?_set_self (by rw [HML.out]; exact hkn)
          have T2_1 := TS.put (y := ({ ({ x with pe := false } : Po) with ak := false } : Po)) T2_0 HT2_0 7 [.bool false] (by simp) rfl
          have HT2_1 : ((mixL (fun j p => (stP t j p).1) k L).set k ({ ({ x with pe := false } : Po) with ak := false } : Po))[k]? = some ({ ({ x with pe := false } : Po) with ak := false } : Po) := List.getElem?_set_self (by rw [HML.out]; exact hkn)
          rw [List.set_set] at T2_1
          have T2 : TS w [(Y, 31, [.int .u64 0, .int .u64 0, .int .u32 0, .int .i64 0, .int .i64 0, .int .i64 0, .int .i64 0, .int .i64 0, .int .i64 0, .int .i64 0, .bool false, .bool false, .bool false, .int .i64 0, .bool false, .int .i64 0, .bool false, .int .i64 0, .slice none 0 0]), (X, 31, lT t (some ⟨g, 0, none⟩) n cap')] (some ⟨g, 0, none⟩) ((mixL (fun j p => (stP t j p).1) k L).set k ({ x with pe := false, ak := false } : Po)) ((v1.setCell ⟨g, k * 15 + 8, none⟩ (.bool false)).setCell ⟨g, k * 15 + 7, none⟩ (.bool false)) := T2_1
          have HT2 := Lib.hid (show ((mixL (fun j p => (stP t j p).1) k L).set k ({ x with pe := false, ak := false } : Po))[k]? = some ({ x with pe := false, ak := false } : Po) from List.getElem?_set_self (by rw [HML.out]; exact hkn))
          generalize (v1.setCell ⟨g, k * 15 + 8, none⟩ (.bool false)).setCell ⟨g, k * 15 + 7, none⟩ (.bool false) = w2 at T2 ⊢
          clear p8 f8 p7 f7 T2_0 HT2_0 T2_1 HT2_1 S
          have c3 := T2.hs.cell 1 3 rfl rfl
          have HDS := Lib.hid (rdes_is t (some ⟨g, 0, none⟩) n cap' ((mixL (fun j p => (stP t j p).1) k L).set k ({ x with pe := false, ak := false } : Po)) (Lib.hid (show ((mixL (fun j p => (stP t j p).1) k L).set k ({ x with pe := false, ak := false } : Po)).length = n by rw [List.length_set]; exact HML.out)) k ({ x with pe := false, ak := false } : Po) HT2 false (Lib.hid (show desB x t.ow = _ from HDD.out)) w2 (Lib.hid T2.ports))
          have hx := T2.hs.bk 1 rfl
          go_wp2_with (with_reducible refine wpList_load_rowG (by kernel_rfl) 31 (.tmp 1) rfl X (by kernel_rfl) _ _ (0, 0) _ hx Tryz.underlying31 rfl (by kernel_rfl) ?_)
          (with_reducible refine HDS.out.mono ?_); rintro e w3 ⟨rfl, b2⟩
          have T3 := T2.below b2
          clear T2 HDS hx b2
          clear c3
          go_upto_region 15 with fail
          obtain ⟨a, b, c, hab⟩ : ∃ a b c, rblockI ({ x with pe := false, ak := false } : Po).st = (a, b, c) := ⟨_, _, _, rfl⟩
          have HBI := fun W => Lib.hid (rblock_is _ a b c (Lib.hid hab) W)
          have HAB := Lib.hid hab
          have p1 : w3.cell? ⟨g, k * 15 + 1, none⟩ = some (.int .i64 ({ x with pe := false, ak := false } : Po).st) := T3.port_cell HT2.out 1 rfl
          clear hab
          go_wp2_with fail
          (with_reducible refine (HBI _).out.mono ?_); rintro e v4 ⟨rfl, rfl⟩
          clear p1 HBI
          obtain ⟨_, e', _, _, hfz⟩ := T3.at HT2.out
          cases e'
          have p1 := T3.port_cell HT2.out 1 rfl
          have f1 := hfz (k * 15 + 1)
          clear hfz
          go_upto_region 17 with fail
          have T5_0 := TS.put (y := ({ ({ x with pe := false, ak := false } : Po) with st := a } : Po)) T3 HT2.out 1 [.int .i64 a] (by simp) rfl
          have HT5_0 : ((mixL (fun j p => (stP t j p).1) k L).set k ({ ({ x with pe := false, ak := false } : Po) with st := a } : Po))[k]? = some ({ ({ x with pe := false, ak := false } : Po) with st := a } : Po) := List.getElem?_set_self (by rw [HML.out]; exact hkn)
          rw [List.set_set] at T5_0
          have T5 : TS w [(Y, 31, [.int .u64 0, .int .u64 0, .int .u32 0, .int .i64 0, .int .i64 0, .int .i64 0, .int .i64 0, .int .i64 0, .int .i64 0, .int .i64 0, .bool false, .bool false, .bool false, .int .i64 0, .bool false, .int .i64 0, .bool false, .int .i64 0, .slice none 0 0]), (X, 31, lT t (some ⟨g, 0, none⟩) n cap')] (some ⟨g, 0, none⟩) ((mixL (fun j p => (stP t j p).1) k L).set k ({ ({ x with pe := false, ak := false } : Po) with st := a } : Po)) (w3.setCell ⟨g, k * 15 + 1, none⟩ (.int .i64 a)) := T5_0
          have HT5 := Lib.hid (show ((mixL (fun j p => (stP t j p).1) k L).set k ({ ({ x with pe := false, ak := false } : Po) with st := a } : Po))[k]? = some ({ ({ x with pe := false, ak := false } : Po) with st := a } : Po) from List.getElem?_set_self (by rw [HML.out]; exact hkn))
          generalize w3.setCell ⟨g, k * 15 + 1, none⟩ (.int .i64 a) = w5 at T5 ⊢
          clear p1 f1 T5_0 HT5_0 T3
          have hr := block_doc ({ x with pe := false, ak := false } : Po)
          rw [HAB.out] at hr
          dsimp only at hr
          by_cases hbb : b = 1
          · subst hbb
            rw [if_pos rfl] at hr
            obtain ⟨_, e', _, _, hfz⟩ := T5.at HT5.out
            cases e'
            have p11 := T5.port_cell HT5.out 11 rfl
            have f11 := hfz (k * 15 + 11)
            have p12 := T5.port_cell HT5.out 12 rfl
            have f12 := hfz (k * 15 + 12)
            clear hfz
            go_upto_region 19 with fail
            have T6_0 := TS.put (y := ({ ({ ({ x with pe := false, ak := false } : Po) with st := a } : Po) with yo := false } : Po)) T5 HT5.out 11 [.bool false] (by simp) rfl
            have HT6_0 : ((mixL (fun j p => (stP t j p).1) k L).set k ({ ({ ({ x with pe := false, ak := false } : Po) with st := a } : Po) with yo := false } : Po))[k]? = some ({ ({ ({ x with pe := false, ak := false } : Po) with st := a } : Po) with yo := false } : Po) := List.getElem?_set_self (by rw [HML.out]; exact hkn)
            rw [List.set_set] at T6_0
            have T6_1 := TS.put (y := ({ ({ ({ ({ x with pe := false, ak := false } : Po) with st := a } : Po) with yo := false } : Po) with yv := 0 } : Po)) T6_0 HT6_0 12 [.int .i64 0] (by simp) rfl
            have HT6_1 : ((mixL (fun j p => (stP t j p).1) k L).set k ({ ({ ({ ({ x with pe := false, ak := false } : Po) with st := a } : Po) with yo := false } : Po) with yv := 0 } : Po))[k]? = some ({ ({ ({ ({ x with pe := false, ak := false } : Po) with st := a } : Po) with yo := false } : Po) with yv := 0 } : Po) := List.getElem?_set_self (by rw [HML.out]; exact hkn)
            rw [List.set_set] at T6_1
            have T6 : TS w [(Y, 31, [.int .u64 0, .int .u64 0, .int .u32 0, .int .i64 0, .int .i64 0, .int .i64 0, .int .i64 0, .int .i64 0, .int .i64 0, .int .i64 0, .bool false, .bool false, .bool false, .int .i64 0, .bool false, .int .i64 0, .bool false, .int .i64 0, .slice none 0 0]), (X, 31, lT t (some ⟨g, 0, none⟩) n cap')] (some ⟨g, 0, none⟩) ((mixL (fun j p => (stP t j p).1) k L).set k ({ ({ x with pe := false, ak := false } : Po) with st := a, yo := false, yv := 0 } : Po)) ((w5.setCell ⟨g, k * 15 + 11, none⟩ (.bool false)).setCell ⟨g, k * 15 + 12, none⟩ (.int .i64 0)) := T6_1
            have HT6 := Lib.hid (show ((mixL (fun j p => (stP t j p).1) k L).set k ({ ({ x with pe := false, ak := false } : Po) with st := a, yo := false, yv := 0 } : Po))[k]? = some ({ ({ x with pe := false, ak := false } : Po) with st := a, yo := false, yv := 0 } : Po) from List.getElem?_set_self (by rw [HML.out]; exact hkn))
            generalize (w5.setCell ⟨g, k * 15 + 11, none⟩ (.bool false)).setCell ⟨g, k * 15 + 12, none⟩ (.int .i64 0) = w6 at T6 ⊢
            clear p11 f11 p12 f12 T6_0 HT6_0 T6_1 HT6_1 T5
            by_cases hc1 : c = 1
            · subst hc1
              have hst : stP t k x = (({ ({ x with pe := false, ak := false } : Po) with st := a, yo := false, yv := 0 } : Po), decide ((1 : Int) = 1)) := by unfold stP; rw [if_neg HRP.out, if_neg (by rw [HDD.out]; decide)]; show blockP (owesP x) = _; rw [show owesP x = ({ x with pe := false, ak := false } : Po) from rfl, hr]
              have q : (mixL (fun j p => (stP t j p).1) k L).set k (({ ({ x with pe := false, ak := false } : Po) with st := a, yo := false, yv := 0 } : Po)) = mixL (fun j p => (stP t j p).1) (k + 1) L := (congrArg (fun p : Po × Bool => (mixL (fun j p => (stP t j p).1) k L).set k p.1) hst.symm).trans (mixL_set (f := fun j p => (stP t j p).1) HX.out)
              have hl := lostB_step (t := t) HX.out
              rw [hst] at hl
              have HLI : Hid (lostI t L (k + 1) = 1) := Lib.hid (by unfold lostI; rw [hl]; simp)
              have T9 := T6
              rw [q] at T9
              clear T6 q hst hl
              go_wp2
              go_roundw
              case rel => exact ⟨k + 1, by omega, by go_num, HLI.out.symm ▸ rfl, T9⟩
              case measure => simp [intOf]; omega
            · have hcb : (c == 1) = false := by simpa using hc1
              have hst : stP t k x = (({ ({ x with pe := false, ak := false } : Po) with st := a, yo := false, yv := 0 } : Po), decide (c = 1)) := by unfold stP; rw [if_neg HRP.out, if_neg (by rw [HDD.out]; decide)]; show blockP (owesP x) = _; rw [show owesP x = ({ x with pe := false, ak := false } : Po) from rfl, hr]
              have q : (mixL (fun j p => (stP t j p).1) k L).set k (({ ({ x with pe := false, ak := false } : Po) with st := a, yo := false, yv := 0 } : Po)) = mixL (fun j p => (stP t j p).1) (k + 1) L := (congrArg (fun p : Po × Bool => (mixL (fun j p => (stP t j p).1) k L).set k p.1) hst.symm).trans (mixL_set (f := fun j p => (stP t j p).1) HX.out)
              have hl := lostB_step (t := t) HX.out
              rw [hst] at hl
              have HLI : Hid (lostI t L (k + 1) = lostI t L k) := Lib.hid (by unfold lostI; rw [hl]; simp [hc1])
              have T9 := T6
              rw [q] at T9
              clear T6 q hst hl hc1
              go_wp2
              go_roundw
              case rel => exact ⟨k + 1, by omega, by go_num, HLI.out.symm ▸ rfl, T9⟩
              case measure => simp [intOf]; omega
          · rw [if_neg hbb] at hr
            have hbf : (b == 1) = false := by simpa using hbb
            clear hbb
            by_cases hc1 : c = 1
            · subst hc1
              have hst : stP t k x = (({ ({ x with pe := false, ak := false } : Po) with st := a } : Po), decide ((1 : Int) = 1)) := by unfold stP; rw [if_neg HRP.out, if_neg (by rw [HDD.out]; decide)]; show blockP (owesP x) = _; rw [show owesP x = ({ x with pe := false, ak := false } : Po) from rfl, hr]
              have q : (mixL (fun j p => (stP t j p).1) k L).set k (({ ({ x with pe := false, ak := false } : Po) with st := a } : Po)) = mixL (fun j p => (stP t j p).1) (k + 1) L := (congrArg (fun p : Po × Bool => (mixL (fun j p => (stP t j p).1) k L).set k p.1) hst.symm).trans (mixL_set (f := fun j p => (stP t j p).1) HX.out)
              have hl := lostB_step (t := t) HX.out
              rw [hst] at hl
              have HLI : Hid (lostI t L (k + 1) = 1) := Lib.hid (by unfold lostI; rw [hl]; simp)
              have T9 := T5
              rw [q] at T9
              clear T5 q hst hl
              go_wp2
              go_roundw
              case rel => exact ⟨k + 1, by omega, by go_num, HLI.out.symm ▸ rfl, T9⟩
              case measure => simp [intOf]; omega
            · have hcb : (c == 1) = false := by simpa using hc1
              have hst : stP t k x = (({ ({ x with pe := false, ak := false } : Po) with st := a } : Po), decide (c = 1)) := by unfold stP; rw [if_neg HRP.out, if_neg (by rw [HDD.out]; decide)]; show blockP (owesP x) = _; rw [show owesP x = ({ x with pe := false, ak := false } : Po) from rfl, hr]
              have q : (mixL (fun j p => (stP t j p).1) k L).set k (({ ({ x with pe := false, ak := false } : Po) with st := a } : Po)) = mixL (fun j p => (stP t j p).1) (k + 1) L := (congrArg (fun p : Po × Bool => (mixL (fun j p => (stP t j p).1) k L).set k p.1) hst.symm).trans (mixL_set (f := fun j p => (stP t j p).1) HX.out)
              have hl := lostB_step (t := t) HX.out
              rw [hst] at hl
              have HLI : Hid (lostI t L (k + 1) = lostI t L k) := Lib.hid (by unfold lostI; rw [hl]; simp [hc1])
              have T9 := T5
              rw [q] at T9
              clear T5 q hst hl hc1
              go_wp2
              go_roundw
              case rel => exact ⟨k + 1, by omega, by go_num, HLI.out.symm ▸ rfl, T9⟩
              case measure => simp [intOf]; omega
    · have hki : ¬ (k : Int) < (n : Int) := by omega
      have hke : k = n := by omega
      subst hke
      rw [mixL_all (by rw [hL.out]; exact Nat.le_refl _)] at S
      go_upto_region 21 with fail
      clear c18
      have hx := S.hs.bk 1 rfl
      have hy := S.hs.bk 0 rfl
      go_wp2_with (first | (with_reducible refine wpList_load_row rfl 31 (.tmp 1) rfl X (by kernel_rfl) _ _ (0, 0) _ hx Tryz.underlying31 rfl (by kernel_rfl) ?_) | (refine wpList_store_row rfl 31 _ _ rfl Y _ rfl rfl _ _ hy (by kernel_rfl) (by kernel_rfl) (by kernel_rfl) ?_))
      exact bodyPost_ret (v := .tuple #[.agg (lT t D k cap').toArray, .int .i64 (lostI t L k)]) (results_two rfl _ _ Y _ _ _ _ rfl _ rfl (setRow_heap _ _ _ _ _ _ hy) Tryz.underlying31 rfl (by kernel_rfl)) rfl ⟨D, cap', rfl, HZ.out, (S.row 0 rfl (lT t D k cap')).nobox⟩

end Go.Proofs.YtnmnihlhcokjpaaGreatDoor
