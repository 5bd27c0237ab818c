/- Several texts in one, one behind the other: TickBridge, PortNext, TickGoOn, TickLead, TreeUpdate. -/
import Derived.Test.YtnmnihlhcokjpaaGreatDoorPk12
import Derived.Test.YtnmnihlhcokjpaaGreatDoorPk11
import Derived.Test.YtnmnihlhcokjpaaGreatDoorPk13
import Derived.Test.YtnmnihlhcokjpaaGreatDoorPk02
import Derived.Deep.DeepCutAuto
import Derived.Test.YtnmnihlhcokjpaaGreatDoorPk05

/- ofBridge: contract. -/
namespace Go.Proofs.YtnmnihlhcokjpaaGreatDoor
set_option maxRecDepth 100000
open Go.ChangeShapes Go.WideShapes Go.ChangeAt Go.RowKit
set_option linter.unusedVariables false
set_option linter.unusedSimpArgs false

/-- The bridge's own timers, one behind the other. -/
def tkA (t : Th) : Th := { t with ho := (firO t.ho t.hv t.n2).1.1, hv := (firO t.ho t.hv t.n2).1.2 }
def tkC (t : Th) : Th := { tkA t with xo := (firO t.xo t.xv t.m2).1.1, xv := (firO t.xo t.xv t.m2).1.2 }
/-- What is due by them. -/
def bridgeR (t : Th) (M : List Po) : Tk := toldS (toldB t) (tcnS (tcnB' t) (helloS (hellB t) (tkT t, M)))
theorem box_out {X Y : Nat} {cs ds : List Value} {l : List (Nat × TypeId × List Value)} (h : ∀ y ∈ l, 83 ≠ y.2.1) : ∀ y ∈ (Y, 31, ds) :: (X, 31, cs) :: l, 83 ≠ y.2.1 := fun y hy => by
  rcases List.mem_cons.1 hy with rfl | q
  · dsimp only; decide
  · rcases List.mem_cons.1 q with rfl | q
    · dsimp only; decide
    · exact h y q
theorem tick1_is (t : Th) (L : List Po) : tick1 t L = bridgeR t (L.map (tkP t)) := rfl
set_option maxHeartbeats 4000000 in
theorem bridge_is {w W : World} {l : List (Nat × TypeId × List Value)} (t : Th) (D : Option Addr) (n c : Nat) (L : List Po) (hT : Hid (TkF t)) (hM : Hid (ThTm t)) (hl : Hid (∀ y ∈ l, 83 ≠ y.2.1)) (hL : Hid (L.length = n)) (hf : n ≤ 200) (ht : Hid (ThB t)) (hn : Hid (-9223372036854775808 ≤ t.n1 ∧ t.n1 ≤ 9223372036854775807 ∧ -9223372036854775808 ≤ t.n2 ∧ t.n2 ≤ 9223372036854775807 ∧ -9223372036854775808 ≤ t.n3 ∧ t.n3 ≤ 9223372036854775807)) (hb : Hid (∀ x ∈ L, PoB x)) (hc : Hid (D = none → c = 0)) (hd : Hd w) (hS : TS w l D L W) :
    Calls Tryz.prog 20 #[.agg (lT t D n c).toArray] W (StepEnd w l n W (bridgeR t L)) := by
  have HFT := Lib.hid hT.out
  obtain ⟨tm1, tm2, tm3⟩ := hM.out
  have HTM1 := Lib.hid tm1
  have HTM2 := Lib.hid tm2
  have HTM3 := Lib.hid tm3
  clear tm1 tm2 tm3
  obtain ⟨R, hR⟩ : ∃ R, bridgeR t L = R := ⟨_, rfl⟩
  rw [hR]
  have HR := Lib.hid hR
  clear hR
  obtain ⟨q1, hq1⟩ : ∃ q, hellB t = q := ⟨_, rfl⟩
  obtain ⟨q2, hq2⟩ : ∃ q, tcnB' t = q := ⟨_, rfl⟩
  obtain ⟨q3, hq3⟩ : ∃ q, toldB t = q := ⟨_, rfl⟩
  have HQ1 := Lib.hid hq1
  have HQ2 := Lib.hid hq2
  have HQ3 := Lib.hid hq3
  clear hq1 hq2 hq3
  have HD := Lib.hid hd
  clear hd
  obtain ⟨wb, hwb, S⟩ := TF.two hS 31 31 (lT t D n c) [.int .u64 0, .int .u64 0, .int .u32 0, .int .i64 0, .int .i64 0, .int .i64 0, .int .i64 0, .int .i64 0, .int .i64 0, .int .i64 0, .bool false, .bool false, .bool false, .int .i64 0, .bool false, .int .i64 0, .bool false, .int .i64 0, .slice none 0 0]
  have HSW := Lib.hid hS.old
  clear hS
  go_enter Tryz.func20, Tryz.ntmps20
  go_upto_region 1 with fail
  clear hwb
  obtain ⟨X, hX⟩ : ∃ q, W.heap.size = q := ⟨_, rfl⟩
  have HXW := Lib.hid (show W.heap.size ≤ X from Nat.le_of_eq hX)
  rw [hX] at S
  obtain ⟨Y, hY⟩ : ∃ q, X + 1 = q := ⟨_, rfl⟩
  have HYW := Lib.hid (show W.heap.size ≤ Y by rw [← hY]; exact Nat.le_succ_of_le HXW.out)
  rw [hY] at S
  rw [hX]
  rw [hY]
  clear hX hY
  have k5 := S.hs.cell 1 5 rfl rfl
  have HF := Lib.hid (fires_is X 12 t.ho t.hv t.n2 HTM1.out.1 HTM1.out.2.1 (by have := HFT.out; unfold TkF at this; omega) (by have := HFT.out; unfold TkF at this; omega) wb (S.hs.lt 1 rfl) (Lib.hid (S.hs.cell 1 12 rfl rfl)) (Lib.hid (S.hs.cell 1 13 rfl rfl)) (Lib.hid (S.hs.thaw 1 12 rfl)) (Lib.hid (S.hs.thaw 1 13 rfl)))
  go_wp2_with fail
  (with_reducible refine HF.out.mono ?_); rintro e w10 ⟨rfl, wm, bm, rfl⟩
  have Sm := S.below bm
  have Sr : TF w ((Y, 31, [.int .u64 0, .int .u64 0, .int .u32 0, .int .i64 0, .int .i64 0, .int .i64 0, .int .i64 0, .int .i64 0, .int .i64 0, .int .i64 0, .bool false, .bool false, .bool false, .int .i64 0, .bool false, .int .i64 0, .bool false, .int .i64 0, .slice none 0 0]) :: (X, 31, lT (tkA t) D n c) :: l) D L W ((wm.setCell ⟨X, 12, none⟩ (.bool (firO t.ho t.hv t.n2).1.1)).setCell ⟨X, 13, none⟩ (.int .i64 (firO t.ho t.hv t.n2).1.2)) := ((Sm).set 1 rfl 12 (.bool (firO t.ho t.hv t.n2).1.1) HXW.out).set 1 rfl 13 (.int .i64 (firO t.ho t.hv t.n2).1.2) HXW.out
  have e : ((firO t.ho t.hv t.n2)).2 = q1 := HQ1.out
  rw [e]
  clear e
  obtain ⟨w1, hw⟩ : ∃ y, wm.setCells X 12 [.bool (firO t.ho t.hv t.n2).1.1, .int .i64 (firO t.ho t.hv t.n2).1.2] = y := ⟨_, rfl⟩
  rw [hw]
  have S1 : TF w ((Y, 31, [.int .u64 0, .int .u64 0, .int .u32 0, .int .i64 0, .int .i64 0, .int .i64 0, .int .i64 0, .int .i64 0, .int .i64 0, .int .i64 0, .bool false, .bool false, .bool false, .int .i64 0, .bool false, .int .i64 0, .bool false, .int .i64 0, .slice none 0 0]) :: (X, 31, lT (tkA t) D n c) :: l) D L W w1 := by rw [← hw]; exact Sr
  clear hw Sr Sm bm HF S
  clear k5
  have k8 : w1.cell? ⟨X, 8, none⟩ = some (.int .i64 t.m2) := S1.hs.cell 1 8 rfl rfl
  have HF := Lib.hid (fires_is X 14 t.xo t.xv t.m2 HTM2.out.1 HTM2.out.2.1 (by have := HFT.out; unfold TkF at this; omega) (by have := HFT.out; unfold TkF at this; omega) w1 (S1.hs.lt 1 rfl) (Lib.hid (S1.hs.cell 1 14 rfl rfl)) (Lib.hid (S1.hs.cell 1 15 rfl rfl)) (Lib.hid (S1.hs.thaw 1 14 rfl)) (Lib.hid (S1.hs.thaw 1 15 rfl)))
  go_wp2_with fail
  (with_reducible refine HF.out.mono ?_); rintro e w20 ⟨rfl, wm, bm, rfl⟩
  have Sm := S1.below bm
  have Sr : TF w ((Y, 31, [.int .u64 0, .int .u64 0, .int .u32 0, .int .i64 0, .int .i64 0, .int .i64 0, .int .i64 0, .int .i64 0, .int .i64 0, .int .i64 0, .bool false, .bool false, .bool false, .int .i64 0, .bool false, .int .i64 0, .bool false, .int .i64 0, .slice none 0 0]) :: (X, 31, lT (tkC t) D n c) :: l) D L W ((wm.setCell ⟨X, 14, none⟩ (.bool (firO t.xo t.xv t.m2).1.1)).setCell ⟨X, 15, none⟩ (.int .i64 (firO t.xo t.xv t.m2).1.2)) := ((Sm).set 1 rfl 14 (.bool (firO t.xo t.xv t.m2).1.1) HXW.out).set 1 rfl 15 (.int .i64 (firO t.xo t.xv t.m2).1.2) HXW.out
  have e : ((firO t.xo t.xv t.m2)).2 = q2 := HQ2.out
  rw [e]
  clear e
  obtain ⟨w2, hw⟩ : ∃ y, wm.setCells X 14 [.bool (firO t.xo t.xv t.m2).1.1, .int .i64 (firO t.xo t.xv t.m2).1.2] = y := ⟨_, rfl⟩
  rw [hw]
  have S2 : TF w ((Y, 31, [.int .u64 0, .int .u64 0, .int .u32 0, .int .i64 0, .int .i64 0, .int .i64 0, .int .i64 0, .int .i64 0, .int .i64 0, .int .i64 0, .bool false, .bool false, .bool false, .int .i64 0, .bool false, .int .i64 0, .bool false, .int .i64 0, .slice none 0 0]) :: (X, 31, lT (tkC t) D n c) :: l) D L W w2 := by rw [← hw]; exact Sr
  clear hw Sr Sm bm HF S1
  clear k8
  have k7 : w2.cell? ⟨X, 7, none⟩ = some (.int .i64 t.m1) := S2.hs.cell 1 7 rfl rfl
  have k9 : w2.cell? ⟨X, 9, none⟩ = some (.int .i64 t.m3) := S2.hs.cell 1 9 rfl rfl
  have HSU := fun W => Lib.hid (sum_is t.m1 t.m3 (by have := HFT.out; unfold TkF at this; omega) (by have := HFT.out; unfold TkF at this; omega) W)
  have HF := Lib.hid (fires_is X 16 t.zo t.zv (t.m1 + t.m3) HTM3.out.1 HTM3.out.2.1 (by have := HFT.out; unfold TkF at this; omega) (by have := HFT.out; unfold TkF at this; omega) w2 (S2.hs.lt 1 rfl) (Lib.hid (S2.hs.cell 1 16 rfl rfl)) (Lib.hid (S2.hs.cell 1 17 rfl rfl)) (Lib.hid (S2.hs.thaw 1 16 rfl)) (Lib.hid (S2.hs.thaw 1 17 rfl)))
  go_wp2_with fail
  (with_reducible refine (HSU _).out.mono ?_); rintro e w3z ⟨rfl, rfl⟩
  go_wp2_with fail
  (with_reducible refine HF.out.mono ?_); rintro e w30 ⟨rfl, wm, bm, rfl⟩
  have Sm := S2.below bm
  have Sr : TF w ((Y, 31, [.int .u64 0, .int .u64 0, .int .u32 0, .int .i64 0, .int .i64 0, .int .i64 0, .int .i64 0, .int .i64 0, .int .i64 0, .int .i64 0, .bool false, .bool false, .bool false, .int .i64 0, .bool false, .int .i64 0, .bool false, .int .i64 0, .slice none 0 0]) :: (X, 31, lT (tkT t) D n c) :: l) D L W ((wm.setCell ⟨X, 16, none⟩ (.bool (firO t.zo t.zv (t.m1 + t.m3)).1.1)).setCell ⟨X, 17, none⟩ (.int .i64 (firO t.zo t.zv (t.m1 + t.m3)).1.2)) := ((Sm).set 1 rfl 16 (.bool (firO t.zo t.zv (t.m1 + t.m3)).1.1) HXW.out).set 1 rfl 17 (.int .i64 (firO t.zo t.zv (t.m1 + t.m3)).1.2) HXW.out
  have e : ((firO t.zo t.zv (t.m1 + t.m3))).2 = q3 := HQ3.out
  rw [e]
  clear e
  obtain ⟨w3, hw⟩ : ∃ y, wm.setCells X 16 [.bool (firO t.zo t.zv (t.m1 + t.m3)).1.1, .int .i64 (firO t.zo t.zv (t.m1 + t.m3)).1.2] = y := ⟨_, rfl⟩
  rw [hw]
  have S3 : TF w ((Y, 31, [.int .u64 0, .int .u64 0, .int .u32 0, .int .i64 0, .int .i64 0, .int .i64 0, .int .i64 0, .int .i64 0, .int .i64 0, .int .i64 0, .bool false, .bool false, .bool false, .int .i64 0, .bool false, .int .i64 0, .bool false, .int .i64 0, .slice none 0 0]) :: (X, 31, lT (tkT t) D n c) :: l) D L W w3 := by rw [← hw]; exact Sr
  clear hw Sr Sm bm HF S2
  clear k7 k9 HSU HTM1 HTM2 HTM3
  have HTB := Lib.hid (show ThB (tkT t) from ht.out)
  have HNB := Lib.hid (show (-9223372036854775808 ≤ (tkT t).n1 ∧ (tkT t).n1 ≤ 9223372036854775807 ∧ -9223372036854775808 ≤ (tkT t).n2 ∧ (tkT t).n2 ≤ 9223372036854775807 ∧ -9223372036854775808 ≤ (tkT t).n3 ∧ (tkT t).n3 ≤ 9223372036854775807) from hn.out)
  go_upto_if 27 with fail
  go_cut [7] (fun q wx => ∃ D1 c1, (D1 = none → c1 = 0) ∧ TF w ((Y, 31, [.int .u64 0, .int .u64 0, .int .u32 0, .int .i64 0, .int .i64 0, .int .i64 0, .int .i64 0, .int .i64 0, .int .i64 0, .int .i64 0, .bool false, .bool false, .bool false, .int .i64 0, .bool false, .int .i64 0, .bool false, .int .i64 0, .slice none 0 0]) :: (X, 31, lT (helloS q1 (tkT t, L)).1.1 D1 n c1) :: l) D1 (helloS q1 (tkT t, L)).1.2 W wx ∧ OutsR wx W.heap.size q (helloS q1 (tkT t, L)).2)
  case first =>
    cases q1 with
    | false =>
      go_wp2_with fail
      go_meet
      exact ⟨D, c, hc.out, S3, OutsR.nil _ _⟩
    | true =>
      have HC := Lib.hid (sall_ts (tkT t) D n c L hL hf HTB HNB hb hc w3 (HD.out.below S3.old (Nat.le_refl _)) (Lib.hid S3.ts.ports))
      rw [show n = L.length from hL.out.symm] at HC
      obtain ⟨A1, hA1⟩ : ∃ q, allR (tkT t) L L.length = q := ⟨_, rfl⟩
      rw [hA1] at HC
      rw [show L.length = n from hL.out] at HC
      have HA1 := Lib.hid hA1
      clear hA1
      have hx := S3.hs.bk 1 rfl
      go_wp2_with (with_reducible refine wpList_load_row rfl 31 (.tmp 1) rfl X (by kernel_rfl) _ _ (0, 0) _ hx Tryz.underlying31 rfl (by kernel_rfl) ?_)
      (with_reducible refine HC.out.mono ?_); rintro e w4 ⟨D2, c2, v3, rfl, hz2, k4, hQ⟩
      have S4 := S3.take k4
      have hO4 := hQ.mono S3.since
      have HZ2 := Lib.hid hz2
      clear S3 hx HC k4 hz2 hQ
      have hx := S4.hs.bk 1 rfl
      go_upto_region 7 with (refine wpList_store_row rfl 31 _ _ rfl X _ rfl rfl _ _ hx (by kernel_rfl) (by kernel_rfl) (by kernel_rfl) ?_)
      have S5 : TF w ((Y, 31, [.int .u64 0, .int .u64 0, .int .u32 0, .int .i64 0, .int .i64 0, .int .i64 0, .int .i64 0, .int .i64 0, .int .i64 0, .int .i64 0, .bool false, .bool false, .bool false, .int .i64 0, .bool false, .int .i64 0, .bool false, .int .i64 0, .slice none 0 0]) :: (X, 31, lT (tkT t) D2 n c2) :: l) D2 A1.1 W _ := S4.row 1 rfl (lT (tkT t) D2 n c2) HXW.out
      have hO5 := hO4.store S4.hs 1 rfl (lT (tkT t) D2 n c2).toArray
      generalize w4.setRow X (lT (tkT t) D2 n c2).toArray = w5 at S5 hO5 ⊢
      clear S4 hO4 hx
      go_wp2_with fail
      (with_reducible refine (start0 _).mono ?_); rintro e w6 ⟨rfl, b6⟩
      have S6 := S5.below b6
      have hO6 := hO5.below b6
      clear S5 hO5 b6
      have c12 := S6.hs.cell 1 12 rfl rfl
      have f12 := S6.hs.thaw 1 12 rfl
      have c13 := S6.hs.cell 1 13 rfl rfl
      have f13 := S6.hs.thaw 1 13 rfl
      go_wp2_with fail
      have S7 : TF w ((Y, 31, [.int .u64 0, .int .u64 0, .int .u32 0, .int .i64 0, .int .i64 0, .int .i64 0, .int .i64 0, .int .i64 0, .int .i64 0, .int .i64 0, .bool false, .bool false, .bool false, .int .i64 0, .bool false, .int .i64 0, .bool false, .int .i64 0, .slice none 0 0]) :: (X, 31, lT { tkT t with ho := true, hv := 0 } D2 n c2) :: l) D2 A1.1 W ((w6.setCell ⟨X, 12, none⟩ (.bool true)).setCell ⟨X, 13, none⟩ (.int .i64 0)) := ((S6).set 1 rfl 12 (.bool true) HXW.out).set 1 rfl 13 (.int .i64 0) HXW.out
      have hO7 := hO6.but (w' := (w6.setCell ⟨X, 12, none⟩ (.bool true)).setCell ⟨X, 13, none⟩ (.int .i64 0)) (S6.hs.1 1 _ _ _ rfl).1 (by decide) (by decide) (fun b hb => (Below.heap_setCell _ ⟨X, 13, none⟩ _ b hb).trans (Below.heap_setCell _ ⟨X, 12, none⟩ _ b hb))
      generalize (w6.setCell ⟨X, 12, none⟩ (.bool true)).setCell ⟨X, 13, none⟩ (.int .i64 0) = w7 at S7 hO7 ⊢
      clear S6 hO6 c12 f12 c13 f13 
      go_meet
      refine ⟨D2, c2, HZ2.out, ?_, ?_⟩
      · unfold helloS
        dsimp only
        rw [HA1.out]
        exact S7
      · unfold helloS
        dsimp only
        rw [HA1.out]
        exact hO7
  case rest =>
    obtain ⟨D1, c1, hz1, S4, hO4⟩ := hcut
    rename World => w4
    have HZ1 := Lib.hid hz1
    clear hz1
    obtain ⟨h1, hh1⟩ : ∃ q, helloS q1 (tkT t, L) = q := ⟨_, rfl⟩
    rw [hh1] at S4 hO4
    have HH1 := Lib.hid hh1
    have HB1 := Lib.hid (show ThB h1.1.1 by rw [← hh1]; unfold helloS; split; exact HTB.out; exact HTB.out)
    have HOL := Lib.hid (show h1.2.length ≤ n by rw [← hh1]; unfold helloS; split; rw [← hL.out]; exact (allR_bd (t := tkT t) hb.out _).2.1; exact Nat.zero_le _)
    have HPL := Lib.hid (show h1.1.2.length = n by rw [← hh1]; unfold helloS; split; exact (allR_bd (t := tkT t) hb.out _).1.trans hL.out; exact hL.out)
    clear hh1
    go_upto_if 35 with fail
    go_cut [7] (fun q wx => TF w ((Y, 31, [.int .u64 0, .int .u64 0, .int .u32 0, .int .i64 0, .int .i64 0, .int .i64 0, .int .i64 0, .int .i64 0, .int .i64 0, .int .i64 0, .bool false, .bool false, .bool false, .int .i64 0, .bool false, .int .i64 0, .bool false, .int .i64 0, .slice none 0 0]) :: (X, 31, lT (tcnS q2 h1).1.1 D1 n c1) :: l) D1 h1.1.2 W wx ∧ OutsR wx W.heap.size q (tcnS q2 h1).2)
    case first =>
      cases q2 with
      | false =>
        go_wp2_with fail
        go_meet
        exact ⟨S4, hO4⟩
      | true =>
        have HC := Lib.hid (stcn_is h1.1.1 D1 n c1 HB1 w4 (HD.out.below S4.old (Nat.le_refl _)))
        obtain ⟨A2, hA2⟩ : ∃ q, tcnR h1.1.1 n = q := ⟨_, rfl⟩
        have HTL := Lib.hid (show A2.length ≤ 1 by rw [← hA2]; exact tcn_few _ _)
        rw [hA2] at HC
        have HA2 := Lib.hid hA2
        clear hA2
        have hx := S4.hs.bk 1 rfl
        go_wp2_with (with_reducible refine wpList_load_row rfl 31 (.tmp 1) rfl X (by kernel_rfl) _ _ (0, 0) _ hx Tryz.underlying31 rfl (by kernel_rfl) ?_)
        (with_reducible refine HC.out.mono ?_); rintro e w5 ⟨v3, rfl, hQ, b5⟩
        have S5 := S4.below b5
        have hO5 := hO4.below b5
        have HWQ := Lib.hid S4.since
        clear S4 hO4 hx HC b5
        have hlen : h1.2.length + A2.length ≤ 100000 := by have h1 := HOL.out; have h2 := HTL.out; omega
        obtain ⟨_, _, hown⟩ := hO5.own
        go_wp2_with (at_builtin; go_loud (refine append_outs _ rfl (.tmp 36) (.tmp 38) rfl W.heap.size w4.heap.size u7 v3 h1.2 A2 rfl rfl hO5 hQ HWQ.out hlen S5.since w5 (Below.refl _ _) ?_); intro v' w6 hO6 _ gr; have S6 := S5.grown hown gr (box_out hl.out) HSW.out.size (Nat.le_refl _); clear S5 hO5 hQ hown gr)
        (with_reducible refine (start0 _).mono ?_); rintro e w7 ⟨rfl, b7⟩
        have S7 := S6.below b7
        have hO7 := hO6.below b7
        clear S6 hO6 b7
        have c14 := S7.hs.cell 1 14 rfl rfl
        have f14 := S7.hs.thaw 1 14 rfl
        have c15 := S7.hs.cell 1 15 rfl rfl
        have f15 := S7.hs.thaw 1 15 rfl
        go_wp2_with fail
        have S8 : TF w ((Y, 31, [.int .u64 0, .int .u64 0, .int .u32 0, .int .i64 0, .int .i64 0, .int .i64 0, .int .i64 0, .int .i64 0, .int .i64 0, .int .i64 0, .bool false, .bool false, .bool false, .int .i64 0, .bool false, .int .i64 0, .bool false, .int .i64 0, .slice none 0 0]) :: (X, 31, lT { h1.1.1 with xo := true, xv := 0 } D1 n c1) :: l) D1 h1.1.2 W ((w7.setCell ⟨X, 14, none⟩ (.bool true)).setCell ⟨X, 15, none⟩ (.int .i64 0)) := ((S7).set 1 rfl 14 (.bool true) HXW.out).set 1 rfl 15 (.int .i64 0) HXW.out
        have hO8 := hO7.but (w' := (w7.setCell ⟨X, 14, none⟩ (.bool true)).setCell ⟨X, 15, none⟩ (.int .i64 0)) (S7.hs.1 1 _ _ _ rfl).1 (by decide) (by decide) (fun b hb => (Below.heap_setCell _ ⟨X, 15, none⟩ _ b hb).trans (Below.heap_setCell _ ⟨X, 14, none⟩ _ b hb))
        generalize (w7.setCell ⟨X, 14, none⟩ (.bool true)).setCell ⟨X, 15, none⟩ (.int .i64 0) = w8 at S8 hO8 ⊢
        clear S7 hO7 c14 f14 c15 f15 
        go_meet
        refine ⟨?_, ?_⟩
        · exact S8
        · unfold tcnS
          dsimp only
          rw [HPL.out, HA2.out]
          exact hO8
    case rest =>
      obtain ⟨S5, hO5⟩ := hcut
      rename World => w5
      clear S4 hO4
      obtain ⟨h2, hh2⟩ : ∃ q, tcnS q2 h1 = q := ⟨_, rfl⟩
      have hr := HR.out
      unfold bridgeR at hr
      rw [HQ1.out, HQ2.out, HQ3.out, HH1.out, hh2] at hr
      have e12 : h1.1.2 = h2.1.2 := by rw [← hh2]; unfold tcnS; split <;> rfl
      rw [hh2] at S5 hO5
      rw [e12] at S5
      clear hh2 e12
      subst hr
      cases q3 with
      | false =>
        have hx := S5.hs.bk 1 rfl
        have hy := S5.hs.bk 0 rfl
        have SF := S5.row 0 rfl (lT h2.1.1 D1 n c1) HYW.out
        have hyF := SF.hs.bk 0 rfl
        have hOF := hO5.store S5.hs 0 rfl (lT h2.1.1 D1 n c1).toArray
        go_wp2_with (first | (with_reducible refine wpList_load_row rfl 31 (.tmp 1) rfl X (by kernel_rfl) _ _ (0, 0) _ hx Tryz.underlying31 rfl (by kernel_rfl) ?_) | (refine wpList_store_row rfl 31 _ _ rfl Y _ rfl rfl _ _ hy (by kernel_rfl) (by kernel_rfl) (by kernel_rfl) ?_))
        exact bodyPost_ret (v := .tuple #[.agg (lT h2.1.1 D1 n c1).toArray, u7]) (results_two rfl _ _ Y _ _ _ _ rfl _ rfl hyF Tryz.underlying31 rfl (by kernel_rfl)) rfl ⟨D1, c1, _, rfl, HZ1.out, SF.tail.tail.ts, hOF, SF.2⟩
      | true =>
        have c10 := S5.hs.cell 1 10 rfl rfl
        have f10 := S5.hs.thaw 1 10 rfl
        have c11 := S5.hs.cell 1 11 rfl rfl
        have f11 := S5.hs.thaw 1 11 rfl
        go_upto_region 13 with fail
        have S6 : TF w ((Y, 31, [.int .u64 0, .int .u64 0, .int .u32 0, .int .i64 0, .int .i64 0, .int .i64 0, .int .i64 0, .int .i64 0, .int .i64 0, .int .i64 0, .bool false, .bool false, .bool false, .int .i64 0, .bool false, .int .i64 0, .bool false, .int .i64 0, .slice none 0 0]) :: (X, 31, lT { h2.1.1 with de := false, ch := false } D1 n c1) :: l) D1 h2.1.2 W ((w5.setCell ⟨X, 10, none⟩ (.bool false)).setCell ⟨X, 11, none⟩ (.bool false)) := ((S5).set 1 rfl 10 (.bool false) HXW.out).set 1 rfl 11 (.bool false) HXW.out
        have hO6 := hO5.but (w' := (w5.setCell ⟨X, 10, none⟩ (.bool false)).setCell ⟨X, 11, none⟩ (.bool false)) (S5.hs.1 1 _ _ _ rfl).1 (by decide) (by decide) (fun b hb => (Below.heap_setCell _ ⟨X, 11, none⟩ _ b hb).trans (Below.heap_setCell _ ⟨X, 10, none⟩ _ b hb))
        generalize (w5.setCell ⟨X, 10, none⟩ (.bool false)).setCell ⟨X, 11, none⟩ (.bool false) = w6 at S6 hO6 ⊢
        clear S5 hO5 c10 f10 c11 f11 
        have hx := S6.hs.bk 1 rfl
        have hy := S6.hs.bk 0 rfl
        have SF := S6.row 0 rfl (lT { h2.1.1 with de := false, ch := false } D1 n c1) HYW.out
        have hyF := SF.hs.bk 0 rfl
        have hOF := hO6.store S6.hs 0 rfl (lT { h2.1.1 with de := false, ch := false } D1 n c1).toArray
        go_wp2_with (first | (with_reducible refine wpList_load_row rfl 31 (.tmp 1) rfl X (by kernel_rfl) _ _ (0, 0) _ hx Tryz.underlying31 rfl (by kernel_rfl) ?_) | (refine wpList_store_row rfl 31 _ _ rfl Y _ rfl rfl _ _ hy (by kernel_rfl) (by kernel_rfl) (by kernel_rfl) ?_))
        exact bodyPost_ret (v := .tuple #[.agg (lT { h2.1.1 with de := false, ch := false } D1 n c1).toArray, u7]) (results_two rfl _ _ Y _ _ _ _ rfl _ rfl hyF Tryz.underlying31 rfl (by kernel_rfl)) rfl ⟨D1, c1, _, rfl, HZ1.out, SF.tail.tail.ts, hOF, SF.2⟩

end Go.Proofs.YtnmnihlhcokjpaaGreatDoor

/- Learns, Forwards, Designated, Next, Block: contracts. -/
namespace Go.Proofs.YtnmnihlhcokjpaaGreatDoor
set_option maxRecDepth 100000
open Go.ChangeShapes Go.WideShapes Go.ChangeAt Go.RowKit
set_option linter.unusedVariables false

theorem next_stays (p : Po) (h2 : ¬ p.st = 2) (h3 : ¬ p.st = 3) (w : World) :
    Calls Tryz.prog 82 #[.agg #[.int .u16 p.id, .int .i64 p.st, .int .u32 p.co, .int .u64 p.hr, .int .u32 p.hc, .int .u64 p.hb, .int .u16 p.hp, .bool p.ak, .bool p.pe, .bool p.ao, .int .i64 p.av, .bool p.yo, .int .i64 p.yv, .bool p.ho, .int .i64 p.hv]] w fun e w' => e = .returned (.tuple #[.agg #[.int .u16 p.id, .int .i64 p.st, .int .u32 p.co, .int .u64 p.hr, .int .u32 p.hc, .int .u64 p.hb, .int .u16 p.hp, .bool p.ak, .bool p.pe, .bool p.ao, .int .i64 p.av, .bool p.yo, .int .i64 p.yv, .bool p.ho, .int .i64 p.hv], .bool false]) ∧ Below w.heap.size w w' := by
  have b2 : (p.st == 2) = false := by simpa using h2
  have b3 : (p.st == 3) = false := by simpa using h3
  obtain ⟨wb, hwb, S⟩ := hs_two w 63 63 [.int .u16 p.id, .int .i64 p.st, .int .u32 p.co, .int .u64 p.hr, .int .u32 p.hc, .int .u64 p.hb, .int .u16 p.hp, .bool p.ak, .bool p.pe, .bool p.ao, .int .i64 p.av, .bool p.yo, .int .i64 p.yv, .bool p.ho, .int .i64 p.hv] [.int .u16 0, .int .i64 0, .int .u32 0, .int .u64 0, .int .u32 0, .int .u64 0, .int .u16 0, .bool false, .bool false, .bool false, .int .i64 0, .bool false, .int .i64 0, .bool false, .int .i64 0]
  go_enter Tryz.func82, Tryz.ntmps82
  go_upto_region 1 with fail
  clear hwb
  obtain ⟨X, hX⟩ : ∃ X, w.heap.size = X := ⟨_, rfl⟩
  rw [hX] at S ⊢
  obtain ⟨Y, hY⟩ : ∃ Y, X + 1 = Y := ⟨_, rfl⟩
  rw [hY] at S ⊢
  have c1 := S.cell 1 1 rfl rfl
  have hx := S.bk 1 rfl
  have hy := S.bk 0 rfl
  go_wp2_with (first | (refine wpList_load_row rfl 63 _ rfl X rfl _ _ (0, 0) _ hx Tryz.underlying63 rfl (by kernel_rfl) ?_) | (refine wpList_store_row rfl 63 _ _ rfl Y _ rfl rfl _ _ hy (by kernel_rfl) (by kernel_rfl) (by kernel_rfl) ?_))
  exact bodyPost_ret (v := .tuple #[.agg #[.int .u16 p.id, .int .i64 p.st, .int .u32 p.co, .int .u64 p.hr, .int .u32 p.hc, .int .u64 p.hb, .int .u16 p.hp, .bool p.ak, .bool p.pe, .bool p.ao, .int .i64 p.av, .bool p.yo, .int .i64 p.yv, .bool p.ho, .int .i64 p.hv], .bool false]) (results_two rfl _ _ Y _ _ _ _ rfl _ rfl (setRow_heap _ _ _ _ _ _ hy) Tryz.underlying63 rfl (by kernel_rfl)) rfl ⟨rfl, (S.row 0 rfl [.int .u16 p.id, .int .i64 p.st, .int .u32 p.co, .int .u64 p.hr, .int .u32 p.hc, .int .u64 p.hb, .int .u16 p.hp, .bool p.ak, .bool p.pe, .bool p.ao, .int .i64 p.av, .bool p.yo, .int .i64 p.yv, .bool p.ho, .int .i64 p.hv]).old⟩

theorem next_two (p : Po) (w : World) :
    Calls Tryz.prog 82 #[.agg #[.int .u16 p.id, .int .i64 2, .int .u32 p.co, .int .u64 p.hr, .int .u32 p.hc, .int .u64 p.hb, .int .u16 p.hp, .bool p.ak, .bool p.pe, .bool p.ao, .int .i64 p.av, .bool p.yo, .int .i64 p.yv, .bool p.ho, .int .i64 p.hv]] w fun e w' => e = .returned (.tuple #[.agg #[.int .u16 p.id, .int .i64 3, .int .u32 p.co, .int .u64 p.hr, .int .u32 p.hc, .int .u64 p.hb, .int .u16 p.hp, .bool p.ak, .bool p.pe, .bool p.ao, .int .i64 p.av, .bool true, .int .i64 0, .bool p.ho, .int .i64 p.hv], .bool false]) ∧ Below w.heap.size w w' := by
  obtain ⟨wb, hwb, S⟩ := hs_two w 63 63 [.int .u16 p.id, .int .i64 2, .int .u32 p.co, .int .u64 p.hr, .int .u32 p.hc, .int .u64 p.hb, .int .u16 p.hp, .bool p.ak, .bool p.pe, .bool p.ao, .int .i64 p.av, .bool p.yo, .int .i64 p.yv, .bool p.ho, .int .i64 p.hv] [.int .u16 0, .int .i64 0, .int .u32 0, .int .u64 0, .int .u32 0, .int .u64 0, .int .u16 0, .bool false, .bool false, .bool false, .int .i64 0, .bool false, .int .i64 0, .bool false, .int .i64 0]
  go_enter Tryz.func82, Tryz.ntmps82
  go_upto_region 1 with fail
  clear hwb
  obtain ⟨X, hX⟩ : ∃ X, w.heap.size = X := ⟨_, rfl⟩
  rw [hX] at S ⊢
  obtain ⟨Y, hY⟩ : ∃ Y, X + 1 = Y := ⟨_, rfl⟩
  rw [hY] at S ⊢
  have c1 := S.cell 1 1 rfl rfl
  have f1 := S.thaw 1 1 rfl
  go_wp2_with fail
  have S1 := S.set 1 rfl 1 (.int .i64 3)
  simp only [List.set] at S1
  (with_reducible refine (start0 _).mono ?_); rintro e w1 ⟨rfl, b1⟩
  have S2 := S1.below b1
  clear S S1 b1 c1 f1
  have d11 := S2.cell 1 11 rfl rfl
  have d12 := S2.cell 1 12 rfl rfl
  have f11 := S2.thaw 1 11 rfl
  have f12 := S2.thaw 1 12 rfl
  go_upto_region 8 with fail
  have S3 := (S2.set 1 rfl 11 (.bool true)).set 1 rfl 12 (.int .i64 0)
  simp only [List.set] at S3
  generalize (w1.setCell ⟨X, 11, none⟩ (.bool true)).setCell ⟨X, 12, none⟩ (.int .i64 0) = w2 at S3 ⊢
  clear S2 d11 d12 f11 f12
  have hx := S3.bk 1 rfl
  have hy := S3.bk 0 rfl
  go_wp2_with (first | (refine wpList_load_row rfl 63 _ rfl X rfl _ _ (0, 0) _ hx Tryz.underlying63 rfl (by kernel_rfl) ?_) | (refine wpList_store_row rfl 63 _ _ rfl Y _ rfl rfl _ _ hy (by kernel_rfl) (by kernel_rfl) (by kernel_rfl) ?_))
  exact bodyPost_ret (v := .tuple #[.agg #[.int .u16 p.id, .int .i64 3, .int .u32 p.co, .int .u64 p.hr, .int .u32 p.hc, .int .u64 p.hb, .int .u16 p.hp, .bool p.ak, .bool p.pe, .bool p.ao, .int .i64 p.av, .bool true, .int .i64 0, .bool p.ho, .int .i64 p.hv], .bool false]) (results_two rfl _ _ Y _ _ _ _ rfl _ rfl (setRow_heap _ _ _ _ _ _ hy) Tryz.underlying63 rfl (by kernel_rfl)) rfl ⟨rfl, (S3.row 0 rfl [.int .u16 p.id, .int .i64 3, .int .u32 p.co, .int .u64 p.hr, .int .u32 p.hc, .int .u64 p.hb, .int .u16 p.hp, .bool p.ak, .bool p.pe, .bool p.ao, .int .i64 p.av, .bool true, .int .i64 0, .bool p.ho, .int .i64 p.hv]).old⟩

theorem next_three (p : Po) (w : World) :
    Calls Tryz.prog 82 #[.agg #[.int .u16 p.id, .int .i64 3, .int .u32 p.co, .int .u64 p.hr, .int .u32 p.hc, .int .u64 p.hb, .int .u16 p.hp, .bool p.ak, .bool p.pe, .bool p.ao, .int .i64 p.av, .bool p.yo, .int .i64 p.yv, .bool p.ho, .int .i64 p.hv]] w fun e w' => e = .returned (.tuple #[.agg #[.int .u16 p.id, .int .i64 4, .int .u32 p.co, .int .u64 p.hr, .int .u32 p.hc, .int .u64 p.hb, .int .u16 p.hp, .bool p.ak, .bool p.pe, .bool p.ao, .int .i64 p.av, .bool p.yo, .int .i64 p.yv, .bool p.ho, .int .i64 p.hv], .bool true]) ∧ Below w.heap.size w w' := by
  obtain ⟨wb, hwb, S⟩ := hs_two w 63 63 [.int .u16 p.id, .int .i64 3, .int .u32 p.co, .int .u64 p.hr, .int .u32 p.hc, .int .u64 p.hb, .int .u16 p.hp, .bool p.ak, .bool p.pe, .bool p.ao, .int .i64 p.av, .bool p.yo, .int .i64 p.yv, .bool p.ho, .int .i64 p.hv] [.int .u16 0, .int .i64 0, .int .u32 0, .int .u64 0, .int .u32 0, .int .u64 0, .int .u16 0, .bool false, .bool false, .bool false, .int .i64 0, .bool false, .int .i64 0, .bool false, .int .i64 0]
  go_enter Tryz.func82, Tryz.ntmps82
  go_upto_region 1 with fail
  clear hwb
  obtain ⟨X, hX⟩ : ∃ X, w.heap.size = X := ⟨_, rfl⟩
  rw [hX] at S ⊢
  obtain ⟨Y, hY⟩ : ∃ Y, X + 1 = Y := ⟨_, rfl⟩
  rw [hY] at S ⊢
  have c1 := S.cell 1 1 rfl rfl
  have f1 := S.thaw 1 1 rfl
  go_upto_region 7 with fail
  have S3 := S.set 1 rfl 1 (.int .i64 4)
  simp only [List.set] at S3
  generalize wb.setCell ⟨X, 1, none⟩ (.int .i64 4) = w2 at S3 ⊢
  clear S c1 f1
  have hx := S3.bk 1 rfl
  have hy := S3.bk 0 rfl
  go_wp2_with (first | (refine wpList_load_row rfl 63 _ rfl X rfl _ _ (0, 0) _ hx Tryz.underlying63 rfl (by kernel_rfl) ?_) | (refine wpList_store_row rfl 63 _ _ rfl Y _ rfl rfl _ _ hy (by kernel_rfl) (by kernel_rfl) (by kernel_rfl) ?_))
  exact bodyPost_ret (v := .tuple #[.agg #[.int .u16 p.id, .int .i64 4, .int .u32 p.co, .int .u64 p.hr, .int .u32 p.hc, .int .u64 p.hb, .int .u16 p.hp, .bool p.ak, .bool p.pe, .bool p.ao, .int .i64 p.av, .bool p.yo, .int .i64 p.yv, .bool p.ho, .int .i64 p.hv], .bool true]) (results_two rfl _ _ Y _ _ _ _ rfl _ rfl (setRow_heap _ _ _ _ _ _ hy) Tryz.underlying63 rfl (by kernel_rfl)) rfl ⟨rfl, (S3.row 0 rfl [.int .u16 p.id, .int .i64 4, .int .u32 p.co, .int .u64 p.hr, .int .u32 p.hc, .int .u64 p.hb, .int .u16 p.hp, .bool p.ak, .bool p.pe, .bool p.ao, .int .i64 p.av, .bool p.yo, .int .i64 p.yv, .bool p.ho, .int .i64 p.hv]).old⟩

theorem next_is (p q : Po) (x : Bool) (h : Hid (nextP p = (q, x))) (w : World) :
    Calls Tryz.prog 82 #[.agg #[.int .u16 p.id, .int .i64 p.st, .int .u32 p.co, .int .u64 p.hr, .int .u32 p.hc, .int .u64 p.hb, .int .u16 p.hp, .bool p.ak, .bool p.pe, .bool p.ao, .int .i64 p.av, .bool p.yo, .int .i64 p.yv, .bool p.ho, .int .i64 p.hv]] w fun e w' => e = .returned (.tuple #[.agg #[.int .u16 q.id, .int .i64 q.st, .int .u32 q.co, .int .u64 q.hr, .int .u32 q.hc, .int .u64 q.hb, .int .u16 q.hp, .bool q.ak, .bool q.pe, .bool q.ao, .int .i64 q.av, .bool q.yo, .int .i64 q.yv, .bool q.ho, .int .i64 q.hv], .bool x]) ∧ Below w.heap.size w w' := by
  have h := h.out
  unfold nextP at h
  by_cases c : p.st = 2
  · rw [if_pos c] at h
    cases h
    have := next_two p w
    rwa [← c] at this
  · rw [if_neg c] at h
    by_cases d : p.st = 3
    · rw [if_pos d] at h
      cases h
      have := next_three p w
      rwa [← d] at this
    · rw [if_neg d] at h
      cases h
      exact next_stays p c d w

end Go.Proofs.YtnmnihlhcokjpaaGreatDoor

/- tellsSomeLan and goOn: contracts. -/
namespace Go.Proofs.YtnmnihlhcokjpaaGreatDoor
set_option maxRecDepth 100000
open Go.ChangeShapes Go.WideShapes Go.ChangeAt Go.RowKit
set_option linter.unusedVariables false
set_option linter.unusedSimpArgs false

/-- A port that has waited long enough. -/
def goR (t : Th) (L : List Po) (k : Nat) (p : Po) : Tk := if (nextP p).2 = true ∧ tellsL t.ow (L.set k (nextP p).1).length (L.set k (nextP p).1) = true then ((detT t, L.set k (nextP p).1), detO t L.length) else ((t, L.set k (nextP p).1), [])
theorem delay_is {s : Tk} {k : Nat} {p : Po} (h : s.1.2[k]? = some p) : delayS s k = ((goR s.1.1 s.1.2 k p).1, s.2 ++ (goR s.1.1 s.1.2 k p).2) := by
  unfold delayS goR
  rw [h]
  dsimp only
  split
  · rfl
  · rw [List.append_nil]
theorem box_outG {X Y : Nat} {cs ds : List Value} {l : List (Nat × TypeId × List Value)} (h : ∀ y ∈ l, 83 ≠ y.2.1) : ∀ y ∈ (Y, 31, ds) :: (X, 31, cs) :: l, 83 ≠ y.2.1 := fun y hy => by
  rcases List.mem_cons.1 hy with rfl | q
  · dsimp only; decide
  · rcases List.mem_cons.1 q with rfl | q
    · dsimp only; decide
    · exact h y q
theorem TS.range {w wx : World} {l : List (Nat × TypeId × List Value)} {g : Nat} {L : List Po} (h : TS w l (some ⟨g, 0, none⟩) L wx) {k : Nat} {x : Po} (hx : L[k]? = some x) : wx.rangeAt g (k * 15) (lP x) := fun j v hv => h.port_cell hx j hv
theorem next_rowT (p q : Po) (x : Bool) (h : Hid (nextP p = (q, x))) (w : World) :
    Calls Tryz.prog 82 #[.agg (lP p).toArray] w fun e w' => e = .returned (.tuple #[.agg (lP q).toArray, .bool x]) ∧ Below w.heap.size w w' := next_is p q x h w
theorem tells_at {o : Int} {L : List Po} {k : Nat} {p : Po} (hp : L[k]? = some p) (hb : p.hb = o) : ∀ n, k < n → tellsL o n L = true
  | 0, h => by omega
  | n + 1, h => by
    unfold tellsL
    by_cases e : k = n
    · subst e
      rw [hp]
      simp [hb]
    · rw [tells_at hp hb n (by omega)]
      rfl
set_option maxHeartbeats 2000000 in
theorem tells_is (t : Th) (A : Option Addr) (n cap : Nat) (L : List Po) (hL : Hid (L.length = n)) (hn : n ≤ 200) (w : World) (hp : Hid (PoAt w A w.heap.size L)) :
    Calls Tryz.prog 83 #[.agg (lT t A n cap).toArray] w fun e w' => e = .returned (.bool (tellsL t.ow n L)) ∧ Below w.heap.size w w' := by
  obtain ⟨R, hR⟩ : ∃ R, tellsL t.ow n L = R := ⟨_, rfl⟩
  rw [hR]
  have HR := Lib.hid hR
  clear hR
  obtain ⟨wb, hwb, S⟩ := hs_one w 31 (lT t A n cap)
  go_enter Tryz.func83, Tryz.ntmps83
  go_upto_region 1 with fail
  clear hwb
  obtain ⟨X, hX⟩ : ∃ X, w.heap.size = X := ⟨_, rfl⟩
  rw [hX] at S ⊢
  have HX := Lib.hid hX
  clear hX
  have x18 := S.cell 0 18 rfl rfl
  go_wp2
  clear x18
  go_loopw [8] (fun i wr => ∃ k : Nat, k ≤ n ∧ i = .int .i64 k ∧ Hid (tellsL t.ow k L = false) ∧ Hs w [(X, 31, lT t A n cap)] wr) (fun i _ => n - (intOf i).toNat)
  case atStart => exact ⟨0, Nat.zero_le _, rfl, Lib.hid rfl, S⟩
  case round =>
    clear S
    obtain ⟨k, hk, rfl, hu, S⟩ := hrel
    by_cases hkn : k < n
    · obtain ⟨x, hx⟩ := po_at hL.out hkn
      have hki : (k : Int) < (n : Int) := by omega
      have hkz : ¬ (n : Int) ≤ (k : Int) := by omega
      have HP := Lib.hid ((hp.out.below S.old (Nat.le_refl _)).wide S.old.size)
      obtain ⟨ad, rfl⟩ := HP.out.some hx
      have hat := HP.out.at hx rfl
      have HXK := Lib.hid hx
      clear hx
      go_upto_region 4 with (first | (with_reducible refine wpList_load_at rfl 63 (.tmp 10) rfl (ad.add (k * 15)) (by kernel_rfl) (lP x) _ hat Tryz.underlying63 rfl (by kernel_rfl) ?_) | (refine wpList_store_row rfl 63 _ _ rfl _ _ rfl rfl _ _ (heap_alloc_new _ _) (by kernel_rfl) (by kernel_rfl) (by kernel_rfl) ?_))
      rw [alloc_row]
      have S2 := S.al rfl 63 (lP x)
      obtain ⟨P, hP⟩ : ∃ P, wr.heap.size = P := ⟨_, rfl⟩
      rw [hP] at S2 ⊢
      obtain ⟨w2, hw2⟩ : ∃ v, wr.alloc (.cells (lP x).toArray 63) = v := ⟨_, rfl⟩
      rw [hw2] at S2 ⊢
      clear hw2 hP S hat HP
      have p5 := S2.cell 0 5 rfl rfl
      have x0 := S2.cell 1 0 rfl rfl
      obtain ⟨b, hb⟩ : ∃ b, (x.hb == t.ow) = b := ⟨_, rfl⟩
      have HB := Lib.hid hb
      cases b with
      | true =>
        go_wp2
        go_ret
        refine ⟨?_, HX.out ▸ S2.old⟩
        rw [← HR.out, tells_at HXK.out (by simpa using HB.out) n hkn]
        rfl
      | false =>
        have S3 := S2.tail
        clear S2
        go_wp2
        exact ⟨⟨k + 1, hkn, by go_num, Lib.hid (by
          have h1 := hu.out
          unfold tellsL
          rw [h1, HXK.out]
          simpa using HB.out), S3⟩, by simp [intOf]; omega⟩
    · have hkz : ¬ (k : Int) < (n : Int) := by omega
      have hke : k = n := by omega
      go_wp2
      go_ret
      refine ⟨?_, HX.out ▸ S.old⟩
      rw [← HR.out, ← hke, hu.out]
      rfl

set_option maxHeartbeats 4000000 in
theorem goon_is {w W : World} {l : List (Nat × TypeId × List Value)} (t : Th) (D : Option Addr) (n c : Nat) (L : List Po) (k : Nat) (p : Po) (hk : Hid (L[k]? = some p)) (hl : Hid (∀ y ∈ l, 83 ≠ y.2.1)) (hL : Hid (L.length = n)) (hf : n ≤ 200) (ht : Hid (ThB t)) (hn : Hid (-9223372036854775808 ≤ t.n1 ∧ t.n1 ≤ 9223372036854775807 ∧ -9223372036854775808 ≤ t.n2 ∧ t.n2 ≤ 9223372036854775807 ∧ -9223372036854775808 ≤ t.n3 ∧ t.n3 ≤ 9223372036854775807)) (hb : Hid (∀ x ∈ L, PoB x)) (hc : Hid (D = none → c = 0)) (hd : Hd w) (hS : TS w l D L W) :
    Calls Tryz.prog 47 #[.agg (lT t D n c).toArray, .int .i64 k] W (StepEnd w l n W (goR t L k p)) := by
  have hkn : k < n := by have := po_lt hk.out; have := hL.out; omega
  have hki : (k : Int) < (n : Int) := by omega
  have hkz : ¬ (n : Int) ≤ (k : Int) := by omega
  obtain ⟨g, rfl, -⟩ := hS.at hk.out
  obtain ⟨q, x, hq⟩ : ∃ q x, nextP p = (q, x) := ⟨_, _, rfl⟩
  have HN := fun W => Lib.hid (next_rowT p q x (Lib.hid hq) W)
  obtain ⟨R, hR⟩ : ∃ R, goR t L k p = R := ⟨_, rfl⟩
  rw [hR]
  have HR := Lib.hid hR
  clear hR
  have HQ := Lib.hid hq
  have HL2 := Lib.hid (show (L.set k q).length = n from set_len hL.out)
  have HB2 := Lib.hid (show ∀ z ∈ L.set k q, PoB z from set_bd hb.out (by have := (next_bd (hb.out p (List.mem_of_getElem? hk.out))).1; rw [hq] at this; exact this))
  clear hq
  have HD := Lib.hid hd
  clear hd
  obtain ⟨wb, hwb, S⟩ := TF.two hS 31 31 (lT t (some ⟨g, 0, none⟩) n c) [.int .u64 0, .int .u64 0, .int .u32 0, .int .i64 0, .int .i64 0, .int .i64 0, .int .i64 0, .int .i64 0, .int .i64 0, .int .i64 0, .bool false, .bool false, .bool false, .int .i64 0, .bool false, .int .i64 0, .bool false, .int .i64 0, .slice none 0 0]
  have HSW := Lib.hid hS.old
  clear hS
  go_enter Tryz.func47, Tryz.ntmps47
  go_upto_region 1 with fail
  clear hwb
  obtain ⟨X, hX⟩ : ∃ q, W.heap.size = q := ⟨_, rfl⟩
  have HXW := Lib.hid (show W.heap.size ≤ X from Nat.le_of_eq hX)
  rw [hX] at S
  obtain ⟨Y, hY⟩ : ∃ q, X + 1 = q := ⟨_, rfl⟩
  have HYW := Lib.hid (show W.heap.size ≤ Y by rw [← hY]; exact Nat.le_succ_of_le HXW.out)
  rw [hY] at S
  rw [hX]
  rw [hY]
  clear hX hY
  have c18 := S.hs.cell 1 18 rfl rfl
  have hr := S.ts.range hk.out
  go_wp2_with (with_reducible refine wpList_load_mid rfl 63 (.tmp 12) rfl g (k * 15) (by kernel_rfl) (lP p) _ hr Tryz.underlying63 rfl (by kernel_rfl) ?_)
  (with_reducible refine (HN _).out.mono ?_); rintro e w1 ⟨rfl, b1⟩
  have S1 := S.below b1
  clear S hr c18 HN b1
  go_upto_region 2 with (refine wpList_store_row rfl 63 _ _ rfl _ _ rfl rfl _ _ (heap_alloc_new _ _) (by kernel_rfl) (by kernel_rfl) (by kernel_rfl) ?_)
  rw [alloc_row]
  have S2 := S1.al rfl 63 (lP q)
  obtain ⟨P, hP⟩ : ∃ P, w1.heap.size = P := ⟨_, rfl⟩
  rw [hP] at S2 ⊢
  obtain ⟨w2, hw2⟩ : ∃ v, w1.alloc (.cells (lP q).toArray 63) = v := ⟨_, rfl⟩
  rw [hw2] at S2 ⊢
  clear hw2 hP S1
  have hth := S2.ts.there hk.out q
  have c18 := S2.hs.cell 2 18 rfl rfl
  have hz := S2.hs.bk 0 rfl
  go_upto_region 3 with (first | (with_reducible refine wpList_load_row rfl 63 (.tmp 6) rfl P (by kernel_rfl) _ _ (0, 0) _ hz Tryz.underlying63 rfl (by kernel_rfl) ?_) | (with_reducible refine wpList_store_mid rfl 63 (.tmp 21) _ rfl g (k * 15) (lP q).toArray (by kernel_rfl) (by kernel_rfl) hth (by kernel_rfl) (by kernel_rfl) ?_))
  have S3 := (S2.whole hk.out q).tail
  generalize w2.setCells g (k * 15) (lP q) = w3 at S3 ⊢
  clear S2 hth c18 hz
  have hr := HR.out
  unfold goR at hr
  rw [HQ.out] at hr
  dsimp only at hr
  rw [HL2.out, hL.out] at hr
  cases x with
  | false =>
    rw [if_neg (by rintro ⟨e, -⟩; cases e)] at hr
    subst hr
    have hx := S3.hs.bk 1 rfl
    have hy := S3.hs.bk 0 rfl
    have SF := S3.row 0 rfl (lT t (some ⟨g, 0, none⟩) n c) HYW.out
    have hyF := SF.hs.bk 0 rfl
    go_wp2_with (first | (with_reducible refine wpList_load_row rfl 31 (.tmp 2) rfl X (by kernel_rfl) _ _ (0, 0) _ hx Tryz.underlying31 rfl (by kernel_rfl) ?_) | (refine wpList_store_row rfl 31 _ _ rfl Y _ rfl rfl _ _ hy (by kernel_rfl) (by kernel_rfl) (by kernel_rfl) ?_))
    exact bodyPost_ret (v := .tuple #[.agg (lT t (some ⟨g, 0, none⟩) n c).toArray, .slice none 0 0]) (results_two rfl _ _ Y _ _ _ _ rfl _ rfl hyF Tryz.underlying31 rfl (by kernel_rfl)) rfl ⟨_, c, _, rfl, hc.out, SF.tail.tail.ts, OutsR.nil _ _, SF.2⟩
  | true =>
    have HTL := fun W h => Lib.hid (tells_is t (some ⟨g, 0, none⟩) n c (L.set k q) HL2 hf W h)
    have HT3 := Lib.hid (HTL w3 (Lib.hid S3.ts.ports)).out
    clear HTL
    obtain ⟨b, hb2⟩ : ∃ b, tellsL t.ow n (L.set k q) = b := ⟨_, rfl⟩
    rw [hb2] at hr HT3
    clear hb2
    have HRR := Lib.hid hr
    clear hr
    have hx := S3.hs.bk 1 rfl
    go_wp2_with (with_reducible refine wpList_load_rowG (by kernel_rfl) 31 (.tmp 2) rfl X (by kernel_rfl) _ _ (0, 0) _ hx Tryz.underlying31 rfl (by kernel_rfl) ?_)
    (with_reducible refine HT3.out.mono ?_); rintro e w4 ⟨rfl, b4⟩
    have S4 := S3.below b4
    clear S3 hx HT3 b4
    have hr := HRR.out
    cases b with
    | false =>
      rw [if_neg (by rintro ⟨-, e⟩; cases e)] at hr
      subst hr
      have hx := S4.hs.bk 1 rfl
      have hy := S4.hs.bk 0 rfl
      have SF := S4.row 0 rfl (lT t (some ⟨g, 0, none⟩) n c) HYW.out
      have hyF := SF.hs.bk 0 rfl
      go_wp2_with (first | (with_reducible refine wpList_load_row rfl 31 (.tmp 2) rfl X (by kernel_rfl) _ _ (0, 0) _ hx Tryz.underlying31 rfl (by kernel_rfl) ?_) | (refine wpList_store_row rfl 31 _ _ rfl Y _ rfl rfl _ _ hy (by kernel_rfl) (by kernel_rfl) (by kernel_rfl) ?_))
      exact bodyPost_ret (v := .tuple #[.agg (lT t (some ⟨g, 0, none⟩) n c).toArray, .slice none 0 0]) (results_two rfl _ _ Y _ _ _ _ rfl _ rfl hyF Tryz.underlying31 rfl (by kernel_rfl)) rfl ⟨_, c, _, rfl, hc.out, SF.tail.tail.ts, OutsR.nil _ _, SF.2⟩
    | true =>
      rw [if_pos (by simp)] at hr
      subst hr
      have HC := Lib.hid (sdetect_is t (some ⟨g, 0, none⟩) n c (L.set k q) HL2 hf ht hc w4 (HD.out.below S4.old (Nat.le_refl _)) (Lib.hid S4.ts.ports))
      have hx := S4.hs.bk 1 rfl
      go_wp2_with (with_reducible refine wpList_load_row rfl 31 (.tmp 2) rfl X (by kernel_rfl) _ _ (0, 0) _ hx Tryz.underlying31 rfl (by kernel_rfl) ?_)
      (with_reducible refine HC.out.mono ?_); rintro e w5 ⟨D1, c1, v, rfl, hz1, k5, hO⟩
      have S5 := S4.take k5
      have hO5 := hO.mono S4.since
      clear S4 hx HC k5 hO
      have hy := S5.hs.bk 0 rfl
      have SF := S5.row 0 rfl (lT (detT t) D1 n c1) HYW.out
      have hyF := SF.hs.bk 0 rfl
      have hOF := hO5.store S5.hs 0 rfl (lT (detT t) D1 n c1).toArray
      go_wp2_with (refine wpList_store_row rfl 31 _ _ rfl Y _ rfl rfl _ _ hy (by kernel_rfl) (by kernel_rfl) (by kernel_rfl) ?_)
      exact bodyPost_ret (v := .tuple #[.agg (lT (detT t) D1 n c1).toArray, v]) (results_two rfl _ _ Y _ _ _ _ rfl _ rfl hyF Tryz.underlying31 rfl (by kernel_rfl)) rfl ⟨D1, c1, _, rfl, hz1, SF.tail.tail.ts, hOF, SF.2⟩

end Go.Proofs.YtnmnihlhcokjpaaGreatDoor

/- Lead: contract. -/
namespace Go.Proofs.YtnmnihlhcokjpaaGreatDoor
set_option maxRecDepth 100000
open Go.ChangeShapes Go.WideShapes Go.ChangeAt Go.RowKit
set_option linter.unusedVariables false
set_option linter.unusedSimpArgs false

/-- What leading leaves, and what goes out. -/
def leadT2 (t : Th) : Th := { leadT t with ho := true, hv := 0 }
def leadO (t : Th) (n : Nat) : List Ou := detO { t with n1 := t.m1, n2 := t.m2, n3 := t.m3 } n
theorem lead_root {t : Th} (h : t.ro = t.ow) (n : Nat) : leadO t n = [] := by
  unfold leadO detO
  rw [if_pos h]
theorem lead_nb {t : Th} (h : (-9223372036854775808 ≤ t.m1 ∧ t.m1 ≤ 9223372036854775807 ∧ -9223372036854775808 ≤ t.m2 ∧ t.m2 ≤ 9223372036854775807 ∧ -9223372036854775808 ≤ t.m3 ∧ t.m3 ≤ 9223372036854775807)) : (-9223372036854775808 ≤ (leadT t).n1 ∧ (leadT t).n1 ≤ 9223372036854775807 ∧ -9223372036854775808 ≤ (leadT t).n2 ∧ (leadT t).n2 ≤ 9223372036854775807 ∧ -9223372036854775808 ≤ (leadT t).n3 ∧ (leadT t).n3 ≤ 9223372036854775807) := by
  have h1 : (-9223372036854775808 ≤ ({ t with n1 := t.m1, n2 := t.m2, n3 := t.m3 } : Th).n1 ∧ ({ t with n1 := t.m1, n2 := t.m2, n3 := t.m3 } : Th).n1 ≤ 9223372036854775807 ∧ -9223372036854775808 ≤ ({ t with n1 := t.m1, n2 := t.m2, n3 := t.m3 } : Th).n2 ∧ ({ t with n1 := t.m1, n2 := t.m2, n3 := t.m3 } : Th).n2 ≤ 9223372036854775807 ∧ -9223372036854775808 ≤ ({ t with n1 := t.m1, n2 := t.m2, n3 := t.m3 } : Th).n3 ∧ ({ t with n1 := t.m1, n2 := t.m2, n3 := t.m3 } : Th).n3 ≤ 9223372036854775807) := h
  exact nb_det (t := ({ t with n1 := t.m1, n2 := t.m2, n3 := t.m3 } : Th)) h1

set_option maxHeartbeats 4000000 in
theorem hlead_is (t : Th) (A : Option Addr) (n cap : Nat) (L : List Po) (hL : Hid (L.length = n)) (hf : n ≤ 200) (ht : Hid (ThB t)) (hm : Hid (-9223372036854775808 ≤ t.m1 ∧ t.m1 ≤ 9223372036854775807 ∧ -9223372036854775808 ≤ t.m2 ∧ t.m2 ≤ 9223372036854775807 ∧ -9223372036854775808 ≤ t.m3 ∧ t.m3 ≤ 9223372036854775807)) (hb : Hid (∀ x ∈ L, PoB x)) (hc : Hid (A = none → cap = 0)) (w : World) (hd : Hd w) (hp : Hid (PoAt w A w.heap.size L)) :
    Calls Tryz.prog 84 #[.agg (lT t A n cap).toArray] w (ConfEnd w (leadT2 t) n ((allR (leadT t) L n).1, leadO t n ++ (allR (leadT t) L n).2)) := by
  have HD := Lib.hid hd
  clear hd
  have HTB := Lib.hid (show ThB ({ t with n1 := t.m1, n2 := t.m2, n3 := t.m3 } : Th) from ht.out)
  have HTL := Lib.hid (lead_bd ht.out)
  have HNL := Lib.hid (lead_nb hm.out)
  obtain ⟨o, ho⟩ : ∃ o, leadO t n = o := ⟨_, rfl⟩
  have HOF := Lib.hid (show o.length ≤ 1 by rw [← ho]; exact det_few _ _)
  obtain ⟨R, hR⟩ : ∃ R, allR (leadT t) L n = R := ⟨_, rfl⟩
  have HRF := Lib.hid (show R.2.length ≤ n by rw [← hR]; exact (allR_bd (t := leadT t) hb.out n).2.1)
  rw [ho, hR]
  have HOO := Lib.hid ho
  have HRR := Lib.hid hR
  clear ho hR
  obtain ⟨wb, hwb, S⟩ := hs_two w 31 31 (lT t A n cap) [.int .u64 0, .int .u64 0, .int .u32 0, .int .i64 0, .int .i64 0, .int .i64 0, .int .i64 0, .int .i64 0, .int .i64 0, .int .i64 0, .bool false, .bool false, .bool false, .int .i64 0, .bool false, .int .i64 0, .bool false, .int .i64 0, .slice none 0 0]
  go_enter Tryz.func84, Tryz.ntmps84
  go_upto_region 1 with fail
  clear hwb
  obtain ⟨X, hX⟩ : ∃ q, w.heap.size = q := ⟨_, rfl⟩
  rw [hX] at S
  obtain ⟨Y, hY⟩ : ∃ q, X + 1 = q := ⟨_, rfl⟩
  rw [hY] at S
  rw [hX]
  rw [hY]
  clear hX hY
  have c7 := S.cell 1 7 rfl rfl
  have c8 := S.cell 1 8 rfl rfl
  have c9 := S.cell 1 9 rfl rfl
  have c4 := S.cell 1 4 rfl rfl
  have f4 := S.thaw 1 4 rfl
  have c5 := S.cell 1 5 rfl rfl
  have f5 := S.thaw 1 5 rfl
  have c6 := S.cell 1 6 rfl rfl
  have f6 := S.thaw 1 6 rfl
  go_upto_region 2 with fail
  have S1 : Hs w [(Y, 31, [.int .u64 0, .int .u64 0, .int .u32 0, .int .i64 0, .int .i64 0, .int .i64 0, .int .i64 0, .int .i64 0, .int .i64 0, .int .i64 0, .bool false, .bool false, .bool false, .int .i64 0, .bool false, .int .i64 0, .bool false, .int .i64 0, .slice none 0 0]), (X, 31, lT ({ t with n1 := t.m1, n2 := t.m2, n3 := t.m3 } : Th) A n cap)] (((wb.setCell ⟨X, 4, none⟩ (.int .i64 t.m1)).setCell ⟨X, 5, none⟩ (.int .i64 t.m2)).setCell ⟨X, 6, none⟩ (.int .i64 t.m3)) := (((S).set 1 rfl 4 (.int .i64 t.m1)).set 1 rfl 5 (.int .i64 t.m2)).set 1 rfl 6 (.int .i64 t.m3)
  generalize ((wb.setCell ⟨X, 4, none⟩ (.int .i64 t.m1)).setCell ⟨X, 5, none⟩ (.int .i64 t.m2)).setCell ⟨X, 6, none⟩ (.int .i64 t.m3) = w1 at S1 ⊢
  clear S  c4 f4 c5 f5 c6 f6 c7 c8 c9
  have HC := Lib.hid (sdetect_is ({ t with n1 := t.m1, n2 := t.m2, n3 := t.m3 } : Th) A n cap L hL hf HTB hc w1 (HD.out.below S1.old (Nat.le_refl _)) (Lib.hid ((hp.out.below S1.old (Nat.le_refl _)).wide S1.old.size)))
  rw [show detO ({ t with n1 := t.m1, n2 := t.m2, n3 := t.m3 } : Th) n = o from HOO.out] at HC
  have hx := S1.bk 1 rfl
  go_wp2_with (with_reducible refine wpList_load_row rfl 31 (.tmp 1) rfl X (by kernel_rfl) _ _ (0, 0) _ hx Tryz.underlying31 rfl (by kernel_rfl) ?_)
  (with_reducible refine HC.out.mono ?_); rintro e w2 ⟨D1, c1, v, rfl, hz1, k2, hO⟩
  have S2 := TS.take S1 k2
  have hO2 := hO.mono S1.old.size
  have HZ1 := Lib.hid hz1
  clear S1 hx HC k2 hO hz1
  have hx := S2.hs.bk 1 rfl
  go_upto_region 3 with (refine wpList_store_row rfl 31 _ _ rfl X _ rfl rfl _ _ hx (by kernel_rfl) (by kernel_rfl) (by kernel_rfl) ?_)
  have S3 : TS w [(Y, 31, [.int .u64 0, .int .u64 0, .int .u32 0, .int .i64 0, .int .i64 0, .int .i64 0, .int .i64 0, .int .i64 0, .int .i64 0, .int .i64 0, .bool false, .bool false, .bool false, .int .i64 0, .bool false, .int .i64 0, .bool false, .int .i64 0, .slice none 0 0]), (X, 31, lT (detT ({ t with n1 := t.m1, n2 := t.m2, n3 := t.m3 } : Th)) D1 n c1)] D1 L _ := S2.row 1 rfl (lT (detT ({ t with n1 := t.m1, n2 := t.m2, n3 := t.m3 } : Th)) D1 n c1)
  have hO3 := hO2.store S2.hs 1 rfl (lT (detT ({ t with n1 := t.m1, n2 := t.m2, n3 := t.m3 } : Th)) D1 n c1).toArray
  generalize w2.setRow X (lT (detT ({ t with n1 := t.m1, n2 := t.m2, n3 := t.m3 } : Th)) D1 n c1).toArray = w3 at S3 hO3 ⊢
  clear S2 hO2 hx
  go_wp2_with fail
  (with_reducible refine (stop_is _).mono ?_); rintro e w4 ⟨rfl, b4⟩
  have S4 := S3.below b4
  have hO4 := hO3.below b4
  clear S3 hO3 b4
  have c14 := S4.hs.cell 1 14 rfl rfl
  have f14 := S4.hs.thaw 1 14 rfl
  have c15 := S4.hs.cell 1 15 rfl rfl
  have f15 := S4.hs.thaw 1 15 rfl
  go_upto_region 4 with fail
  have S5 : TS w [(Y, 31, [.int .u64 0, .int .u64 0, .int .u32 0, .int .i64 0, .int .i64 0, .int .i64 0, .int .i64 0, .int .i64 0, .int .i64 0, .int .i64 0, .bool false, .bool false, .bool false, .int .i64 0, .bool false, .int .i64 0, .bool false, .int .i64 0, .slice none 0 0]), (X, 31, lT (leadT t) D1 n c1)] D1 L ((w4.setCell ⟨X, 14, none⟩ (.bool false)).setCell ⟨X, 15, none⟩ (.int .i64 0)) := ((S4).set 1 rfl 14 (.bool false)).set 1 rfl 15 (.int .i64 0)
  have hO5 := hO4.but (w' := (w4.setCell ⟨X, 14, none⟩ (.bool false)).setCell ⟨X, 15, none⟩ (.int .i64 0)) (S4.1.1 1 _ _ _ rfl).1 (by decide) (by decide) (fun b hb => (Below.heap_setCell _ ⟨X, 15, none⟩ _ b hb).trans (Below.heap_setCell _ ⟨X, 14, none⟩ _ b hb))
  generalize (w4.setCell ⟨X, 14, none⟩ (.bool false)).setCell ⟨X, 15, none⟩ (.int .i64 0) = w5 at S5 hO5 ⊢
  clear S4 hO4 c14 f14 c15 f15 
  have HC := Lib.hid (sall_ts (leadT t) D1 n c1 L hL hf HTL HNL hb HZ1 w5 (HD.out.below S5.old (Nat.le_refl _)) (Lib.hid S5.ports))
  rw [HRR.out] at HC
  have hx := S5.hs.bk 1 rfl
  go_wp2_with (with_reducible refine wpList_load_row rfl 31 (.tmp 1) rfl X (by kernel_rfl) _ _ (0, 0) _ hx Tryz.underlying31 rfl (by kernel_rfl) ?_)
  (with_reducible refine HC.out.mono ?_); rintro e w6 ⟨D2, c2, v3, rfl, hz2, k6, hQ⟩
  have S6 := TS.take S5.hs k6
  have hO6 := hO5.below k6.old
  have HWQ := Lib.hid (show w.heap.size ≤ w5.heap.size from S5.old.size)
  have HZ2 := Lib.hid hz2
  clear S5 hO5 hx HC k6 hz2
  have hx := S6.hs.bk 1 rfl
  go_upto_region 5 with (refine wpList_store_row rfl 31 _ _ rfl X _ rfl rfl _ _ hx (by kernel_rfl) (by kernel_rfl) (by kernel_rfl) ?_)
  have S7 : TS w [(Y, 31, [.int .u64 0, .int .u64 0, .int .u32 0, .int .i64 0, .int .i64 0, .int .i64 0, .int .i64 0, .int .i64 0, .int .i64 0, .int .i64 0, .bool false, .bool false, .bool false, .int .i64 0, .bool false, .int .i64 0, .bool false, .int .i64 0, .slice none 0 0]), (X, 31, lT (leadT t) D2 n c2)] D2 R.1 _ := S6.row 1 rfl (lT (leadT t) D2 n c2)
  have hO7 := hO6.store S6.hs 1 rfl (lT (leadT t) D2 n c2).toArray
  have hQ7 := hQ.store S6.hs 1 rfl (lT (leadT t) D2 n c2).toArray
  generalize w6.setRow X (lT (leadT t) D2 n c2).toArray = w7 at S7 hO7 hQ7 ⊢
  clear S6 hO6 hQ hx
  go_wp2_with fail
  (with_reducible refine (start0 _).mono ?_); rintro e w8 ⟨rfl, b8⟩
  have S8 := S7.below b8
  have hO8 := hO7.below b8
  have hQ8 := hQ7.below b8
  clear S7 hO7 hQ7 b8
  have c12 := S8.hs.cell 1 12 rfl rfl
  have f12 := S8.hs.thaw 1 12 rfl
  have c13 := S8.hs.cell 1 13 rfl rfl
  have f13 := S8.hs.thaw 1 13 rfl
  go_upto_region 6 with fail
  have S9 : TS w [(Y, 31, [.int .u64 0, .int .u64 0, .int .u32 0, .int .i64 0, .int .i64 0, .int .i64 0, .int .i64 0, .int .i64 0, .int .i64 0, .int .i64 0, .bool false, .bool false, .bool false, .int .i64 0, .bool false, .int .i64 0, .bool false, .int .i64 0, .slice none 0 0]), (X, 31, lT (leadT2 t) D2 n c2)] D2 R.1 ((w8.setCell ⟨X, 12, none⟩ (.bool true)).setCell ⟨X, 13, none⟩ (.int .i64 0)) := ((S8).set 1 rfl 12 (.bool true)).set 1 rfl 13 (.int .i64 0)
  have hO9 := hO8.but (w' := (w8.setCell ⟨X, 12, none⟩ (.bool true)).setCell ⟨X, 13, none⟩ (.int .i64 0)) (S8.1.1 1 _ _ _ rfl).1 (by decide) (by decide) (fun b hb => (Below.heap_setCell _ ⟨X, 13, none⟩ _ b hb).trans (Below.heap_setCell _ ⟨X, 12, none⟩ _ b hb))
  have hQ9 := hQ8.but (w' := (w8.setCell ⟨X, 12, none⟩ (.bool true)).setCell ⟨X, 13, none⟩ (.int .i64 0)) (S8.1.1 1 _ _ _ rfl).1 (by decide) (by decide) (fun b hb => (Below.heap_setCell _ ⟨X, 13, none⟩ _ b hb).trans (Below.heap_setCell _ ⟨X, 12, none⟩ _ b hb))
  generalize (w8.setCell ⟨X, 12, none⟩ (.bool true)).setCell ⟨X, 13, none⟩ (.int .i64 0) = w9 at S9 hO9 hQ9 ⊢
  clear S8 hO8 hQ8 c12 f12 c13 f13 
  have hlen : o.length + R.2.length ≤ 100000 := by have h1 := HOF.out; have h2 := HRF.out; omega
  refine wp_region_held_drew (S := (fun w' => Bk w' X 31 (lT (leadT2 t) D2 n c2))) (by kernel_rfl) ((S9.hs.1 1 _ _ _ rfl).1) (fun hHeld => ?_)
  have Sd := S9.below ((Below.refl _ _).drew)
  have hOd := hO9.below ((Below.refl _ _).drew)
  have hQd := hQ9.below ((Below.refl _ _).drew)
  obtain ⟨vd, hvd⟩ : ∃ y, w9.drew = y := ⟨_, rfl⟩
  rw [hvd] at Sd hOd hQd hHeld ⊢
  clear hvd S9 hO9 hQ9
  have hbd : w.heap.size ≤ vd.heap.size := Sd.old.size
  obtain ⟨_, _, hown⟩ := hOd.own
  refine wpAnyH_take (i := 0) (v := _) rfl (by kernel_rfl) (by kernel_rfl) (by kernel_rfl) (fun _ _ _ h => h) (Or.inl ⟨by kernel_rfl, fun w' hSw => exec_load_row 31 _ rfl X (by kernel_rfl) _ _ (0, 0) _ (hSw) Tryz.underlying31 rfl (by kernel_rfl)⟩) (by assumption) ?_
  try simp only [Act.put, List.getElem_toArray, List.getElem_cons_succ, List.getElem_cons_zero, List.setIfInBounds_toArray, List.set_cons_succ, List.set_cons_zero]
  refine wpAnyH_take (i := 1) (v := ?_) rfl (by kernel_rfl) (by kernel_rfl) (by kernel_rfl) (fun _ _ _ h => h) (Or.inl ⟨by kernel_rfl, ?_⟩) (by assumption) ?_
  rotate_left
  · intro w' hSw; (try dsimp only at hSw); go_simp; with_reducible rfl
  try simp only [Act.put, List.getElem_toArray, List.getElem_cons_succ, List.getElem_cons_zero, List.setIfInBounds_toArray, List.set_cons_succ, List.set_cons_zero]
  refine wpAnyH_take (i := 2) (v := ?_) rfl (by kernel_rfl) (by kernel_rfl) (by kernel_rfl) (fun _ _ _ h => h) (Or.inl ⟨by kernel_rfl, ?_⟩) (by assumption) ?_
  rotate_left
  · intro w' hSw; (try dsimp only at hSw); go_simp; with_reducible rfl
  try simp only [Act.put, List.getElem_toArray, List.getElem_cons_succ, List.getElem_cons_zero, List.setIfInBounds_toArray, List.set_cons_succ, List.set_cons_zero]
  refine wpAnyH_ready (rs := [3]) (by kernel_rfl) (by simp) ?_
  refine AllReadyH.cons rfl (fun K hK => ?_) AllReadyH.nil
  refine step_append_outs rfl (.tmp 24) (.tmp 25) (by kernel_rfl) w.heap.size w5.heap.size v v3 o R.2 (by kernel_rfl) (by kernel_rfl) hOd hQd HWQ.out hlen hbd ?_
  intro v' we hOe gr
  have Se := Sd.grownT hown gr (fun y hy => by simp only [List.mem_cons, List.not_mem_nil, or_false] at hy; rcases hy with rfl | rfl <;> (dsimp only; decide)) (Nat.le_refl _)
  clear Sd hOd hQd gr hown
  refine hK.out _ _ ((Se.hs.1 1 _ _ _ rfl).1) (fun hHeld => ?_)
  clear hK K
  try simp only [Act.put, List.getElem_toArray, List.getElem_cons_succ, List.getElem_cons_zero, List.setIfInBounds_toArray, List.set_cons_succ, List.set_cons_zero]
  have hy := Se.hs.bk 0 rfl
  refine wpAnyH_ready (rs := [4]) (by kernel_rfl) (by simp) ?_
  refine AllReadyH.cons rfl (fun K hK => ?_) AllReadyH.nil
  refine exec_if_store (by kernel_rfl) 31 (.tmp 2) (.tmp 23) rfl Y (lT (leadT2 t) D2 n c2).toArray (by kernel_rfl) (by kernel_rfl) _ _ hy (by kernel_rfl) (by kernel_rfl) (by kernel_rfl) ?_
  have Sf := Se.row 0 rfl (lT (leadT2 t) D2 n c2)
  refine hK.out _ _ ((Sf.hs.1 1 _ _ _ rfl).1) (fun hHeld => ?_)
  clear hK K
  try simp only [Act.put, List.getElem_toArray, List.getElem_cons_succ, List.getElem_cons_zero, List.setIfInBounds_toArray, List.set_cons_succ, List.set_cons_zero]
  refine wpAnyH_take (i := 5) (v := ?_) rfl (by kernel_rfl) (by kernel_rfl) (by kernel_rfl) (fun _ _ _ h => h) (Or.inl ⟨by kernel_rfl, ?_⟩) (by assumption) ?_
  rotate_left
  · intro w' hSw; (try dsimp only at hSw); go_simp; with_reducible rfl
  try simp only [Act.put, List.getElem_toArray, List.getElem_cons_succ, List.getElem_cons_zero, List.setIfInBounds_toArray, List.set_cons_succ, List.set_cons_zero]
  refine wpAnyH_done (by kernel_rfl) ?_ _
  have hOF := hOe.store Se.hs 0 rfl (lT (leadT2 t) D2 n c2).toArray
  have hyF := Sf.hs.bk 0 rfl
  go_wp2
  exact bodyPost_ret (v := .tuple #[.agg (lT (leadT2 t) D2 n c2).toArray, v']) (results_two rfl _ _ Y _ _ _ _ rfl _ rfl hyF Tryz.underlying31 rfl (by kernel_rfl)) rfl ⟨D2, c2, _, rfl, HZ2.out, Sf.nobox, hOF⟩

end Go.Proofs.YtnmnihlhcokjpaaGreatDoor

/- Update: contract. -/
namespace Go.Proofs.YtnmnihlhcokjpaaGreatDoor
set_option maxRecDepth 100000
open Go.ChangeShapes Go.WideShapes Go.ChangeAt Go.RowKit
set_option linter.unusedVariables false

def updT (t : Th) (L : List Po) : Th := selectT t L
def updL (t : Th) (L : List Po) : List Po := desL (selectT t L) L
theorem desL_len (t : Th) (L : List Po) : (desL t L).length = L.length := allL_len _ _

set_option maxHeartbeats 1000000 in
theorem update_is (t : Th) (A : Option Addr) (n cap : Nat) (L : List Po) (hL : Hid (L.length = n)) (hf : n ≤ 200) (hb : Hid (∀ x ∈ L, PoB x)) (hc : Hid (A = none → cap = 0)) (w : World) (hp : Hid (PoAt w A w.heap.size L)) :
    Calls Tryz.prog 106 #[.agg (lT t A n cap).toArray] w (TOut w (updT t L) n (updL t L)) := by
  obtain ⟨wb, hwb, S⟩ := hs_two w 31 31 (lT t A n cap) [.int .u64 0, .int .u64 0, .int .u32 0, .int .i64 0, .int .i64 0, .int .i64 0, .int .i64 0, .int .i64 0, .int .i64 0, .int .i64 0, .bool false, .bool false, .bool false, .int .i64 0, .bool false, .int .i64 0, .bool false, .int .i64 0, .slice none 0 0]
  go_enter Tryz.func106, Tryz.ntmps106
  go_upto_region 1 with fail
  clear hwb
  obtain ⟨X, hX⟩ : ∃ X, w.heap.size = X := ⟨_, rfl⟩
  rw [hX] at S
  obtain ⟨Y, hY⟩ : ∃ Y, X + 1 = Y := ⟨_, rfl⟩
  rw [hY] at S
  rw [hX]
  rw [hY]
  clear hX hY
  have hp1 := Lib.hid ((hp.out.below S.old (Nat.le_refl _)).wide S.old.size)
  have HC := Lib.hid (select_is t A n cap L hL hf hb hc wb hp1)
  have hx := S.bk 1 rfl
  go_wp2_with (refine wpList_load_row rfl 31 _ rfl X rfl _ _ (0, 0) _ hx Tryz.underlying31 rfl (by kernel_rfl) ?_)
  (with_reducible refine HC.out.mono ?_); rintro e w1 ⟨D, cap', rfl, hz, k1⟩
  have S1 := TS.take S k1
  have HZ := Lib.hid hz
  clear S hx HC hp1 k1 hz
  have HD := Lib.hid (desig_all (selectT t L) D n cap' L hL hf HZ w1 (Lib.hid S1.ports))
  go_wp2_with fail
  (with_reducible refine HD.out.mono ?_); rintro e w2 ⟨D2, cap2, rfl, hz2, k2⟩
  have S2 := TS.take S1.hs k2
  have HZ2 := Lib.hid hz2
  clear HD S1 k2 hz2
  have hy := S2.hs.bk 0 rfl
  go_wp2_with (refine wpList_store_row rfl 31 _ _ rfl Y _ rfl rfl _ _ hy (by kernel_rfl) (by kernel_rfl) (by kernel_rfl) ?_)
  exact bodyPost_ret (v := .agg (lT (updT t L) D2 n cap2).toArray) (results_cell_row rfl _ _ Y _ _ _ _ rfl (setRow_heap _ _ _ _ _ _ hy) Tryz.underlying31 rfl (by kernel_rfl)) rfl ⟨D2, cap2, rfl, HZ2.out, (S2.row 0 rfl (lT (updT t L) D2 n cap2)).nobox⟩

end Go.Proofs.YtnmnihlhcokjpaaGreatDoor
