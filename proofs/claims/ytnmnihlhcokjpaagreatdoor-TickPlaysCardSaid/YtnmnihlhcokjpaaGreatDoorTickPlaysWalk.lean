/- The law TickPlays, walked. -/
import Derived.Test.YtnmnihlhcokjpaaGreatDoorPk17
import Derived.Test.YtnmnihlhcokjpaaGreatDoorPk29
import Derived.Test.YtnmnihlhcokjpaaGreatDoorPk18
import Derived.Test.YtnmnihlhcokjpaaGreatDoorPk30
import Derived.BigQuiet
import Derived.Deep.QuietTactic
import Derived.LoopTactic
import Derived.Deep.DeepCutAuto
namespace Go.Proofs.YtnmnihlhcokjpaaGreatDoor
set_option maxRecDepth 100000
open Go.ChangeShapes Go.WideShapes Go.ChangeAt Go.RowKit
set_option linter.unusedVariables false
set_option linter.unusedSimpArgs false

theorem tick_few {t : Th} {L : List Po} {n : Nat} (h : L.length = n) : (tickR t L).2.length ≤ (n + 1) + 3 * (n * (n + 2)) := by
  have h0 := few_first (t := t) h
  have h1 := fold_few1 (delB t) L h0 h (fun s i m q => few_delay q i)
  have h2 := fold_few1 (agB t) L h1 h (fun s i m q => few_age q i)
  have h3 := fold_few1 holB L h2 h (fun s i m q => few_hold q i)
  have e : tickR t L = foldS holdS (flagB holB L) n (foldS ageS (flagB (agB t) L) n (foldS delayS (flagB (delB t) L) n (tick1 t L))) := by rw [← h]; rfl
  rw [e]
  have := h3.1
  omega
set_option maxHeartbeats 8000000 in
theorem TickPlays_walk (t : Th) (A : Option Addr) (n cap : Nat) (L : List Po) (w : World) (hd : Hd w) (ht : ThB t) (hm : TmB t) (hL : L.length = n) (hn : n ≤ 9223372036854775807) (hz : A = none → cap = 0) (hb : ∀ x ∈ L, PoB x) (hp : PoAt w A w.heap.size L) :
    Calls Tryz.prog 3 #[.agg (lT t A n cap).toArray] w fun e w' => e = .returned (.bool true) ∧ Below w.heap.size w w' := by
  have HA := fun W (h : Below w.heap.size w W) => Lib.hid (awake16_is W (hd.below h (Nat.le_refl _)))
  have HD := Lib.hid hd
  have HB := Lib.hid hb
  have HTB := Lib.hid ht
  have HL := Lib.hid hL
  have HP := Lib.hid hp
  have HCZ := Lib.hid hz
  have HF := fun W (h : Below w.heap.size w W) => Lib.hid (fits16_is t A n cap L HL hn W (Lib.hid ((HP.out.below h (Nat.le_refl _)).wide h.size)))
  clear hb hL hz hp ht hn hd hm
  obtain ⟨wb, hwb, S⟩ := hs_one w 31 (lT t A n cap)
  go_enter Tryz.func3, Tryz.ntmps3
  go_upto_region 1 with fail
  clear hwb
  obtain ⟨X, hX⟩ : ∃ X, w.heap.size = X := ⟨_, rfl⟩
  rw [hX] at S ⊢
  have HX := Lib.hid hX
  clear hX
  go_wp2_with fail
  (with_reducible refine (HA _ S.old).out.mono ?_); rintro e w1 ⟨rfl, b1⟩
  have S1 := S.below b1
  clear S b1
  have hx := S1.bk 0 rfl
  go_wp2_with (with_reducible refine wpList_load_rowG (by kernel_rfl) 31 (.tmp 1) rfl X (by kernel_rfl) _ _ (0, 0) _ hx Tryz.underlying31 rfl (by kernel_rfl) ?_)
  (with_reducible refine (HF _ S1.old).out.mono ?_); rintro e w2 ⟨q, rfl, hq, b2⟩
  have S2 := S1.below b2
  have HQ := Lib.hid hq
  clear S1 hx HF b2 hq
  cases q with
  | false =>
    go_wp2_with fail
    (with_reducible refine (HA _ S2.old).out.mono ?_); rintro e wq ⟨rfl, bq⟩
    have Sq := S2.below bq
    go_wp2
    go_ret
    exact ⟨rfl, HX.out ▸ Sq.old⟩
  | true =>
    have hn12 : n ≤ 12 := (HQ.out rfl).2.1
    have HOK := Lib.hid (show TickOk t L n from ⟨⟨HTB.out, (HQ.out rfl).1, HB.out, HL.out, (HQ.out rfl).2.2.1⟩, (HQ.out rfl).2.2.2.1, (HQ.out rfl).2.2.2.2⟩)
    have hn2 : n ≤ 100 := by have := (HQ.out rfl).2.1; omega
    have hn3 : n ≤ 200 := by omega
    clear HQ HA
    obtain ⟨R, hR⟩ : ∃ R, tickR t L = R := ⟨_, rfl⟩
    have hfew := tick_few (t := t) HL.out
    have HRL := Lib.hid (HOK.out.tick hn3).bd.2.2.2.2.1
    have HT := Lib.hid (tick_is t A n cap L (Lib.hid HOK.out.bd.1) (Lib.hid HOK.out.bd.2.1) (Lib.hid HOK.out.bd.2.2.1) (Lib.hid HOK.out.bd.2.2.2.1) (Lib.hid HOK.out.bd.2.2.2.2.1) hn2 (Lib.hid HOK.out.bd.2.2.2.2.2.1) (Lib.hid HOK.out.bd.2.2.2.2.2.2) HCZ w2 (HD.out.below S2.old (Nat.le_refl _)) (Lib.hid ((HP.out.below S2.old (Nat.le_refl _)).wide S2.old.size)))
    have HRF := fun W hp => Lib.hid (rtick16_is t A n cap L (Lib.hid HOK.out.bd.1) (Lib.hid HOK.out.bd.2.1) (Lib.hid HOK.out.bd.2.2.1) (Lib.hid HOK.out.bd.2.2.2.1) HL hn2 HTB HB HCZ W hp)
    rw [hR] at HT HRF hfew HRL
    clear hR
    have hm1 : R.2.length ≤ 1000 := by
      have : n * (n + 2) ≤ 12 * 14 := Nat.mul_le_mul hn12 (by omega)
      omega
    have HMM := Lib.hid hm1
    clear hfew hm1
    have hx := S2.bk 0 rfl
    go_wp2_with (with_reducible refine wpList_load_row rfl 31 (.tmp 1) rfl X (by kernel_rfl) _ _ (0, 0) _ hx Tryz.underlying31 rfl (by kernel_rfl) ?_)
    (with_reducible refine HT.out.mono ?_); rintro e w3 ⟨D, c, v, rfl, hzd, k3, hO⟩
    have S3 := TS.take S2 k3
    clear S2 hx HT k3 hzd
    go_upto_region 4 with (refine wpList_store_row rfl 31 _ _ rfl _ _ rfl rfl _ _ (heap_alloc_new _ _) (by kernel_rfl) (by kernel_rfl) (by kernel_rfl) ?_)
    rw [alloc_row]
    have bN := new_below w3 (.cells (lT R.1.1 D n c).toArray 31)
    have S4 := S3.al rfl 31 (lT R.1.1 D n c)
    have hO4 := hO.below bN
    obtain ⟨U, hU⟩ : ∃ q, w3.heap.size = q := ⟨_, rfl⟩
    rw [hU] at S4 ⊢
    obtain ⟨w4, hww⟩ : ∃ y, w3.alloc (.cells (lT R.1.1 D n c).toArray 31) = y := ⟨_, rfl⟩
    rw [hww] at S4 hO4 ⊢
    clear hww hU bN S3 hO
    have HR4 := Lib.hid (HRF w4 (Lib.hid ((HP.out.below S4.old (Nat.le_refl _)).wide S4.old.size))).out
    have hx := S4.hs.bk 1 rfl
    go_wp2_with (with_reducible refine wpList_load_row rfl 31 (.tmp 1) rfl X (by kernel_rfl) _ _ (0, 0) _ hx Tryz.underlying31 rfl (by kernel_rfl) ?_)
    (with_reducible refine HR4.out.mono ?_); rintro e w5 ⟨D2, c2, v2, rfl, hz2, hP5, hO5, b5⟩
    have S5 := S4.below b5
    have hQ5 := hO4.below b5
    clear S4 hx HR4 HRF hz2 b5 hO4
    go_upto_region 5 with (refine wpList_store_row rfl 31 _ _ rfl _ _ rfl rfl _ _ (heap_alloc_new _ _) (by kernel_rfl) (by kernel_rfl) (by kernel_rfl) ?_)
    have hP6 := hP5.below (new_below w5 (.cells (lT R.1.1 D2 n c2).toArray 31)) (Nat.le_refl _)
    rw [alloc_row]
    have bN := new_below w5 (.cells (lT R.1.1 D2 n c2).toArray 31)
    have S6 := S5.al rfl 31 (lT R.1.1 D2 n c2)
    have hO6 := hO5.below bN
    have hQ6 := hQ5.below bN
    obtain ⟨V, hU⟩ : ∃ q, w5.heap.size = q := ⟨_, rfl⟩
    rw [hU] at S6 hP6 ⊢
    obtain ⟨w6, hww⟩ : ∃ y, w5.alloc (.cells (lT R.1.1 D2 n c2).toArray 31) = y := ⟨_, rfl⟩
    rw [hww] at S6 hP6 hO6 hQ6 ⊢
    clear hww hU bN S5 hO5 hQ5
    obtain ⟨A1, q1, rfl⟩ := hQ6.shape
    obtain ⟨A2, q2, rfl⟩ := hO6.shape
    obtain ⟨m, hm⟩ : ∃ m, R.2.length = m := ⟨_, rfl⟩
    have HM := Lib.hid hm
    rw [show ((R.1.2, R.2) : List Po × List Ou).2.length = m from hm] at hQ6 hO6 ⊢
    have hPV : PoAt w6 D2 w6.heap.size R.1.2 := hP6.wide (by have := S6.hs.lt 0 rfl; omega)
    have HS := Lib.hid (rsame_alike R.1.1 D D2 n c c2 R.1.2 HRL hn3 w6 (Lib.hid S6.ports) (Lib.hid hPV))
    clear hm hP5 hP6 hPV
    have hx := S6.hs.bk 1 rfl
    have hy := S6.hs.bk 0 rfl
    go_wp2_with (first | (with_reducible refine wpList_load_row rfl 31 (.tmp 3) rfl U (by kernel_rfl) _ _ (0, 0) _ hx Tryz.underlying31 rfl (by kernel_rfl) ?_) | (with_reducible refine wpList_load_row rfl 31 (.tmp 5) rfl V (by kernel_rfl) _ _ (0, 0) _ hy Tryz.underlying31 rfl (by kernel_rfl) ?_))
    (with_reducible refine HS.out.mono ?_); rintro e w7 ⟨rfl, b7⟩
    have S7 := S6.below b7
    have hO7 := hO6.below b7
    have hQ7 := hQ6.below b7
    clear S6 hO6 hQ6 hx hy HS b7
    have HSO := Lib.hid (rsame_outs R.2 A1 A2 m q1 q2 _ _ HM (by rw [← HM.out]; exact HMM.out) w7 (Lib.hid hQ7) (Lib.hid hO7))
    clear hO7 hQ7
    go_wp2_with fail
    (with_reducible refine HSO.out.mono ?_); rintro e w8 ⟨rfl, b8⟩
    have S8 := S7.below b8
    go_wp2
    go_ret
    exact ⟨rfl, HX.out ▸ S8.old⟩

end Go.Proofs.YtnmnihlhcokjpaaGreatDoor
