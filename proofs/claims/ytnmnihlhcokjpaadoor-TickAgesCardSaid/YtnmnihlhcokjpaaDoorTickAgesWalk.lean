/- The law TickAges, walked. -/
import Derived.Test.YtnmnihlhcokjpaaDoorPk14
import Derived.Test.YtnmnihlhcokjpaaDoorPk15
import Derived.Test.YtnmnihlhcokjpaaDoorPk16
import Derived.Test.YtnmnihlhcokjpaaDoorPk12
import Derived.Test.YtnmnihlhcokjpaaDoorPk02
import Derived.Test.YtnmnihlhcokjpaaDoorPk03
import Derived.BigQuiet
import Derived.Deep.QuietTactic
import Derived.LoopTactic
import Derived.Deep.DeepCutAuto
namespace Go.Proofs.YtnmnihlhcokjpaaDoor
set_option maxRecDepth 100000
open Go.ChangeShapes Go.WideShapes Go.ChangeAt Go.RowKit
set_option linter.unusedVariables false
set_option linter.unusedSimpArgs false

set_option maxHeartbeats 8000000 in
theorem TickAges_walk (t : Th) (A : Option Addr) (n cap : Nat) (L : List Po) (w : World) (hd : Hd w) (ht : ThB t) (hm : TmB t) (hL : L.length = n) (hn : n ≤ 9223372036854775807) (hz : A = none → cap = 0) (hb : ∀ x ∈ L, PoB x) (hp : PoAt w A w.heap.size L) :
    Calls Tryd.prog 3 #[.agg (lT t A n cap).toArray] w fun e w' => e = .returned (.bool true) ∧ Below w.heap.size w w' := by
  have HA := fun W (h : Below w.heap.size w W) => Lib.hid (awake16_is W (hd.below h (Nat.le_refl _)))
  have HD := Lib.hid hd
  have HB := Lib.hid hb
  have HTB := Lib.hid ht
  have HL := Lib.hid hL
  have HP := Lib.hid hp
  have HCZ := Lib.hid hz
  have HF := fun W (h : Below w.heap.size w W) => Lib.hid (fits16_is t A n cap L HL hn W (Lib.hid ((HP.out.below h (Nat.le_refl _)).wide h.size)))
  clear hb hL hz hp ht hn hd hm
  obtain ⟨wb, hwb, S⟩ := hs_one w 31 (lT t A n cap)
  go_enter Tryd.func3, Tryd.ntmps3
  go_upto_region 1 with fail
  clear hwb
  obtain ⟨X, hX⟩ : ∃ X, w.heap.size = X := ⟨_, rfl⟩
  rw [hX] at S ⊢
  have HX := Lib.hid hX
  clear hX
  go_wp2_with fail
  (with_reducible refine (HA _ S.old).out.mono ?_); rintro e w1 ⟨rfl, b1⟩
  have S1 := S.below b1
  clear S b1
  have hx := S1.bk 0 rfl
  go_wp2_with (with_reducible refine wpList_load_rowG (by kernel_rfl) 31 (.tmp 1) rfl X (by kernel_rfl) _ _ (0, 0) _ hx Tryd.underlying31 rfl (by kernel_rfl) ?_)
  (with_reducible refine (HF _ S1.old).out.mono ?_); rintro e w2 ⟨q, rfl, hq, b2⟩
  have S2 := S1.below b2
  have HQ := Lib.hid hq
  clear S1 hx HF b2 hq
  cases q with
  | false =>
    go_wp2_with fail
    (with_reducible refine (HA _ S2.old).out.mono ?_); rintro e wq ⟨rfl, bq⟩
    have Sq := S2.below bq
    go_wp2
    go_ret
    exact ⟨rfl, HX.out ▸ Sq.old⟩
  | true =>
    have HOK := Lib.hid (show TickOk t L n from ⟨⟨HTB.out, (HQ.out rfl).1, HB.out, HL.out, (HQ.out rfl).2.2.1⟩, (HQ.out rfl).2.2.2.1, (HQ.out rfl).2.2.2.2⟩)
    have hn2 : n ≤ 100 := by have := (HQ.out rfl).2.1; omega
    have hn3 : n ≤ 200 := by omega
    clear HQ HA
    obtain ⟨R, hR⟩ : ∃ R, tickR t L = R := ⟨_, rfl⟩
    have HAG := Lib.hid (age_tick t L)
    have HRL := Lib.hid (HOK.out.tick hn3).bd.2.2.2.2.1
    have HT := Lib.hid (tick_is t A n cap L (Lib.hid HOK.out.bd.1) (Lib.hid HOK.out.bd.2.1) (Lib.hid HOK.out.bd.2.2.1) (Lib.hid HOK.out.bd.2.2.2.1) (Lib.hid HOK.out.bd.2.2.2.2.1) hn2 (Lib.hid HOK.out.bd.2.2.2.2.2.1) (Lib.hid HOK.out.bd.2.2.2.2.2.2) HCZ w2 (HD.out.below S2.old (Nat.le_refl _)) (Lib.hid ((HP.out.below S2.old (Nat.le_refl _)).wide S2.old.size)))
    rw [hR] at HT HAG HRL
    clear hR
    have hx := S2.bk 0 rfl
    go_wp2_with (with_reducible refine wpList_load_row rfl 31 (.tmp 1) rfl X (by kernel_rfl) _ _ (0, 0) _ hx Tryd.underlying31 rfl (by kernel_rfl) ?_)
    (with_reducible refine HT.out.mono ?_); rintro e w3 ⟨D, c, v, rfl, hzd, k3, hO⟩
    have S3 := TS.take S2 k3
    clear S2 hx HT k3 hO hzd
    go_upto_region 4 with (refine wpList_store_row rfl 31 _ _ rfl _ _ rfl rfl _ _ (heap_alloc_new _ _) (by kernel_rfl) (by kernel_rfl) (by kernel_rfl) ?_)
    rw [alloc_row]
    have bN := new_below w3 (.cells (lT R.1.1 D n c).toArray 31)
    have S4 := S3.al rfl 31 (lT R.1.1 D n c)
    obtain ⟨U, hU⟩ : ∃ q, w3.heap.size = q := ⟨_, rfl⟩
    rw [hU] at S4 ⊢
    obtain ⟨w4, hww⟩ : ∃ y, w3.alloc (.cells (lT R.1.1 D n c).toArray 31) = y := ⟨_, rfl⟩
    rw [hww] at S4  ⊢
    clear hww hU bN S3 
    go_wp2
    go_loopw [5] (fun i wr => ∃ k : Nat, k ≤ n ∧ i = .int .i64 k ∧ TS w [(U, 31, lT R.1.1 D n c), (X, 31, lT t A n cap)] D R.1.2 wr) (fun i _ => n - (intOf i).toNat)
    case atStart => exact ⟨0, Nat.zero_le _, rfl, S4⟩
    case round =>
      clear S4
      obtain ⟨k, hk, rfl, S⟩ := hrel
      have c18 := S.hs.cell 0 18 rfl rfl
      by_cases hkn : k < n
      · obtain ⟨y, hy⟩ := po_at HRL.out hkn
        have hki : (k : Int) < (n : Int) := by omega
        have hkz : ¬ (n : Int) ≤ (k : Int) := by omega
        obtain ⟨g, e, -⟩ := S.at hy
        subst e
        have p9 := S.port_cell hy 9 rfl
        have p10 := S.port_cell hy 10 rfl
        have x4 := S.hs.cell 1 4 rfl rfl
        have hag := HAG.out y (List.mem_of_getElem? hy)
        obtain ⟨ao, hao⟩ : ∃ b, y.ao = b := ⟨_, rfl⟩
        unfold AgeLt at hag
        rw [hao] at p9 hag
        have HAO := Lib.hid hag
        clear hao hag hy
        cases ao with
        | false =>
          go_upto_region 7 with fail
          go_quiet (fail)
          have S' := S.below (show Below wr.heap.size wr (wr.drewN nq) from ⟨rfl, rfl, rfl, Nat.le_refl _, fun _ _ => rfl⟩)
          generalize wr.drewN nq = w5 at S' ⊢
          clear S c18 p9 p10 x4
          go_wp2
          go_roundw
          case rel => exact ⟨k + 1, hkn, by go_num, S'⟩
          case measure => simp [intOf]; omega
        | true =>
          have hge : decide (t.n1 ≤ y.av) = false := by have := HAO.out rfl; simp; omega
          go_upto_region 7 with fail
          go_quiet (fail)
          have S' := S.below (show Below wr.heap.size wr (wr.drewN nq) from ⟨rfl, rfl, rfl, Nat.le_refl _, fun _ _ => rfl⟩)
          generalize wr.drewN nq = w5 at S' ⊢
          clear S c18 p9 p10 x4
          go_wp2
          go_roundw
          case rel => exact ⟨k + 1, hkn, by go_num, S'⟩
          case measure => simp [intOf]; omega
      · have hkz : ¬ (k : Int) < (n : Int) := by omega
        have S' := S.hs.tail
        clear S
        go_upto_region 9 with fail
        clear c18
        have HS := Lib.hid (hsettle_is t A n cap L HL hn3 HTB HB HCZ wr (HD.out.below S'.old (Nat.le_refl _)) (Lib.hid ((HP.out.below S'.old (Nat.le_refl _)).wide S'.old.size)))
        have HOK2 := Lib.hid (HOK.out.settle hn3)
        have HRT := Lib.hid (root_tick (t := t) (L := L))
        obtain ⟨F, hF⟩ : ∃ F, settleR t L = F := ⟨_, rfl⟩
        rw [hF] at HS HOK2 HRT
        clear hF
        have hx := S'.bk 0 rfl
        go_wp2_with (with_reducible refine wpList_load_row rfl 31 (.tmp 1) rfl X (by kernel_rfl) _ _ (0, 0) _ hx Tryd.underlying31 rfl (by kernel_rfl) ?_)
        (with_reducible refine HS.out.mono ?_); rintro e w5 ⟨D2, c2, v2, rfl, hz2, k5, hO5⟩
        have S5 := TS.take S' k5
        have HZ2 := Lib.hid hz2
        clear S' hx HS k5 hO5 hz2
        go_upto_region 10 with (refine wpList_store_row rfl 31 _ _ rfl _ _ rfl rfl _ _ (heap_alloc_new _ _) (by kernel_rfl) (by kernel_rfl) (by kernel_rfl) ?_)
        rw [alloc_row]
        have bN := new_below w5 (.cells (lT F.1.1 D2 n c2).toArray 31)
        have S6 := S5.al rfl 31 (lT F.1.1 D2 n c2)
        obtain ⟨V, hU⟩ : ∃ q, w5.heap.size = q := ⟨_, rfl⟩
        rw [hU] at S6 ⊢
        obtain ⟨w6, hww⟩ : ∃ y, w5.alloc (.cells (lT F.1.1 D2 n c2).toArray 31) = y := ⟨_, rfl⟩
        rw [hww] at S6  ⊢
        clear hww hU bN S5 
        have HT := Lib.hid (tick_is F.1.1 D2 n c2 F.1.2 (Lib.hid HOK2.out.bd.1) (Lib.hid HOK2.out.bd.2.1) (Lib.hid HOK2.out.bd.2.2.1) (Lib.hid HOK2.out.bd.2.2.2.1) (Lib.hid HOK2.out.bd.2.2.2.2.1) hn2 (Lib.hid HOK2.out.bd.2.2.2.2.2.1) (Lib.hid HOK2.out.bd.2.2.2.2.2.2) HZ2 w6 (HD.out.below S6.old (Nat.le_refl _)) (Lib.hid S6.ports))
        obtain ⟨Q, hQ⟩ : ∃ R, tickR F.1.1 F.1.2 = R := ⟨_, rfl⟩
        rw [hQ] at HT HRT
        clear hQ
        have hx := S6.hs.bk 0 rfl
        go_wp2_with (with_reducible refine wpList_load_row rfl 31 (.tmp 6) rfl V (by kernel_rfl) _ _ (0, 0) _ hx Tryd.underlying31 rfl (by kernel_rfl) ?_)
        (with_reducible refine HT.out.mono ?_); rintro e w7 ⟨D3, c3, v3, rfl, hz3, k7, hO7⟩
        have S7 := TS.take S6.hs k7
        clear S6 hx HT k7 hO7 hz3
        go_upto_region 11 with (refine wpList_store_row rfl 31 _ _ rfl _ _ rfl rfl _ _ (heap_alloc_new _ _) (by kernel_rfl) (by kernel_rfl) (by kernel_rfl) ?_)
        rw [alloc_row]
        have bN := new_below w7 (.cells (lT Q.1.1 D3 n c3).toArray 31)
        have S8 := S7.al rfl 31 (lT Q.1.1 D3 n c3)
        obtain ⟨Z, hU⟩ : ∃ q, w7.heap.size = q := ⟨_, rfl⟩
        rw [hU] at S8 ⊢
        obtain ⟨w8, hww⟩ : ∃ y, w7.alloc (.cells (lT Q.1.1 D3 n c3).toArray 31) = y := ⟨_, rfl⟩
        rw [hww] at S8  ⊢
        clear hww hU bN S7 
        obtain ⟨qa, hqa⟩ : ∃ b, decide (F.1.1.ro = F.1.1.ow) = b := ⟨_, rfl⟩
        have HI := fun W => Lib.hid (isroot_is F.1.1 D2 n c2 qa (Lib.hid hqa) W)
        have HQA := Lib.hid hqa
        clear hqa
        have hx := S8.hs.bk 1 rfl
        go_wp2_with (with_reducible refine wpList_load_row rfl 31 (.tmp 6) rfl V (by kernel_rfl) _ _ (0, 0) _ hx Tryd.underlying31 rfl (by kernel_rfl) ?_)
        (with_reducible refine (HI _).out.mono ?_); rintro e w9 ⟨rfl, b9⟩
        have S9 := S8.below b9
        clear S8 hx HI b9
        cases qa with
        | false =>
          go_wp2
          go_ret
          exact ⟨rfl, HX.out ▸ S9.old⟩
        | true =>
          have hr := HRT.out (of_decide_eq_true HQA.out)
          have HI := fun W => Lib.hid (isroot_is Q.1.1 D3 n c3 true (Lib.hid (decide_eq_true hr)) W)
          have hx := S9.hs.bk 0 rfl
          go_wp2_with (with_reducible refine wpList_load_rowG (by kernel_rfl) 31 (.tmp 8) rfl Z (by kernel_rfl) _ _ (0, 0) _ hx Tryd.underlying31 rfl (by kernel_rfl) ?_)
          (with_reducible refine (HI _).out.mono ?_); rintro e wa ⟨rfl, ba⟩
          have Sa := S9.below ba
          go_wp2
          go_ret
          exact ⟨rfl, HX.out ▸ Sa.old⟩

end Go.Proofs.YtnmnihlhcokjpaaDoor
