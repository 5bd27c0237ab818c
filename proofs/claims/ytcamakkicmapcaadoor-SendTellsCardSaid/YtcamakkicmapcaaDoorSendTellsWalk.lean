/- The law SendTells, walked. -/
import Derived.Test.YtcamakkicmapcaaDoorPk11
import Derived.Test.YtcamakkicmapcaaDoorPk12
import Derived.Test.YtcamakkicmapcaaDoorPk19
namespace Go.Proofs.YtcamakkicmapcaaDoor
set_option maxRecDepth 100000
open Go.ChangeShapes Go.WideShapes Go.ChangeAt Go.RowKit
set_option linter.unusedVariables false
set_option linter.unusedSimpArgs false

set_option maxHeartbeats 2000000 in
theorem SendTells_walk (t : Th) (A : Option Addr) (n cap : Nat) (L : List Po) (i : Int) (w : World) (hd : Hd w) (ht : ThB t) (hm : TmB t) (hL : L.length = n) (hn : n ≤ 9223372036854775807) (hz : A = none → cap = 0) (hb : ∀ x ∈ L, PoB x) (hp : PoAt w A w.heap.size L) (hi : (Lit.int .i64 i).wf = true) :
    Calls Tryd.prog 3 #[.agg (lT t A n cap).toArray, .int .i64 i] w fun e w' => e = .returned (.bool true) ∧ Below w.heap.size w w' := by
  have hi := bounds_i64 hi
  have HA := fun W (h : Below w.heap.size w W) => Lib.hid (awake14_is W (hd.below h (Nat.le_refl _)))
  have HD := Lib.hid hd
  have HB := Lib.hid hb
  have HTB := Lib.hid ht
  have HNB := Lib.hid (show (-9223372036854775808 ≤ t.n1 ∧ t.n1 ≤ 9223372036854775807 ∧ -9223372036854775808 ≤ t.n2 ∧ t.n2 ≤ 9223372036854775807 ∧ -9223372036854775808 ≤ t.n3 ∧ t.n3 ≤ 9223372036854775807) from hm)
  have HL := Lib.hid hL
  have HP := Lib.hid hp
  have HCZ := Lib.hid hz
  have HF := fun W (h : Below w.heap.size w W) => Lib.hid (fit_is t A n cap L HL hn W (Lib.hid ((HP.out.below h (Nat.le_refl _)).wide h.size)))
  clear hb hL hz hp ht hn hd hm
  obtain ⟨wb, hwb, S⟩ := hs_one w 31 (lT t A n cap)
  go_enter Tryd.func3, Tryd.ntmps3
  go_upto_region 1 with fail
  clear hwb
  obtain ⟨X, hX⟩ : ∃ X, w.heap.size = X := ⟨_, rfl⟩
  rw [hX] at S
  rw [hX]
  clear hX
  go_wp2_with fail
  (with_reducible refine (HA _ S.old).out.mono ?_); rintro e w1 ⟨rfl, b1⟩
  have S1 := S.below b1
  clear S b1
  have hx := S1.bk 0 rfl
  go_wp2_with (with_reducible refine wpList_load_rowG (by kernel_rfl) 31 (.tmp 2) rfl X (by kernel_rfl) _ _ (0, 0) _ hx Tryd.underlying31 rfl (by kernel_rfl) ?_)
  (with_reducible refine (HF _ S1.old).out.mono ?_); rintro e w2 ⟨q, rfl, hq, b2⟩
  have S2 := S1.below b2
  have HQ := Lib.hid hq
  clear S1 hx HF b2 hq
  cases q with
  | false =>
    go_wp2_with fail
    (with_reducible refine (HA _ S2.old).out.mono ?_); rintro e w3 ⟨rfl, b3⟩
    have S3 := S2.below b3
    clear S2 b3
    go_wp2
    go_ret
    exact ⟨rfl, S3.old⟩
  | true =>
    have HN := Lib.hid (HQ.out rfl).1
    have HU := Lib.hid (HQ.out rfl).2
    clear HQ
    have hn2 : n ≤ 200 := by have := HN.out; omega
    have HC := Lib.hid (sconf_is t A n cap L i hi HL hn2 HTB HNB HB HCZ _ (HD.out.below S2.old (Nat.le_refl _)) (Lib.hid ((HP.out.below S2.old (Nat.le_refl _)).wide S2.old.size)))
    have hx := S2.bk 0 rfl
    go_upto_region 3 with fail
    go_wp2_with (with_reducible refine wpList_load_rowG (by kernel_rfl) 31 (.tmp 2) rfl X (by kernel_rfl) _ _ (0, 0) _ hx Tryd.underlying31 rfl (by kernel_rfl) ?_)
    (with_reducible refine (HC).out.mono ?_); rintro e x1 ⟨D1, k1, v1, rfl, hz1, T1, hO1⟩
    have S_1a := S2.below T1.old
    go_upto_region 4 with (refine wpList_store_row rfl 31 _ _ rfl _ _ rfl rfl _ _ (heap_alloc_new _ _) (by kernel_rfl) (by kernel_rfl) (by kernel_rfl) ?_)
    rw [alloc_row]
    have bN := new_below x1 (.cells (lT t D1 n k1).toArray 31)
    have KU_1 := AN.new (t := t) (n := n) (R := (confR t L i)) hz1 T1.ports hO1
    have S_1 := S_1a.below bN
    obtain ⟨U, hG⟩ : ∃ G, x1.heap.size = G := ⟨_, rfl⟩
    rw [hG] at KU_1 ⊢
    obtain ⟨y1, hy⟩ : ∃ y, x1.alloc (.cells (lT t D1 n k1).toArray 31) = y := ⟨_, rfl⟩
    rw [hy] at S_1 KU_1  ⊢
    clear hy hG bN hz1 hO1 T1 S2 S_1a
    clear hx HC
    have HC := Lib.hid (rconf_is t A n cap L i HL hn2 HTB HNB HB hi HCZ _ (Lib.hid ((HP.out.below S_1.old (Nat.le_refl _)).wide S_1.old.size)))
    have hx := S_1.bk 0 rfl
    go_wp2_with (with_reducible refine wpList_load_rowG (by kernel_rfl) 31 (.tmp 2) rfl X (by kernel_rfl) _ _ (0, 0) _ hx Tryd.underlying31 rfl (by kernel_rfl) ?_)
    (with_reducible refine (HC).out.mono ?_); rintro e x2 ⟨D2, k2, v2, rfl, hz2, T2, hO2⟩
    have S_2a := S_1.below T2.old
    have KU_2a := KU_1.below T2.old
    go_upto_region 5 with (refine wpList_store_row rfl 31 _ _ rfl _ _ rfl rfl _ _ (heap_alloc_new _ _) (by kernel_rfl) (by kernel_rfl) (by kernel_rfl) ?_)
    rw [alloc_row]
    have bN := new_below x2 (.cells (lT t D2 n k2).toArray 31)
    have KV_2 := AN.new (t := t) (n := n) (R := (confR t L i)) hz2 T2.ports hO2
    have S_2 := S_2a.below bN
    have KU_2 := KU_2a.below bN
    obtain ⟨V, hG⟩ : ∃ G, x2.heap.size = G := ⟨_, rfl⟩
    rw [hG] at KV_2 ⊢
    obtain ⟨y2, hy⟩ : ∃ y, x2.alloc (.cells (lT t D2 n k2).toArray 31) = y := ⟨_, rfl⟩
    rw [hy] at S_2 KV_2 KU_2 ⊢
    clear hy hG bN hz2 hO2 T2 S_1 S_2a KU_1 KU_2a
    clear hx HC
    have HC := Lib.hid (sall_is t A n cap L HL hn2 HTB HNB HB HCZ _ (HD.out.below S_2.old (Nat.le_refl _)) (Lib.hid ((HP.out.below S_2.old (Nat.le_refl _)).wide S_2.old.size)))
    have hx := S_2.bk 0 rfl
    go_wp2_with (with_reducible refine wpList_load_rowG (by kernel_rfl) 31 (.tmp 2) rfl X (by kernel_rfl) _ _ (0, 0) _ hx Tryd.underlying31 rfl (by kernel_rfl) ?_)
    (with_reducible refine (HC).out.mono ?_); rintro e x3 ⟨D3, k3, v3, rfl, hz3, hP3, hO3, b3⟩
    have S_3a := S_2.below b3
    have KU_3a := KU_2.below b3
    have KV_3a := KV_2.below b3
    go_upto_region 6 with (refine wpList_store_row rfl 31 _ _ rfl _ _ rfl rfl _ _ (heap_alloc_new _ _) (by kernel_rfl) (by kernel_rfl) (by kernel_rfl) ?_)
    rw [alloc_row]
    have bN := new_below x3 (.cells (lT t D3 n k3).toArray 31)
    have KP_3 := AN.new (t := t) (n := n) (R := (allR t L n)) hz3 hP3 hO3
    have S_3 := S_3a.below bN
    have KU_3 := KU_3a.below bN
    have KV_3 := KV_3a.below bN
    obtain ⟨P, hG⟩ : ∃ G, x3.heap.size = G := ⟨_, rfl⟩
    rw [hG] at KP_3 ⊢
    obtain ⟨y3, hy⟩ : ∃ y, x3.alloc (.cells (lT t D3 n k3).toArray 31) = y := ⟨_, rfl⟩
    rw [hy] at S_3 KP_3 KU_3 KV_3 ⊢
    clear hy hG bN hz3 hO3 hP3 b3 S_2 S_3a KU_2 KU_3a KV_2 KV_3a
    clear hx HC
    have HC := Lib.hid (rall_is t A n cap L HL hn2 HTB HNB HB HCZ _ (Lib.hid ((HP.out.below S_3.old (Nat.le_refl _)).wide S_3.old.size)))
    have hx := S_3.bk 0 rfl
    go_wp2_with (with_reducible refine wpList_load_rowG (by kernel_rfl) 31 (.tmp 2) rfl X (by kernel_rfl) _ _ (0, 0) _ hx Tryd.underlying31 rfl (by kernel_rfl) ?_)
    (with_reducible refine (HC).out.mono ?_); rintro e x4 ⟨D4, k4, v4, rfl, hz4, hP4, hO4, b4⟩
    have S_4a := S_3.below b4
    have KU_4a := KU_3.below b4
    have KV_4a := KV_3.below b4
    have KP_4a := KP_3.below b4
    go_upto_region 7 with (refine wpList_store_row rfl 31 _ _ rfl _ _ rfl rfl _ _ (heap_alloc_new _ _) (by kernel_rfl) (by kernel_rfl) (by kernel_rfl) ?_)
    rw [alloc_row]
    have bN := new_below x4 (.cells (lT t D4 n k4).toArray 31)
    have KQ_4 := AN.new (t := t) (n := n) (R := (allR t L n)) hz4 hP4 hO4
    have S_4 := S_4a.below bN
    have KU_4 := KU_4a.below bN
    have KV_4 := KV_4a.below bN
    have KP_4 := KP_4a.below bN
    obtain ⟨Q, hG⟩ : ∃ G, x4.heap.size = G := ⟨_, rfl⟩
    rw [hG] at KQ_4 ⊢
    obtain ⟨y4, hy⟩ : ∃ y, x4.alloc (.cells (lT t D4 n k4).toArray 31) = y := ⟨_, rfl⟩
    rw [hy] at S_4 KQ_4 KU_4 KV_4 KP_4 ⊢
    clear hy hG bN hz4 hO4 hP4 b4 S_3 S_4a KU_3 KU_4a KV_3 KV_4a KP_3 KP_4a
    clear hx HC
    obtain ⟨A1, q1, rfl⟩ := KU_4.outs.shape
    obtain ⟨A2, q2, rfl⟩ := KV_4.outs.shape
    obtain ⟨A3, q3, rfl⟩ := KP_4.outs.shape
    obtain ⟨A4, q4, rfl⟩ := KQ_4.outs.shape
    have hl1 : (confR t L i).1.length = n := by rw [confR_len, HL.out]
    have hf1 := confR_few t L i
    have hl2 : (allR t L n).1.length = n := by rw [(allR_bd (t := t) HB.out n).1, HL.out]
    have hf2 := (allR_bd (t := t) HB.out n).2.1
    have HL1 := Lib.hid hl1
    have HL2 := Lib.hid hl2
    obtain ⟨m1, hm1⟩ : ∃ m, (confR t L i).2.length = m := ⟨_, rfl⟩
    obtain ⟨m2, hm2⟩ : ∃ m, (allR t L n).2.length = m := ⟨_, rfl⟩
    rw [hm1] at KU_4 KV_4 hf1 ⊢
    rw [hm2] at KP_4 KQ_4 hf2 ⊢
    have Hm1 := Lib.hid hm1
    have Hm2 := Lib.hid hm2
    clear hm1 hm2 hl1 hl2
    have HS := Lib.hid (rsame_alike t D1 D2 n k1 k2 (confR t L i).1 HL1 hn2 y4 (Lib.hid KU_4.ports) (Lib.hid KV_4.ports))
    have hx := KU_4.bk
    have hy := KV_4.bk
    go_wp2_with (first | (with_reducible refine wpList_load_rowG (by kernel_rfl) 31 (.tmp 5) rfl U (by kernel_rfl) _ _ (0, 0) _ hx Tryd.underlying31 rfl (by kernel_rfl) ?_) | (with_reducible refine wpList_load_rowG (by kernel_rfl) 31 (.tmp 7) rfl V (by kernel_rfl) _ _ (0, 0) _ hy Tryd.underlying31 rfl (by kernel_rfl) ?_))
    (with_reducible refine (HS).out.mono ?_); rintro e y5 ⟨rfl, b5⟩
    have S_5 := S_4.below b5
    have KU_5 := KU_4.below b5
    have KV_5 := KV_4.below b5
    have KP_5 := KP_4.below b5
    have KQ_5 := KQ_4.below b5
    clear S_4 b5 KU_4 KV_4 KP_4 KQ_4
    clear hx hy HS
    have HS := Lib.hid (rsame_outs (confR t L i).2 A1 A2 m1 q1 q2 0 0 Hm1 (by omega) y5 (Lib.hid KU_5.outs) (Lib.hid KV_5.outs))
    go_wp2_with fail
    (with_reducible refine (HS).out.mono ?_); rintro e y6 ⟨rfl, b6⟩
    have S_6 := S_5.below b6
    have KU_6 := KU_5.below b6
    have KV_6 := KV_5.below b6
    have KP_6 := KP_5.below b6
    have KQ_6 := KQ_5.below b6
    clear S_5 b6 KU_5 KV_5 KP_5 KQ_5
    clear HS
    have HS := Lib.hid (rsame_alike t D3 D4 n k3 k4 (allR t L n).1 HL2 hn2 y6 (Lib.hid KP_6.ports) (Lib.hid KQ_6.ports))
    have hx := KP_6.bk
    have hy := KQ_6.bk
    go_wp2_with (first | (with_reducible refine wpList_load_rowG (by kernel_rfl) 31 (.tmp 9) rfl P (by kernel_rfl) _ _ (0, 0) _ hx Tryd.underlying31 rfl (by kernel_rfl) ?_) | (with_reducible refine wpList_load_rowG (by kernel_rfl) 31 (.tmp 11) rfl Q (by kernel_rfl) _ _ (0, 0) _ hy Tryd.underlying31 rfl (by kernel_rfl) ?_))
    (with_reducible refine (HS).out.mono ?_); rintro e y7 ⟨rfl, b7⟩
    have S_7 := S_6.below b7
    have KU_7 := KU_6.below b7
    have KV_7 := KV_6.below b7
    have KP_7 := KP_6.below b7
    have KQ_7 := KQ_6.below b7
    clear S_6 b7 KU_6 KV_6 KP_6 KQ_6
    clear hx hy HS
    have HS := Lib.hid (rsame_outs (allR t L n).2 A3 A4 m2 q3 q4 0 0 Hm2 (by omega) y7 (Lib.hid KP_7.outs) (Lib.hid KQ_7.outs))
    go_wp2_with fail
    (with_reducible refine (HS).out.mono ?_); rintro e y8 ⟨rfl, b8⟩
    have S_8 := S_7.below b8
    have KU_8 := KU_7.below b8
    have KV_8 := KV_7.below b8
    have KP_8 := KP_7.below b8
    have KQ_8 := KQ_7.below b8
    clear S_7 b8 KU_7 KV_7 KP_7 KQ_7
    clear HS
    have BO := S_8.old
    clear S_8 KU_8 KV_8 KP_8 KQ_8
    go_wp2
    go_ret
    exact ⟨rfl, BO⟩

end Go.Proofs.YtcamakkicmapcaaDoor
