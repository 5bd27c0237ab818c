/- What hearing bytes leaves: no program; then the law HeardBytes, walked. -/
import Derived.Test.YteplefdnnehdgaaGreatDoorPk15
import Derived.Test.YteplefdnnehdgaaGreatDoorPk16
import Derived.Test.YteplefdnnehdgaaGreatDoorPk19
import Derived.Test.YteplefdnnehdgaaGreatDoorPk26
import Derived.Test.YteplefdnnehdgaaGreatDoorPk01
import Derived.Deep.DeepCutAuto
import Derived.LoopTactic
import Derived.Deep.QuietTactic
import Derived.BigQuiet
namespace Go.Proofs.YteplefdnnehdgaaGreatDoor
set_option maxRecDepth 100000
open Go.ChangeShapes Go.WideShapes Go.ChangeAt Go.RowKit
set_option linter.unusedVariables false
set_option linter.unusedSimpArgs false

theorem allStep_few (t : Th) (s : List Po × List Ou) (i : Nat) : (allStep t s i).2.length ≤ s.2.length + 1 := by
  have h := confR_few t s.1 i
  unfold allStep
  split
  · split
    · rw [List.length_append]
      omega
    · omega
  · omega
theorem allR_few (t : Th) (L : List Po) : ∀ k, (allR t L k).2.length ≤ k
  | 0 => Nat.zero_le _
  | k + 1 => by
    have h1 := allR_few t L k
    have h2 := allStep_few t (allR t L k) k
    show (allStep t (allR t L k) k).2.length ≤ k + 1
    omega
theorem took_few {t : Th} {L : List Po} {k : Nat} {p : Po} {x : Bq} : (tookR t L k p x).2.length ≤ L.length + 2 := by
  have h1 := settle_few t (L.set k (heldP p x))
  have h2 := late_few (decide (t.ro = t.ow)) (settleR t (L.set k (heldP p x))).1.1 L.length
  unfold tookR
  dsimp only
  split
  · have h3 := allR_few (toldT (lateT (decide (t.ro = t.ow)) (settleR t (L.set k (heldP p x))).1.1) x) (settleR t (L.set k (heldP p x))).1.2 L.length
    simp only [List.length_append]
    omega
  · simp only [List.length_append]
    omega
theorem heard_few (t : Th) (L : List Po) (i : Int) (x : Bq) : (heardR t L i x).2.length ≤ L.length + 2 := by
  have h1 := confR_few t L i
  unfold heardR
  split
  · split
    · simp
    · split
      · simp
      · split
        · exact took_few
        · split
          · show (confR t L i).2.length ≤ _
            omega
          · simp
  · simp
theorem tcnh_few (t : Th) (L : List Po) (i : Int) : (tcnHeardR t L i).2.length ≤ L.length + 2 := by
  unfold tcnHeardR
  split
  · split
    · simp
    · rename_i p hp
      split
      · simp
      · split
        · have h1 := det_few t L.length
          have h2 := confR_few (detT t) (L.set i.toNat { p with ak := true }) i
          simp only [List.length_append]
          omega
        · simp
  · simp
theorem tcnh_len (t : Th) (L : List Po) (i : Int) : (tcnHeardR t L i).1.2.length = L.length := by
  unfold tcnHeardR
  split
  · split
    · rfl
    · split
      · rfl
      · split
        · exact (confR_len _ _ _).trans List.length_set
        · rfl
  · rfl
theorem bytes_few (t : Th) (L : List Po) (i : Int) (l : List UInt8) : (bytesR t L i l).1.2.length ≤ L.length + 2 := by
  unfold bytesR
  split
  · split
    · simp
    · split
      · simp
      · split
        · simp
        · split
          · exact tcnh_few _ _ _
          · exact heard_few _ _ _ _
  · simp
theorem bytes_len {t : Th} {L : List Po} {i : Int} {l : List UInt8} (hl : L.length ≤ 200) (ht : ThB t) (hn : (-9223372036854775808 ≤ t.n1 ∧ t.n1 ≤ 9223372036854775807 ∧ -9223372036854775808 ≤ t.n2 ∧ t.n2 ≤ 9223372036854775807 ∧ -9223372036854775808 ≤ t.n3 ∧ t.n3 ≤ 9223372036854775807)) (hb : ∀ z ∈ L, PoB z) : (bytesR t L i l).1.1.2.length = L.length := by
  unfold bytesR
  split
  · split
    · rfl
    · split
      · rfl
      · split
        · rfl
        · split
          · exact tcnh_len _ _ _
          · exact (heard_all hl ht hn hb (forQ_in _ _ _)).2.2.2
  · rfl
theorem bytes_bad {t : Th} {L : List Po} {i : Int} {l : List UInt8} (h : (bytesR t L i l).2 ≠ 0) : (bytesR t L i l).1 = ((t, L), []) := by
  revert h
  unfold bytesR
  split
  · split
    · exact fun _ => rfl
    · split
      · exact fun _ => rfl
      · split
        · exact fun _ => rfl
        · split
          · exact fun h => absurd rfl h
          · exact fun h => absurd rfl h
  · exact fun _ => rfl

set_option maxHeartbeats 4000000 in
theorem HeardBytes_walk (t : Th) (A : Option Addr) (n cap : Nat) (L : List Po) (i : Int) (A2 : Option Addr) (m c2 : Nat) (z : List Int) (w : World) (hd : Hd w) (ht : ThB t) (hm : TmB t) (hL : L.length = n) (hn : n ≤ 9223372036854775807) (hz : A = none → cap = 0) (hb : ∀ x ∈ L, PoB x) (hp : PoAt w A w.heap.size L) (hi : (Lit.int .i64 i).wf = true) (hr : IsRow .u8 w A2 m c2 z) :
    Calls Tryz.prog 3 #[.agg (lT t A n cap).toArray, .int .i64 i, .slice A2 m c2] w fun e w' => e = .returned (.bool true) ∧ Below w.heap.size w w' := by
  have hi := bounds_i64 hi
  obtain ⟨l, hlm, hrb, hmc, hm64⟩ := bytes_in hr
  have HRB := Lib.hid hrb
  clear hr hrb
  have HA := fun W (h : Below w.heap.size w W) => Lib.hid (awake15_is W (hd.below h (Nat.le_refl _)))
  have HD := Lib.hid hd
  have HB := Lib.hid hb
  have HTB := Lib.hid ht
  have HNB := Lib.hid (show (-9223372036854775808 ≤ t.n1 ∧ t.n1 ≤ 9223372036854775807 ∧ -9223372036854775808 ≤ t.n2 ∧ t.n2 ≤ 9223372036854775807 ∧ -9223372036854775808 ≤ t.n3 ∧ t.n3 ≤ 9223372036854775807) from hm)
  have HL := Lib.hid hL
  have HP := Lib.hid hp
  have HCZ := Lib.hid hz
  have HF := fun W (h : Below w.heap.size w W) => Lib.hid (fit_is t A n cap L HL hn W (Lib.hid ((HP.out.below h (Nat.le_refl _)).wide h.size)))
  clear hb hL hz hp ht hn hd hm
  obtain ⟨wb, hwb, S⟩ := hs_one w 31 (lT t A n cap)
  go_enter Tryz.func3, Tryz.ntmps3
  go_upto_region 1 with fail
  clear hwb
  obtain ⟨X, hX⟩ : ∃ X, w.heap.size = X := ⟨_, rfl⟩
  rw [hX] at S
  rw [hX]
  clear hX
  go_wp2_with fail
  (with_reducible refine (HA _ S.old).out.mono ?_); rintro e w1 ⟨rfl, b1⟩
  have S1 := S.below b1
  clear S b1
  have hx := S1.bk 0 rfl
  go_wp2_with (with_reducible refine wpList_load_rowG (by kernel_rfl) 31 (.tmp 3) rfl X (by kernel_rfl) _ _ (0, 0) _ hx Tryz.underlying31 rfl (by kernel_rfl) ?_)
  (with_reducible refine (HF _ S1.old).out.mono ?_); rintro e w2 ⟨q, rfl, hq, b2⟩
  have S2 := S1.below b2
  have HQ := Lib.hid hq
  clear S1 hx HF b2 hq
  cases q with
  | false =>
    go_wp2_with fail
    (with_reducible refine (HA _ S2.old).out.mono ?_); rintro e wq ⟨rfl, bq⟩
    have Sq := S2.below bq
    go_wp2
    go_ret
    exact ⟨rfl, Sq.old⟩
  | true =>
    have HN := Lib.hid (HQ.out rfl).1
    have HU := Lib.hid (HQ.out rfl).2
    clear HQ
    have hn2 : n ≤ 200 := by have := HN.out; omega
    by_cases hfew : 2000 < m
    · have hfi : (2000 : Int) < (m : Int) := by omega
      go_wp2_with fail
      (with_reducible refine (HA _ S2.old).out.mono ?_); rintro e wq ⟨rfl, bq⟩
      have Sq := S2.below bq
      go_wp2
      go_ret
      exact ⟨rfl, Sq.old⟩
    · have hfi : ¬ (2000 : Int) < (m : Int) := by omega
      have hm2 : m ≤ 10000 := by omega
      clear hm64
      go_upto_region 3 with fail
      clear hfi hfew
      have hs2 := bytes_len (i := i) (l := l) (show L.length ≤ 200 by rw [HL.out]; exact hn2) HTB.out HNB.out HB.out
      have hs3 := bytes_few t L i l
      have hs4 := @bytes_bad t L i l
      rw [HL.out] at hs2 hs3
      obtain ⟨S0, hS0⟩ : ∃ q, bytesR t L i l = q := ⟨_, rfl⟩
      rw [hS0] at hs2 hs3 hs4
      have HM := Lib.hid hs2
      have HS4 := Lib.hid hs4
      clear hs2 hs4
      have HC := Lib.hid (hbytes_is t A n cap L i A2 m c2 l hi hlm hm2 hmc HL hn2 HTB HNB HB HCZ _ (HD.out.below S2.old (Nat.le_refl _)) (Lib.hid ((HRB.out.below S2.old (Nat.le_refl _)).wide (Nat.le_refl 0) S2.old.size)) (Lib.hid ((HP.out.below S2.old (Nat.le_refl _)).wide S2.old.size)))
      rw [hS0] at HC
      have hx := S2.bk 0 rfl
      go_wp2_with (with_reducible refine wpList_load_rowG (by kernel_rfl) 31 (.tmp 3) rfl X (by kernel_rfl) _ _ (0, 0) _ hx Tryz.underlying31 rfl (by kernel_rfl) ?_)
      (with_reducible refine (HC).out.mono ?_); rintro e x1 ⟨D1, k1, v1, rfl, hz1, hP1, hO1, b1⟩
      have S_1a := S2.below b1
      go_upto_region 4 with (refine wpList_store_row rfl 31 _ _ rfl _ _ rfl rfl _ _ (heap_alloc_new _ _) (by kernel_rfl) (by kernel_rfl) (by kernel_rfl) ?_)
      rw [alloc_row]
      have bN := new_below x1 (.cells (lT S0.1.1.1 D1 n k1).toArray 31)
      have KU_1 := AN.new (t := S0.1.1.1) (n := n) (R := ((S0.1.1.2, S0.1.2) : List Po × List Ou)) hz1 hP1 hO1
      have S_1 := S_1a.below bN
      obtain ⟨U, hG⟩ : ∃ G, x1.heap.size = G := ⟨_, rfl⟩
      rw [hG] at KU_1 ⊢
      obtain ⟨y1, hy⟩ : ∃ y, x1.alloc (.cells (lT S0.1.1.1 D1 n k1).toArray 31) = y := ⟨_, rfl⟩
      rw [hy] at S_1 KU_1  ⊢
      clear hy hG bN hz1 hO1 hP1 b1 S2 S_1a
      clear hx HC
      have HC := Lib.hid (rbytes_is t A n cap L i A2 m c2 l hi hlm hm2 hmc HL hn2 HU HTB HNB HB HCZ _ (Lib.hid ((HRB.out.below S_1.old (Nat.le_refl _)).wide (Nat.le_refl 0) S_1.old.size)) (Lib.hid ((HP.out.below S_1.old (Nat.le_refl _)).wide S_1.old.size)))
      rw [hS0] at HC
      clear hS0
      have hx := S_1.bk 0 rfl
      go_wp2_with (with_reducible refine wpList_load_rowG (by kernel_rfl) 31 (.tmp 3) rfl X (by kernel_rfl) _ _ (0, 0) _ hx Tryz.underlying31 rfl (by kernel_rfl) ?_)
      (with_reducible refine (HC).out.mono ?_); rintro e x2 ⟨D2, k2, v2, rfl, hz2, hP2, hO2, b2⟩
      have S_2a := S_1.below b2
      have KU_2a := KU_1.below b2
      go_upto_region 5 with (refine wpList_store_row rfl 31 _ _ rfl _ _ rfl rfl _ _ (heap_alloc_new _ _) (by kernel_rfl) (by kernel_rfl) (by kernel_rfl) ?_)
      rw [alloc_row]
      have bN := new_below x2 (.cells (lT S0.1.1.1 D2 n k2).toArray 31)
      have KV_2 := AN.new (t := S0.1.1.1) (n := n) (R := ((S0.1.1.2, S0.1.2) : List Po × List Ou)) hz2 hP2 hO2
      have S_2 := S_2a.below bN
      have KU_2 := KU_2a.below bN
      obtain ⟨V, hG⟩ : ∃ G, x2.heap.size = G := ⟨_, rfl⟩
      rw [hG] at KV_2 ⊢
      obtain ⟨y2, hy⟩ : ∃ y, x2.alloc (.cells (lT S0.1.1.1 D2 n k2).toArray 31) = y := ⟨_, rfl⟩
      rw [hy] at S_2 KV_2 KU_2 ⊢
      clear hy hG bN hz2 hO2 hP2 b2 S_1 S_2a KU_1 KU_2a
      clear hx HC
      obtain ⟨A5, q1, e1⟩ := KU_2.outs.shape
      obtain ⟨A6, q2, e2⟩ := KV_2.outs.shape
      obtain ⟨mo, hmo⟩ : ∃ m, S0.1.2.length = m := ⟨_, rfl⟩
      obtain rfl : v1 = .slice A5 mo q1 := e1.trans (by rw [← hmo])
      obtain rfl : v2 = .slice A6 mo q2 := e2.trans (by rw [← hmo])
      rw [hmo] at hs3
      have HMO := Lib.hid hmo
      clear hmo e1 e2
      have HS := Lib.hid (rsame_alike S0.1.1.1 D1 D2 n k1 k2 S0.1.1.2 HM hn2 y2 (Lib.hid KU_2.ports) (Lib.hid KV_2.ports))
      have hx := KU_2.bk
      have hy := KV_2.bk
      go_wp2_with (first | (with_reducible refine wpList_load_rowG (by kernel_rfl) 31 (.tmp 7) rfl U (by kernel_rfl) _ _ (0, 0) _ hx Tryz.underlying31 rfl (by kernel_rfl) ?_) | (with_reducible refine wpList_load_rowG (by kernel_rfl) 31 (.tmp 10) rfl V (by kernel_rfl) _ _ (0, 0) _ hy Tryz.underlying31 rfl (by kernel_rfl) ?_))
      (with_reducible refine (HS).out.mono ?_); rintro e y3 ⟨rfl, b3⟩
      have S_3 := S_2.below b3
      have KU_3 := KU_2.below b3
      have KV_3 := KV_2.below b3
      clear S_2 b3 KU_2 KV_2
      clear hx hy HS
      have HS := Lib.hid (rsame_outs S0.1.2 A5 A6 mo q1 q2 0 0 HMO (by omega) y3 (Lib.hid KU_3.outs) (Lib.hid KV_3.outs))
      go_wp2_with fail
      (with_reducible refine (HS).out.mono ?_); rintro e y4 ⟨rfl, b4⟩
      have S_4 := S_3.below b4
      have KU_4 := KU_3.below b4
      have KV_4 := KV_3.below b4
      clear S_3 b4 KU_3 KV_3
      clear HS
      obtain ⟨fe, hfe⟩ : ∃ q, S0.2 = q := ⟨_, rfl⟩
      rw [hfe]
      have hnn : (fe != fe) = false := by simp
      have HFE := Lib.hid hfe
      clear hfe
      go_upto_region 7 with fail
      clear hnn
      obtain ⟨z0, hz0⟩ : ∃ b, (fe == 0) = b := ⟨_, rfl⟩
      cases z0 with
      | true =>
        have BO := S_4.old
        clear S_4 KU_4 KV_4
        go_wp2
        go_ret
        exact ⟨rfl, BO⟩
      | false =>
        have hbad := HS4.out (by rw [HFE.out]; intro e; rw [e] at hz0; simp at hz0)
        have b1 : S0.1.1.1 = t := by rw [hbad]
        have b2 : S0.1.1.2 = L := by rw [hbad]
        have b3 : mo = 0 := by rw [← HMO.out, hbad]; rfl
        subst b3
        have KU := KU_4
        rw [b1, b2] at KU
        clear KV_4 b1 b2 hbad
        have HS := Lib.hid (rsame_alike t D1 A n k1 cap L HL hn2 y4 (Lib.hid KU.ports) (Lib.hid ((HP.out.below S_4.old (Nat.le_refl _)).wide S_4.old.size)))
        have hu := KU.bk
        have hx := S_4.bk 0 rfl
        go_wp2_with (first | (with_reducible refine wpList_load_rowG (by kernel_rfl) 31 (.tmp 7) rfl U (by kernel_rfl) _ _ (0, 0) _ hu Tryz.underlying31 rfl (by kernel_rfl) ?_) | (with_reducible refine wpList_load_rowG (by kernel_rfl) 31 (.tmp 3) rfl X (by kernel_rfl) _ _ (0, 0) _ hx Tryz.underlying31 rfl (by kernel_rfl) ?_))
        (with_reducible refine HS.out.mono ?_); rintro e wz ⟨rfl, bz⟩
        have BO := (S_4.below bz).old
        clear S_4 KU_4 KU hu hx HS bz
        go_wp2
        go_ret
        exact ⟨rfl, BO⟩

end Go.Proofs.YteplefdnnehdgaaGreatDoor
