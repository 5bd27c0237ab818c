/- The law TickOnce, walked. -/
import Derived.Test.YtnmnihlhcokjpaaGreatDoorPk17
import Derived.Test.YtnmnihlhcokjpaaGreatDoorPk16
import Derived.Test.YtnmnihlhcokjpaaGreatDoorPk22
import Derived.Test.YtnmnihlhcokjpaaGreatDoorPk21
import Derived.Test.YtnmnihlhcokjpaaGreatDoorPk18
import Derived.BigQuiet
import Derived.Deep.QuietTactic
import Derived.LoopTactic
import Derived.Deep.DeepCutAuto
namespace Go.Proofs.YtnmnihlhcokjpaaGreatDoor
set_option maxRecDepth 100000
open Go.ChangeShapes Go.WideShapes Go.ChangeAt Go.RowKit
set_option linter.unusedVariables false
set_option linter.unusedSimpArgs false

theorem once_tick_few {t : Th} {L : List Po} {n : Nat} (h : L.length = n) : (tickR t L).2.length ≤ (n + 1) + 3 * (n * (n + 2)) := by
  have h0 := few_first (t := t) h
  have h1 := fold_few1 (delB t) L h0 h (fun s i m q => few_delay q i)
  have h2 := fold_few1 (agB t) L h1 h (fun s i m q => few_age q i)
  have h3 := fold_few1 holB L h2 h (fun s i m q => few_hold q i)
  have e : tickR t L = foldS holdS (flagB holB L) n (foldS ageS (flagB (agB t) L) n (foldS delayS (flagB (delB t) L) n (tick1 t L))) := by rw [← h]; rfl
  rw [e]
  have := h3.1
  omega
theorem once_step_few (t : Th) (s : List Po × List Ou) (i : Nat) : (allStep t s i).2.length ≤ s.2.length + 1 := by
  have h := confR_few t s.1 i
  unfold allStep
  split
  · split
    · rw [List.length_append]
      omega
    · omega
  · omega
theorem once_all_few (t : Th) (L : List Po) : ∀ k, (allR t L k).2.length ≤ k
  | 0 => Nat.zero_le _
  | k + 1 => by
    have h1 := once_all_few t L k
    have h2 := once_step_few t (allR t L k) k
    show (allStep t (allR t L k) k).2.length ≤ k + 1
    omega
theorem once_took_few {t : Th} {L : List Po} {k : Nat} {p : Po} {x : Bq} : (tookR t L k p x).2.length ≤ L.length + 2 := by
  have h1 := settle_few t (L.set k (heldP p x))
  have h2 := late_few (decide (t.ro = t.ow)) (settleR t (L.set k (heldP p x))).1.1 L.length
  unfold tookR
  dsimp only
  split
  · have h3 := once_all_few (toldT (lateT (decide (t.ro = t.ow)) (settleR t (L.set k (heldP p x))).1.1) x) (settleR t (L.set k (heldP p x))).1.2 L.length
    simp only [List.length_append]
    omega
  · simp only [List.length_append]
    omega
theorem once_heard_few (t : Th) (L : List Po) (i : Int) (x : Bq) : (heardR t L i x).2.length ≤ L.length + 2 := by
  have h1 := confR_few t L i
  unfold heardR
  split
  · split
    · simp
    · split
      · simp
      · split
        · exact once_took_few
        · split
          · show (confR t L i).2.length ≤ _
            omega
          · simp
  · simp
theorem once_tcn_few (t : Th) (L : List Po) (i : Int) : (tcnHeardR t L i).2.length ≤ L.length + 2 := by
  unfold tcnHeardR
  split
  · split
    · simp
    · rename_i p hp
      split
      · simp
      · split
        · have h1 := det_few t L.length
          have h2 := confR_few (detT t) (L.set i.toNat { p with ak := true }) i
          simp only [List.length_append]
          omega
        · simp
  · simp
theorem once_det_nb {t : Th} (h : (-9223372036854775808 ≤ t.n1 ∧ t.n1 ≤ 9223372036854775807 ∧ -9223372036854775808 ≤ t.n2 ∧ t.n2 ≤ 9223372036854775807 ∧ -9223372036854775808 ≤ t.n3 ∧ t.n3 ≤ 9223372036854775807)) : (-9223372036854775808 ≤ (detT t).n1 ∧ (detT t).n1 ≤ 9223372036854775807 ∧ -9223372036854775808 ≤ (detT t).n2 ∧ (detT t).n2 ≤ 9223372036854775807 ∧ -9223372036854775808 ≤ (detT t).n3 ∧ (detT t).n3 ≤ 9223372036854775807) := by
  unfold detT
  split
  · exact h
  · split <;> exact h
theorem once_tcn_all {t : Th} {L : List Po} {i : Int} (ht : ThB t) (hn : (-9223372036854775808 ≤ t.n1 ∧ t.n1 ≤ 9223372036854775807 ∧ -9223372036854775808 ≤ t.n2 ∧ t.n2 ≤ 9223372036854775807 ∧ -9223372036854775808 ≤ t.n3 ∧ t.n3 ≤ 9223372036854775807)) (hb : ∀ z ∈ L, PoB z) : AllB (tcnHeardR t L i).1 L.length := by
  have same : AllB (t, L) L.length := ⟨ht, hn, hb, rfl⟩
  unfold tcnHeardR
  split
  · split
    · exact same
    · rename_i p hp
      split
      · exact same
      · split
        · have hbp : PoB { p with ak := true } := by
            have := hb p (List.mem_of_getElem? hp)
            unfold PoB at *
            exact this
          exact ⟨det_bd ht, once_det_nb hn, confR_bd (set_bd hb hbp) i, (confR_len _ _ i).trans List.length_set⟩
        · exact same
  · exact same

/-- What is counted so far went out by one tick and by what was heard behind it. -/
def Once (L : List Po) (K : List Po) (f : Nat → Nat) : Prop := ∃ M, Sends L (K, M) ∧ ∀ k : Nat, f k ≤ cntI k M
theorem Once.start (t : Th) (L : List Po) : Once (L.map (tkP t)) (tickR t L).1.2 (addF (fun _ => 0) (tickR t L).2) := ⟨_, sends_tick t L, fun k => by
  have := cntG_le k (tickR t L).2
  unfold addF
  dsimp only
  omega⟩
theorem Once.more {L K : List Po} {f : Nat → Nat} (h : Once L K f) {R : List Po × List Ou} (k : Sends K R) : Once L R.1 (addF f R.2) := by
  obtain ⟨M, h1, h2⟩ := h
  refine ⟨M ++ R.2, h1.trans k, fun j => ?_⟩
  have a := h2 j
  have b := cntG_le j R.2
  rw [cnt_app]
  unfold addF
  omega
theorem Once.one {L K : List Po} {f : Nat → Nat} (h : Once L K f) (k : Nat) : f k ≤ 1 := by
  obtain ⟨M, h1, h2⟩ := h
  exact Nat.le_trans (h2 k) (h1.one k)
theorem TS.drewO {w wx : World} {l : List (Nat × TypeId × List Value)} {D : Option Addr} {L : List Po} (h : TS w l D L wx) : TS w l D L wx.drew := ⟨h.1.drew, h.2.imp id fun ⟨g, r, q, s⟩ => ⟨g, r, q, s.drew⟩⟩
theorem HeardsIn.row {w : World} {a : Option Addr} {B : Nat} {Z : List HV} (h : HeardsIn w a B Z) {j : Nat} {y : HV} (hj : Z[j]? = some y) : ∃ ad, a = some ad ∧ ad.block < B ∧ w.cell? (ad.add (j * 12)) = some (.int .u8 y.i) ∧ (∀ i v, (lB y.x)[i]? = some v → w.cell? ((⟨(ad.add (j * 12)).block, (ad.add (j * 12)).off + 1, none⟩ : Addr).add i) = some v) ∧ (0 ≤ y.i ∧ y.i ≤ 255) ∧ BqIn y.x := by
  obtain ⟨ad, h1, h2, h3, h4, h5, h6⟩ := h j y hj
  refine ⟨ad, h1, h2, h3, fun i v hv => ?_, h5, h6⟩
  have e : (⟨(ad.add (j * 12)).block, (ad.add (j * 12)).off + 1, none⟩ : Addr).add i = (ad.add (j * 12)).add (1 + i) := by
    by_cases q : i = 0
    · subst q; simp [Addr.add]
    · have : 1 + i ≠ 0 := by omega
      simp [Addr.add, q, this, Nat.add_assoc]
  rw [e]
  exact h4 i v hv

set_option maxHeartbeats 8000000 in
theorem TickOnce_walk (t : Th) (A : Option Addr) (n cap : Nat) (L : List Po) (a : Option Addr) (m ca : Nat) (Z : List HV) (w : World) (hd : Hd w) (ht : ThB t) (hm : TmB t) (hL : L.length = n) (hn : n ≤ 9223372036854775807) (hz : A = none → cap = 0) (hb : ∀ x ∈ L, PoB x) (hp : PoAt w A w.heap.size L) (hzl : Z.length = m) (hml : m ≤ maxLen) (hh : HeardsIn w a w.heap.size Z) :
    Calls Tryz.prog 4 #[.agg (lT t A n cap).toArray, .slice a m ca] w fun e w' => e = .returned (.bool true) ∧ Below w.heap.size w w' := by
  have HA := fun W (h : Below w.heap.size w W) => Lib.hid (awake16_is W (hd.below h (Nat.le_refl _)))
  have HD := Lib.hid hd
  have HB := Lib.hid hb
  have HTB := Lib.hid ht
  have HL := Lib.hid hL
  have HP := Lib.hid hp
  have HCZ := Lib.hid hz
  have HZL := Lib.hid hzl
  have HHH := Lib.hid hh
  have HF := fun W (h : Below w.heap.size w W) => Lib.hid (fits16_is t A n cap L HL hn W (Lib.hid ((HP.out.below h (Nat.le_refl _)).wide h.size)))
  have hn9 := hn
  have hml9 : m ≤ 9223372036854775807 := Nat.le_trans hml (by decide)
  clear hb hL hz hp ht hn hd hm hzl hml hh
  obtain ⟨wb, hwb, S⟩ := hs_one w 31 (lT t A n cap)
  go_enter Tryz.func4, Tryz.ntmps4
  go_upto_region 1 with fail
  clear hwb
  obtain ⟨X, hX⟩ : ∃ X, w.heap.size = X := ⟨_, rfl⟩
  rw [hX] at S ⊢
  have HX := Lib.hid hX
  clear hX
  go_wp2_with fail
  (with_reducible refine (HA _ S.old).out.mono ?_); rintro e w1 ⟨rfl, b1⟩
  have S1 := S.below b1
  clear S b1
  have hx := S1.bk 0 rfl
  go_wp2_with (with_reducible refine wpList_load_rowG (by kernel_rfl) 31 (.tmp 2) rfl X (by kernel_rfl) _ _ (0, 0) _ hx Tryz.underlying31 rfl (by kernel_rfl) ?_)
  (with_reducible refine (HF _ S1.old).out.mono ?_); rintro e w2 ⟨q, rfl, hq, b2⟩
  have S2 := S1.below b2
  have HQ := Lib.hid hq
  clear S1 hx HF b2 hq
  cases q with
  | false =>
    go_wp2_with fail
    (with_reducible refine (HA _ S2.old).out.mono ?_); rintro e wq ⟨rfl, bq⟩
    have Sq := S2.below bq
    go_wp2
    go_ret
    exact ⟨rfl, HX.out ▸ Sq.old⟩
  | true =>
    have hn12 : n ≤ 12 := (HQ.out rfl).2.1
    have HOK := Lib.hid (show TickOk t L n from ⟨⟨HTB.out, (HQ.out rfl).1, HB.out, HL.out, (HQ.out rfl).2.2.1⟩, (HQ.out rfl).2.2.2.1, (HQ.out rfl).2.2.2.2⟩)
    have hn2 : n ≤ 100 := by omega
    have hn3 : n ≤ 200 := by omega
    clear HQ
    have c18 := S2.cell 0 18 rfl rfl
    by_cases hm1 : (100 : Int) < (m : Int)
    · go_wp2_with fail
      (with_reducible refine (HA _ S2.old).out.mono ?_); rintro e wq ⟨rfl, bq⟩
      have Sq := S2.below bq
      go_wp2
      go_ret
      exact ⟨rfl, HX.out ▸ Sq.old⟩
    · by_cases h0 : n = 0
      · subst h0
        go_wp2_with fail
        (with_reducible refine (HA _ S2.old).out.mono ?_); rintro e wq ⟨rfl, bq⟩
        have Sq := S2.below bq
        go_wp2
        go_ret
        exact ⟨rfl, HX.out ▸ Sq.old⟩
      · have hz0 : ((n : Int) == 0) = false := by simpa using h0
        clear HA
        obtain ⟨cs, hcs⟩ : ∃ cs : List Value, cs = lN (fun _ => 0) := ⟨_, rfl⟩
        have hzv : ∀ w, (zeroValue 40).run Tryz.prog w = .ok (.agg cs.toArray) w := by intro w; rw [hcs]; kernel_rfl
        have HCS := Lib.hid hcs
        clear hcs
        go_upto_region 4 with fail
        clear hzv c18 hz0
        have S3 := S2.al rfl 40 cs
        obtain ⟨G, hG⟩ : ∃ G, w2.heap.size = G := ⟨_, rfl⟩
        obtain ⟨w3, hw3⟩ : ∃ y, w2.alloc (.cells cs.toArray 40) = y := ⟨_, rfl⟩
        rw [hG] at S3 ⊢
        rw [hw3] at S3 ⊢
        clear hw3 hG S2
        rw [HCS.out] at S3
        clear HCS cs
        obtain ⟨R, hR⟩ : ∃ R, tickR t L = R := ⟨_, rfl⟩
        have hfew := once_tick_few (t := t) HL.out
        have HRK := Lib.hid (HOK.out.tick hn3)
        have HON := Lib.hid (Once.start t L)
        have HT := Lib.hid (tick_is t A n cap L (Lib.hid HOK.out.bd.1) (Lib.hid HOK.out.bd.2.1) (Lib.hid HOK.out.bd.2.2.1) (Lib.hid HOK.out.bd.2.2.2.1) (Lib.hid HOK.out.bd.2.2.2.2.1) hn2 (Lib.hid HOK.out.bd.2.2.2.2.2.1) (Lib.hid HOK.out.bd.2.2.2.2.2.2) HCZ w3 (HD.out.below S3.old (Nat.le_refl _)) (Lib.hid ((HP.out.below S3.old (Nat.le_refl _)).wide S3.old.size)))
        obtain ⟨L1, hL1⟩ : ∃ q, L.map (tkP t) = q := ⟨_, rfl⟩
        rw [hR] at HT HRK hfew HON
        rw [hL1] at HON
        clear hR hL1
        have hm2 : R.2.length ≤ 1000 := by
          have : n * (n + 2) ≤ 12 * 14 := Nat.mul_le_mul hn12 (by omega)
          omega
        have HMM := Lib.hid hm2
        clear hfew hm2
        have HGS := Lib.hid (S3.lt 0 rfl)
        have hx := S3.bk 1 rfl
        go_wp2_with (with_reducible refine wpList_load_rowG (by kernel_rfl) 31 (.tmp 2) rfl X (by kernel_rfl) _ _ (0, 0) _ hx Tryz.underlying31 rfl (by kernel_rfl) ?_)
        (with_reducible refine HT.out.mono ?_); rintro e w4 ⟨D, c, v, rfl, hzd, k4, hO⟩
        have S4 := TS.take S3 k4
        have hB4 := k4.old.size
        clear S3 hx HT k4
        go_upto_region 5 with (refine wpList_store_row rfl 31 _ _ rfl _ _ rfl rfl _ _ (heap_alloc_new _ _) (by kernel_rfl) (by kernel_rfl) (by kernel_rfl) ?_)
        rw [alloc_row]
        have bN := new_below w4 (.cells (lT R.1.1 D n c).toArray 31)
        have S5 := S4.al rfl 31 (lT R.1.1 D n c)
        have hO5 := hO.below bN
        have hB5 := Nat.le_trans hB4 bN.size
        obtain ⟨U, hU⟩ : ∃ q, w4.heap.size = q := ⟨_, rfl⟩
        rw [hU] at S5 ⊢
        obtain ⟨w5, hww⟩ : ∃ y, w4.alloc (.cells (lT R.1.1 D n c).toArray 31) = y := ⟨_, rfl⟩
        rw [hww] at S5 hO5 hB5 ⊢
        clear hww hU bN S4 hO hB4
        obtain ⟨A1, q1, rfl⟩ := hO5.shape
        obtain ⟨m1, hm1e⟩ : ∃ q, R.2.length = q := ⟨_, rfl⟩
        have HM1 := Lib.hid hm1e
        rw [show ((R.1.2, R.2) : List Po × List Ou).2.length = m1 from hm1e] at hO5 ⊢
        clear hm1e
        have HCN := Lib.hid (count_is A1 q1 m1 R.2 G w3.heap.size (fun _ => 0) HM1 (by rw [← HM1.out]; exact HMM.out) (Lib.hid (fun _ => by decide)) w5 (Lib.hid (S5.hs.1 1 _ _ _ rfl).1) HGS (Lib.hid hB5) (Lib.hid hO5))
        clear hO5 hB5 HMM HGS
        go_wp2_with fail
        (with_reducible refine HCN.out.mono ?_); rintro e w6 ⟨rfl, hbk, hon⟩
        have S6 := S5.onlyG 1 rfl _ hbk hon
        have RR : Hid (∃ (u : Th) (D : Option Addr) (c : Nat) (K : List Po) (f : Nat → Nat), TS w [(U, 31, lT u D n c), (G, 40, lN f), (X, 31, lT t A n cap)] D K w6 ∧ AllB (u, K) n ∧ (D = none → c = 0) ∧ Once L1 K f) := Lib.hid ⟨_, _, _, _, _, S6, ⟨HRK.out.bd.2.2.2.2.2.1, HRK.out.bd.1.nb, HRK.out.bd.2.2.2.2.2.2, HRK.out.bd.2.2.2.2.1⟩, hzd, HON.out⟩
        clear S5 S6 hbk hon HCN HRK HON hzd HM1
        go_wp2_with fail
        go_loopw [8] (fun i wr => ∃ j : Nat, j ≤ m ∧ i = .int .i64 j ∧ Hid (∃ (u : Th) (D : Option Addr) (c : Nat) (K : List Po) (f : Nat → Nat), TS w [(U, 31, lT u D n c), (G, 40, lN f), (X, 31, lT t A n cap)] D K wr ∧ AllB (u, K) n ∧ (D = none → c = 0) ∧ Once L1 K f)) (fun i _ => m - (intOf i).toNat)
        case atStart => exact ⟨0, Nat.zero_le _, rfl, RR⟩
        case round =>
          clear RR
          obtain ⟨j, hj, rfl, Q⟩ := hrel
          obtain ⟨u, D, c, K, f, S7, hall, hzd, hon⟩ := Q.out
          clear Q
          by_cases hjm : j < m
          · have hji : (j : Int) < (m : Int) := by omega
            have hjz : ¬ (m : Int) ≤ (j : Int) := by omega
            obtain ⟨y, hy⟩ : ∃ y, Z[j]? = some y := ⟨Z[j]'(by have := HZL.out; omega), List.getElem?_eq_getElem _⟩
            have HY := Lib.hid hy
            clear hy
            obtain ⟨ad, rfl, hab, h3, h4, hyi, hxb⟩ := HHH.out.row HY.out
            have HXB := Lib.hid hxb
            have HRC := Lib.hid (show ∀ W, Below w.heap.size w W → ∀ i v, (lB y.x)[i]? = some v → W.cell? ((⟨(ad.add (j * 12)).block, (ad.add (j * 12)).off + 1, none⟩ : Addr).add i) = some v from fun W b i v hv => (b.cell (by rw [Go.Proofs.YtnmnihlhcokjpaaGreatDoor.add_block, Go.Proofs.YtnmnihlhcokjpaaGreatDoor.add_block]; exact hab)).trans (h4 i v hv))
            have p0 : wr.cell? (ad.add (j * 12)) = some (.int .u8 y.i) := (S7.old.cell (by rw [Go.Proofs.YtnmnihlhcokjpaaGreatDoor.add_block]; exact hab)).trans h3
            have p1 : wr.cell? ⟨(ad.add (j * 12)).block, (ad.add (j * 12)).off + 1, none⟩ = some (.bool y.x.tc) := HRC.out wr S7.old 0 _ rfl
            clear h3 h4 hxb hab
            obtain ⟨z, hz⟩ : ∃ z, y.i = z := ⟨_, rfl⟩
            obtain ⟨xq, hxq⟩ : ∃ x, y.x = x := ⟨_, rfl⟩
            rw [hz] at p0 hyi
            rw [hxq] at p1 HRC HXB
            clear hz hxq HY
            obtain ⟨tc, htc⟩ : ∃ b, xq.tc = b := ⟨_, rfl⟩
            rw [htc] at p1
            clear htc
            have c18 := S7.hs.cell 2 18 rfl rfl
            obtain ⟨k, hk⟩ : ∃ k : Nat, Int.tmod z (n : Int) = k := ⟨(Int.tmod z n).toNat, by have := Int.tmod_nonneg (n : Int) hyi.1; omega⟩
            have hkn : k < n := by have := Int.tmod_lt_of_pos z (show (0 : Int) < n by omega); omega
            have hw8 : IntKind.i64.wrap z = z := by simp [IntKind.wrap, IntKind.bits, IntKind.signed]; omega
            have hz0 : ((n : Int) == 0) = false := by simpa using h0
            have hk64 : -9223372036854775808 ≤ (k : Int) ∧ (k : Int) ≤ 9223372036854775807 := by omega
            have HKL := Lib.hid hall.2.2.2
            have HF1 := Lib.hid (show ∀ q, f q ≤ 2 from fun q => Nat.le_trans (hon.one q) (by decide))
            have HGL := Lib.hid (S7.hs.lt 1 rfl)
            have S7d := S7.drewO
            have HUL := Lib.hid (S7.hs.lt 0 rfl)
            go_wp2
            go_region
            cases tc with
            | true =>
              obtain ⟨R, hR⟩ : ∃ R, tcnHeardR u K k = R := ⟨_, rfl⟩
              have HRB := Lib.hid (show AllB R.1 n by rw [← hR, ← HKL.out]; exact once_tcn_all hall.1 hall.2.1 hall.2.2.1)
              have HFE := Lib.hid (show R.2.length ≤ 1000 by rw [← hR]; have := once_tcn_few u K k; rw [HKL.out] at this; omega)
              have HON2 := Lib.hid (show Once L1 R.1.2 (addF f R.2) by rw [← hR]; exact hon.more (sends_tcn u K k))
              have HC := Lib.hid (htcn_is u D n c K k hk64 HKL hn3 (Lib.hid hall.1) (Lib.hid hall.2.1) (Lib.hid hall.2.2.1) (Lib.hid hzd) wr.drew (HD.out.below S7d.old (Nat.le_refl _)) (Lib.hid S7d.ports))
              rw [hR] at HC
              clear hR
              clear S7 p0 HRC HXB hzd hall hon
              have hx := S7d.hs.bk 0 rfl
              go_wp2_with (with_reducible refine wpList_load_rowG (by kernel_rfl) 31 (.tmp 6) rfl U (by kernel_rfl) _ _ (0, 0) _ hx Tryz.underlying31 rfl (by kernel_rfl) ?_)
              (with_reducible refine HC.out.mono ?_); rintro e w8 ⟨D2, c2, v2, rfl, hz2, T2, hO2⟩
              have S8 := TS.take S7d.hs T2
              have hB8 := T2.old.size
              clear S7d hx HC T2
              have hy := S8.hs.bk 0 rfl
              go_upto_region 13 with (refine wpList_store_row rfl 31 _ _ rfl U _ rfl rfl _ _ hy (by kernel_rfl) (by kernel_rfl) (by kernel_rfl) ?_)
              have S9 := S8.row 0 rfl (lT R.1.1 D2 n c2)
              have hO3 := hO2.heap (w' := w8.setRow U (lT R.1.1 D2 n c2).toArray) (fun q hq => setRow_other w8 U q _ (by have h1 : U < wr.heap.size := HUL.out; have h2 : wr.heap.size ≤ q := hq; omega))
              have hB9 : wr.heap.size ≤ (w8.setRow U (lT R.1.1 D2 n c2).toArray).heap.size := Nat.le_trans hB8 (below_setRow (Below.refl 0 w8) (Nat.zero_le _) _).size
              clear S8 hy hB8
              obtain ⟨A2, q2, rfl⟩ := hO2.shape
              obtain ⟨m2, hm2e⟩ : ∃ q, R.2.length = q := ⟨_, rfl⟩
              have HM2 := Lib.hid hm2e
              rw [show ((R.1.2, R.2) : List Po × List Ou).2.length = m2 from hm2e] at hO3 ⊢
              clear hm2e
              have HCN := Lib.hid (count_is A2 q2 m2 R.2 G wr.heap.size f HM2 (by rw [← HM2.out]; exact HFE.out) HF1 _ (Lib.hid (S9.hs.1 1 _ _ _ rfl).1) HGL (Lib.hid hB9) (Lib.hid hO3))
              go_wp2_with fail
              (with_reducible refine HCN.out.mono ?_); rintro e wn ⟨rfl, hbk, hon2⟩
              have SN := S9.onlyG 1 rfl _ hbk hon2
              have RN : Hid (∃ (u : Th) (D : Option Addr) (c : Nat) (K : List Po) (f : Nat → Nat), TS w [(U, 31, lT u D n c), (G, 40, lN f), (X, 31, lT t A n cap)] D K wn ∧ AllB (u, K) n ∧ (D = none → c = 0) ∧ Once L1 K f) := Lib.hid ⟨_, _, _, _, _, SN, HRB.out, hz2, HON2.out⟩
              clear SN hbk hon2 HCN S9 hO3 hO2 hz2
              go_wp2_with fail
              go_roundw
              case rel => exact ⟨j + 1, by omega, by go_num, RN⟩
              case measure => simp [intOf]; omega
            | false =>
              have S7e := S7d.drewO
              obtain ⟨R, hR⟩ : ∃ R, heardR u K k xq = R := ⟨_, rfl⟩
              have HRB := Lib.hid (show AllB R.1 n by rw [← hR, ← HKL.out]; exact heard_all (by rw [HKL.out]; exact hn3) hall.1 hall.2.1 hall.2.2.1 HXB.out)
              have HFE := Lib.hid (show R.2.length ≤ 1000 by rw [← hR]; have := once_heard_few u K k xq; rw [HKL.out] at this; omega)
              have HON2 := Lib.hid (show Once L1 R.1.2 (addF f R.2) by rw [← hR]; exact hon.more (sends_heard u K k xq))
              have HC := Lib.hid (hconf_is u D n c K k xq hk64 HXB HKL hn3 (Lib.hid hall.1) (Lib.hid hall.2.1) (Lib.hid hall.2.2.1) (Lib.hid hzd) wr.drew.drew (HD.out.below S7e.old (Nat.le_refl _)) (Lib.hid S7e.ports))
              rw [hR] at HC
              clear hR
              clear S7 p0 hzd hall hon
              go_upto_region 12 with fail
              refine wp_region_held_drew (S := (fun w' => Below w.heap.size w w')) (by kernel_rfl) (S7d.old.drew) (fun hHeld => ?_)
              refine wpAnyH_take (i := 1) (v := ?_) rfl (by kernel_rfl) (by kernel_rfl) (by kernel_rfl) (fun _ _ _ h => h) (Or.inl ⟨by kernel_rfl, ?_⟩) (by assumption) ?_
              rotate_left
              · intro w' hSw; (try dsimp only at hSw); go_simp; with_reducible rfl
              try simp only [Act.put, List.getElem_toArray, List.getElem_cons_succ, List.getElem_cons_zero, List.setIfInBounds_toArray, List.set_cons_succ, List.set_cons_zero]
              refine wpAnyH_take (i := 2) (v := ?_) rfl (by kernel_rfl) (by kernel_rfl) (by kernel_rfl) (fun _ _ _ h => h) (Or.inl ⟨by kernel_rfl, ?_⟩) (by assumption) ?_
              rotate_left
              · intro w' hSw; (try dsimp only at hSw); go_simp; with_reducible rfl
              try simp only [Act.put, List.getElem_toArray, List.getElem_cons_succ, List.getElem_cons_zero, List.setIfInBounds_toArray, List.set_cons_succ, List.set_cons_zero]
              refine wpAnyH_take (i := 3) (v := ?_) rfl (by kernel_rfl) (by kernel_rfl) (by kernel_rfl) (fun _ _ _ h => h) (Or.inl ⟨by kernel_rfl, ?_⟩) (by assumption) ?_
              rotate_left
              · intro w' hSw; (try dsimp only at hSw); go_simp; with_reducible rfl
              try simp only [Act.put, List.getElem_toArray, List.getElem_cons_succ, List.getElem_cons_zero, List.setIfInBounds_toArray, List.set_cons_succ, List.set_cons_zero]
              refine wpAnyH_take (i := 4) (v := ?_) rfl (by kernel_rfl) (by kernel_rfl) (by kernel_rfl) (fun _ _ _ h => h) (Or.inl ⟨by kernel_rfl, ?_⟩) (by assumption) ?_
              rotate_left
              · intro w' hSw; (try dsimp only at hSw); go_simp; with_reducible rfl
              try simp only [Act.put, List.getElem_toArray, List.getElem_cons_succ, List.getElem_cons_zero, List.setIfInBounds_toArray, List.set_cons_succ, List.set_cons_zero]
              refine wpAnyH_take (i := 5) (v := ?_) rfl (by kernel_rfl) (by kernel_rfl) (by kernel_rfl) (fun _ _ _ h => h) (Or.inl ⟨by kernel_rfl, ?_⟩) (by assumption) ?_
              rotate_left
              · intro w' hSw; (try dsimp only at hSw); go_simp; with_reducible rfl
              try simp only [Act.put, List.getElem_toArray, List.getElem_cons_succ, List.getElem_cons_zero, List.setIfInBounds_toArray, List.set_cons_succ, List.set_cons_zero]
              refine wpAnyH_take (i := 6) (v := _) rfl (by kernel_rfl) (by kernel_rfl) (by kernel_rfl) (fun _ _ _ h => h) (Or.inl ⟨by kernel_rfl, fun w' hSw => exec_load_at 46 _ rfl (⟨(ad.add (j * 12)).block, (ad.add (j * 12)).off + 1, none⟩ : Addr) (by kernel_rfl) _ _ (HRC.out w' hSw) Tryz.underlying46 rfl (by kernel_rfl)⟩) (by assumption) ?_
              try simp only [Act.put, List.getElem_toArray, List.getElem_cons_succ, List.getElem_cons_zero, List.setIfInBounds_toArray, List.set_cons_succ, List.set_cons_zero]
              have hx := S7e.hs.bk 0 rfl
              refine wpAnyH_ready (rs := [0]) (by kernel_rfl) (by simp) ?_
              refine AllReadyH.cons rfl (fun K hK => ?_) AllReadyH.nil
              refine exec_if_row (by kernel_rfl) 31 _ rfl U (by kernel_rfl) _ _ (0, 0) _ hx Tryz.underlying31 rfl (by kernel_rfl) ?_
              refine hK.out _ _ (hHeld) (fun hHeld => ?_)
              clear hK K
              try simp only [Act.put, List.getElem_toArray, List.getElem_cons_succ, List.getElem_cons_zero, List.setIfInBounds_toArray, List.set_cons_succ, List.set_cons_zero]
              refine wpAnyH_ready (rs := [7]) (by kernel_rfl) (by simp) ?_
              refine AllReadyH.cons rfl (fun K hK => ?_) AllReadyH.nil
              go_simp
              (with_reducible refine (HC).out.mono ?_); rintro e w8 ⟨D2, c2, v2, rfl, hz2, T2, hO2⟩
              have S8 := TS.take S7e.hs T2
              have hB8 := T2.old.size
              have hy := S8.hs.bk 0 rfl
              refine hK.out _ _ (S8.old) (fun hHeld => ?_)
              clear hK K
              try simp only [Act.put, List.getElem_toArray, List.getElem_cons_succ, List.getElem_cons_zero, List.setIfInBounds_toArray, List.set_cons_succ, List.set_cons_zero]
              refine wpAnyH_take (i := 8) (v := ?_) rfl (by kernel_rfl) (by kernel_rfl) (by kernel_rfl) (fun _ _ _ h => h) (Or.inl ⟨by kernel_rfl, ?_⟩) (by assumption) ?_
              rotate_left
              · intro w' hSw; (try dsimp only at hSw); go_simp; with_reducible rfl
              try simp only [Act.put, List.getElem_toArray, List.getElem_cons_succ, List.getElem_cons_zero, List.setIfInBounds_toArray, List.set_cons_succ, List.set_cons_zero]
              refine wpAnyH_take (i := 9) (v := ?_) rfl (by kernel_rfl) (by kernel_rfl) (by kernel_rfl) (fun _ _ _ h => h) (Or.inl ⟨by kernel_rfl, ?_⟩) (by assumption) ?_
              rotate_left
              · intro w' hSw; (try dsimp only at hSw); go_simp; with_reducible rfl
              try simp only [Act.put, List.getElem_toArray, List.getElem_cons_succ, List.getElem_cons_zero, List.setIfInBounds_toArray, List.set_cons_succ, List.set_cons_zero]
              refine wpAnyH_take (i := 10) (v := ?_) rfl (by kernel_rfl) (by kernel_rfl) (by kernel_rfl) (fun _ _ _ h => h) (Or.inl ⟨by kernel_rfl, ?_⟩) (by assumption) ?_
              rotate_left
              · intro w' hSw; (try dsimp only at hSw); go_simp; with_reducible rfl
              try simp only [Act.put, List.getElem_toArray, List.getElem_cons_succ, List.getElem_cons_zero, List.setIfInBounds_toArray, List.set_cons_succ, List.set_cons_zero]
              refine wpAnyH_ready (rs := [11]) (by kernel_rfl) (by simp) ?_
              refine AllReadyH.cons rfl (fun K hK => ?_) AllReadyH.nil
              refine exec_if_store (by kernel_rfl) 31 (.tmp 6) (.tmp 74) rfl U (lT R.1.1 D2 n c2).toArray (by kernel_rfl) (by kernel_rfl) _ _ hy (by kernel_rfl) (by kernel_rfl) (by kernel_rfl) ?_
              have S9 := S8.row 0 rfl (lT R.1.1 D2 n c2)
              refine hK.out _ _ (S9.old) (fun hHeld => ?_)
              clear hK K
              try simp only [Act.put, List.getElem_toArray, List.getElem_cons_succ, List.getElem_cons_zero, List.setIfInBounds_toArray, List.set_cons_succ, List.set_cons_zero]
              refine wpAnyH_take (i := 12) (v := ?_) rfl (by kernel_rfl) (by kernel_rfl) (by kernel_rfl) (fun _ _ _ h => h) (Or.inl ⟨by kernel_rfl, ?_⟩) (by assumption) ?_
              rotate_left
              · intro w' hSw; (try dsimp only at hSw); go_simp; with_reducible rfl
              try simp only [Act.put, List.getElem_toArray, List.getElem_cons_succ, List.getElem_cons_zero, List.setIfInBounds_toArray, List.set_cons_succ, List.set_cons_zero]
              refine wpAnyH_done (by kernel_rfl) ?_ _
              have hO3 := hO2.heap (w' := w8.setRow U (lT R.1.1 D2 n c2).toArray) (fun q hq => setRow_other w8 U q _ (by have h1 : U < wr.heap.size := HUL.out; have h2 : wr.heap.size ≤ q := hq; omega))
              have hB9 : wr.heap.size ≤ (w8.setRow U (lT R.1.1 D2 n c2).toArray).heap.size := Nat.le_trans hB8 (below_setRow (Below.refl 0 w8) (Nat.zero_le _) _).size
              clear S8 hy hB8
              obtain ⟨A2, q2, rfl⟩ := hO2.shape
              obtain ⟨m2, hm2e⟩ : ∃ q, R.2.length = q := ⟨_, rfl⟩
              have HM2 := Lib.hid hm2e
              rw [show ((R.1.2, R.2) : List Po × List Ou).2.length = m2 from hm2e] at hO3 ⊢
              clear hm2e
              have HCN := Lib.hid (count_is A2 q2 m2 R.2 G wr.heap.size f HM2 (by rw [← HM2.out]; exact HFE.out) HF1 _ (Lib.hid (S9.hs.1 1 _ _ _ rfl).1) HGL (Lib.hid hB9) (Lib.hid hO3))
              go_wp2_with fail
              (with_reducible refine HCN.out.mono ?_); rintro e wn ⟨rfl, hbk, hon2⟩
              have SN := S9.onlyG 1 rfl _ hbk hon2
              have RN : Hid (∃ (u : Th) (D : Option Addr) (c : Nat) (K : List Po) (f : Nat → Nat), TS w [(U, 31, lT u D n c), (G, 40, lN f), (X, 31, lT t A n cap)] D K wn ∧ AllB (u, K) n ∧ (D = none → c = 0) ∧ Once L1 K f) := Lib.hid ⟨_, _, _, _, _, SN, HRB.out, hz2, HON2.out⟩
              clear SN hbk hon2 HCN S9 hO3 hO2 hz2
              go_wp2_with fail
              go_roundw
              case rel => exact ⟨j + 1, by omega, by go_num, RN⟩
              case measure => simp [intOf]; omega
          · have hjz : ¬ (j : Int) < (m : Int) := by omega
            have HF1 := Lib.hid (show ∀ q, f q ≤ 1 from fun q => hon.one q)
            have SF := Lib.hid S7.hs
            clear S7 hall hzd hon
            go_wp2_with fail
            go_loopw [10] (fun i wq => ∃ k : Nat, k ≤ n ∧ i = .int .i64 k ∧ Hid (Hs w [(U, 31, lT u D n c), (G, 40, lN f), (X, 31, lT t A n cap)] wq)) (fun i _ => n - (intOf i).toNat)
            case atStart => exact ⟨0, Nat.zero_le _, rfl, SF⟩
            case round =>
              clear SF
              obtain ⟨k, hk, rfl, S⟩ := hrel
              have c18 := S.out.cell 2 18 rfl rfl
              by_cases hkn : k < n
              · have hki : (k : Int) < (n : Int) := by omega
                have hkz : ¬ (n : Int) ≤ (k : Int) := by omega
                have hk16 : (k : Int) < 16 := by omega
                have hkn16 : ¬ (16 : Int) ≤ (k : Int) := by omega
                have n0 := S.out.cell 1 k rfl (lN_at f (by omega))
                have hle : ¬ (1 : Int) < (f k : Int) := by have := HF1.out k; omega
                have hle2 : (f k : Int) ≤ 1 := by have := HF1.out k; omega
                go_wp2
                go_roundw
                case rel => exact ⟨k + 1, by omega, by go_num, S⟩
                case measure => simp [intOf]; omega
              · have hkz : ¬ (k : Int) < (n : Int) := by omega
                go_wp2
                go_ret
                exact ⟨rfl, HX.out ▸ S.out.old⟩

end Go.Proofs.YtnmnihlhcokjpaaGreatDoor
