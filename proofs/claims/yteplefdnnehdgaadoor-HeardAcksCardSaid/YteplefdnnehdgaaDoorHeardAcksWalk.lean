/- The law HeardAcks, walked. -/
import Derived.Test.YteplefdnnehdgaaDoorPk12
import Derived.Test.YteplefdnnehdgaaDoorPk14
import Derived.Test.YteplefdnnehdgaaDoorPk17
import Derived.Test.YteplefdnnehdgaaDoorPk16
import Derived.Test.YteplefdnnehdgaaDoorPk19
import Derived.Test.YteplefdnnehdgaaDoorPk01
import Derived.Deep.DeepCutAuto
import Derived.LoopTactic
import Derived.Deep.QuietTactic
import Derived.BigQuiet
namespace Go.Proofs.YteplefdnnehdgaaDoor
set_option maxRecDepth 100000
open Go.ChangeShapes Go.WideShapes Go.ChangeAt Go.RowKit
set_option linter.unusedVariables false
set_option linter.unusedSimpArgs false

theorem tcn_hears {t : Th} {L : List Po} {k : Nat} {p : Po} (hp : L[k]? = some p) : tcnHeardR t L k = if p.st = 0 then ((t, L), []) else if desB p t.ow = true then
    ((detT t, (confR (detT t) (L.set k { p with ak := true }) k).1), detO t L.length ++ (confR (detT t) (L.set k { p with ak := true }) k).2) else ((t, L), []) := by
  unfold tcnHeardR
  rw [if_pos (by omega), Int.toNat_natCast, hp]
/-- What goes out is a TCN, or tells the acknowledgement, which the port owes no more. -/
def AckO (uk : Bool) (o : Ou) : Prop := (gE (bqB o.x) == 0) = false ∨ gTc (bqB o.x) = true ∨ (gAk (bqB o.x) = true ∧ uk = false)
theorem tcn_ack (uk : Bool) (i f : Int) : AckO uk ⟨i, f, tcnQ⟩ := .inr (.inl (by
  have h := (g_tcnB []).1
  rw [List.append_nil] at h
  exact h))
theorem conf_ack {t : Th} {a : Int} {p : Po} (i f : Int) (ht : ThB t) (hp : PoB p) (hk : p.ak = true) : AckO false ⟨i, f, confQ t a p⟩ := by
  cases h : (gE (bqB (confQ t a p)) == 0) with
  | false => exact .inl h
  | true =>
    have h0 : gE (bqB (confQ t a p)) = 0 := by simpa using h
    have hin : BqIn (confQ t a p) := confQ_in ht hp
    have hg := g_bpB t.ch p.ak t.ro t.co t.ow p.id (cutI a) (cutI t.n1) (cutI t.n2) (cutI t.n3) hin []
    rw [List.append_nil] at hg
    obtain ⟨_, _, g2, _⟩ := hg (by rw [conf_bytes] at h0; exact h0)
    exact .inr (.inr ⟨by rw [conf_bytes, g2]; exact hk, rfl⟩)
/-- A designated port that hears a TCN. -/
theorem acks_pure {t : Th} {L : List Po} {k : Nat} {p : Po} (ht : ThB t) (hb : ∀ z ∈ L, PoB z) (hp : L[k]? = some p) (hs : p.st ≠ 0) (hd : desB p t.ow = true) :
    (tcnHeardR t L k).1.1 = detT t ∧ (tcnHeardR t L k).2.length ≤ 2 ∧ ∃ y, (tcnHeardR t L k).1.2[k]? = some y ∧ (∀ o ∈ (tcnHeardR t L k).2, AckO y.ak o) ∧ (y.ak = true ∨ 0 < (tcnHeardR t L k).2.length) := by
  rw [tcn_hears hp, if_neg hs, if_pos hd]
  have hkl := po_lt hp
  have h1 : (L.set k { p with ak := true })[k]? = some { p with ak := true } := List.getElem?_set_self hkl
  have hbp : PoB { p with ak := true } := by
    have := hb p (List.mem_of_getElem? hp)
    unfold PoB at *
    exact this
  have hdet : ∀ uk, ∀ o ∈ detO t L.length, AckO uk o := fun uk o ho => by
    unfold detO tcnR at ho
    try dsimp only at ho
    split at ho
    · cases ho
    · split at ho
      · cases ho
      · split at ho
        · obtain rfl := List.mem_singleton.1 ho
          exact tcn_ack _ _ _
        · cases ho
  have hfew := det_few t L.length
  have hcf := confR_few (detT t) (L.set k { p with ak := true }) k
  refine ⟨rfl, by rw [List.length_append]; omega, ?_⟩
  dsimp only
  rw [confR_at h1]
  split
  · refine ⟨owingP { p with ak := true }, List.getElem?_set_self (by rw [List.length_set]; exact hkl), fun o ho => ?_, .inl rfl⟩
    rw [List.append_nil] at ho
    exact hdet _ o ho
  · split
    · refine ⟨{ p with ak := true }, h1, fun o ho => ?_, .inl rfl⟩
      rw [List.append_nil] at ho
      exact hdet _ o ho
    · refine ⟨sentP { p with ak := true }, List.getElem?_set_self (by rw [List.length_set]; exact hkl), fun o ho => ?_, .inr (by rw [List.length_append]; exact Nat.lt_of_lt_of_le (by simp) (Nat.le_add_left _ _))⟩
      rcases List.mem_append.1 ho with q | q
      · exact hdet _ o q
      · obtain rfl := List.mem_singleton.1 q
        exact conf_ack _ _ (det_bd ht) hbp rfl
theorem det_told (t : Th) : (detT t).de = true ∧ (t.ro = t.ow → (detT t).ch = true) := by
  unfold detT
  split
  · exact ⟨rfl, fun _ => rfl⟩
  · split
    · rename_i h1 h2
      exact ⟨h2, fun e => absurd e h1⟩
    · rename_i h1 h2
      exact ⟨rfl, fun e => absurd e h1⟩

set_option maxHeartbeats 4000000 in
theorem HeardAcks_walk (t : Th) (A : Option Addr) (n cap : Nat) (L : List Po) (i : Int) (w : World) (hd : Hd w) (ht : ThB t) (hm : TmB t) (hL : L.length = n) (hn : n ≤ 9223372036854775807) (hz : A = none → cap = 0) (hb : ∀ x ∈ L, PoB x) (hp : PoAt w A w.heap.size L) (hi : (Lit.int .u8 i).wf = true) :
    Calls Tryd.prog 5 #[.agg (lT t A n cap).toArray, .int .u8 i] w fun e w' => e = .returned (.bool true) ∧ Below w.heap.size w w' := by
  have hi := bounds_u8 hi
  have HA := fun W (h : Below w.heap.size w W) => Lib.hid (awake15_is W (hd.below h (Nat.le_refl _)))
  have HD := Lib.hid hd
  have HB := Lib.hid hb
  have HTB := Lib.hid ht
  have HNB := Lib.hid (show (-9223372036854775808 ≤ t.n1 ∧ t.n1 ≤ 9223372036854775807 ∧ -9223372036854775808 ≤ t.n2 ∧ t.n2 ≤ 9223372036854775807 ∧ -9223372036854775808 ≤ t.n3 ∧ t.n3 ≤ 9223372036854775807) from hm)
  have HL := Lib.hid hL
  have HP := Lib.hid hp
  have HCZ := Lib.hid hz
  have HF := fun W (h : Below w.heap.size w W) => Lib.hid (fit_is t A n cap L HL hn W (Lib.hid ((HP.out.below h (Nat.le_refl _)).wide h.size)))
  clear hb hL hz hp ht hn hd hm
  obtain ⟨wb, hwb, S⟩ := hs_one w 31 (lT t A n cap)
  go_enter Tryd.func5, Tryd.ntmps5
  go_upto_region 1 with fail
  clear hwb
  obtain ⟨X, hX⟩ : ∃ X, w.heap.size = X := ⟨_, rfl⟩
  rw [hX] at S
  rw [hX]
  clear hX
  go_wp2_with fail
  (with_reducible refine (HA _ S.old).out.mono ?_); rintro e w1 ⟨rfl, b1⟩
  have S1 := S.below b1
  clear S b1
  have hx := S1.bk 0 rfl
  go_wp2_with (with_reducible refine wpList_load_rowG (by kernel_rfl) 31 (.tmp 2) rfl X (by kernel_rfl) _ _ (0, 0) _ hx Tryd.underlying31 rfl (by kernel_rfl) ?_)
  (with_reducible refine (HF _ S1.old).out.mono ?_); rintro e w2 ⟨q, rfl, hq, b2⟩
  have S2 := S1.below b2
  have HQ := Lib.hid hq
  clear S1 hx HF b2 hq
  cases q with
  | false =>
    go_wp2_with fail
    (with_reducible refine (HA _ S2.old).out.mono ?_); rintro e wq ⟨rfl, bq⟩
    have Sq := S2.below bq
    go_wp2
    go_ret
    exact ⟨rfl, Sq.old⟩
  | true =>
    have HN := Lib.hid (HQ.out rfl).1
    have HU := Lib.hid (HQ.out rfl).2
    clear HQ
    have hn2 : n ≤ 200 := by have := HN.out; omega
    have c18 := S2.cell 0 18 rfl rfl
    by_cases h0 : n = 0
    · subst h0
      go_wp2_with fail
      (with_reducible refine (HA _ S2.old).out.mono ?_); rintro e wq ⟨rfl, bq⟩
      have Sq := S2.below bq
      go_wp2
      go_ret
      exact ⟨rfl, Sq.old⟩
    · have hz0 : ((n : Int) == 0) = false := by simpa using h0
      obtain ⟨k, hk⟩ : ∃ k : Nat, Int.tmod i (n : Int) = k := ⟨(Int.tmod i n).toNat, by have := Int.tmod_nonneg (n : Int) hi.1; omega⟩
      have hkn : k < n := by have := Int.tmod_lt_of_pos i (show (0 : Int) < n by omega); omega
      obtain ⟨p, hp0⟩ := po_at HL.out hkn
      have HX := Lib.hid hp0
      clear hp0
      have hki : (k : Int) < (n : Int) := by omega
      have hkz : ¬ (n : Int) ≤ (k : Int) := by omega
      have hw8 : IntKind.i64.wrap i = i := by simp [IntKind.wrap, IntKind.bits, IntKind.signed]; omega
      obtain ⟨ad0, rfl⟩ := HP.out.some HX.out
      go_upto_region 4 with fail
      clear c18 hw8 hk hz0
      have c18 := S2.cell 0 18 rfl rfl
      have hat : ∀ i v, (lP p)[i]? = some v → w2.cell? ((ad0.add (k * 15)).add i) = some v := ((HP.out.below S2.old (Nat.le_refl _)).at HX.out rfl)
      go_upto_region 5 with (first | (with_reducible refine wpList_load_at rfl 41 (.tmp 35) rfl (ad0.add (k * 15)) (by kernel_rfl) _ _ hat Tryd.underlying41 rfl (by kernel_rfl) ?_) | (refine wpList_store_row rfl 41 _ _ rfl _ _ rfl rfl _ _ (heap_alloc_new _ _) (by kernel_rfl) (by kernel_rfl) (by kernel_rfl) ?_))
      rw [alloc_row]
      have S3 := S2.al rfl 41 (lP p)
      obtain ⟨P, hP⟩ : ∃ P, w2.heap.size = P := ⟨_, rfl⟩
      rw [hP] at S3 ⊢
      obtain ⟨w3, hw3⟩ : ∃ y, w2.alloc (.cells (lP p).toArray 41) = y := ⟨_, rfl⟩
      rw [hw3] at S3 ⊢
      clear hw3 hP S2 c18 hat
      obtain ⟨R, hR⟩ : ∃ R, tcnHeardR t L k = R := ⟨_, rfl⟩
      have HRR := Lib.hid hR
      have HCC := Lib.hid (htcn_is t (some ad0) n cap L k (by omega) HL hn2 HTB HNB HB HCZ _ (HD.out.below S3.old (Nat.le_refl _)) (Lib.hid ((HP.out.below S3.old (Nat.le_refl _)).wide S3.old.size)))
      rw [hR] at HCC
      clear hR
      have hx := S3.bk 1 rfl
      go_wp2_with (with_reducible refine wpList_load_rowG (by kernel_rfl) 31 (.tmp 2) rfl X (by kernel_rfl) _ _ (0, 0) _ hx Tryd.underlying31 rfl (by kernel_rfl) ?_)
      (with_reducible refine (HCC).out.mono ?_); rintro e x1 ⟨D1, k1, v1, rfl, hz1, T1, hO1⟩
      have S_1a := S3.below T1.old
      go_upto_region 6 with (refine wpList_store_row rfl 31 _ _ rfl _ _ rfl rfl _ _ (heap_alloc_new _ _) (by kernel_rfl) (by kernel_rfl) (by kernel_rfl) ?_)
      rw [alloc_row]
      have bN := new_below x1 (.cells (lT R.1.1 D1 n k1).toArray 31)
      have KU_1 := AN.new (t := R.1.1) (n := n) (R := ((R.1.2, R.2) : List Po × List Ou)) hz1 T1.ports hO1
      have S_1 := S_1a.below bN
      obtain ⟨U, hG⟩ : ∃ G, x1.heap.size = G := ⟨_, rfl⟩
      rw [hG] at KU_1 ⊢
      obtain ⟨y1, hy⟩ : ∃ y, x1.alloc (.cells (lT R.1.1 D1 n k1).toArray 31) = y := ⟨_, rfl⟩
      rw [hy] at S_1 KU_1  ⊢
      clear hy hG bN hz1 hO1 T1 S3 S_1a
      clear hx HCC
      have p1 := S_1.cell 0 1 rfl rfl
      by_cases hst : p.st = 0
      · have hstb : (p.st == 0) = true := by simpa using hst
        have hRR := HRR.out
        rw [tcn_hears HX.out, if_pos hst] at hRR
        subst hRR
        clear hst HRR
        go_upto_region 7 with fail
        clear p1 hstb
        obtain ⟨A1, q1, e⟩ := KU_1.outs.shape
        obtain rfl : v1 = .slice A1 0 q1 := e
        have HS := Lib.hid (rsame_alike t D1 (some ad0) n k1 cap L HL hn2 _ (Lib.hid KU_1.ports) (Lib.hid ((HP.out.below S_1.old (Nat.le_refl _)).wide S_1.old.size)))
        have hu := KU_1.bk
        have hx := S_1.bk 1 rfl
        go_wp2_with (first | (with_reducible refine wpList_load_rowG (by kernel_rfl) 31 (.tmp 7) rfl U (by kernel_rfl) _ _ (0, 0) _ hu Tryd.underlying31 rfl (by kernel_rfl) ?_) | (with_reducible refine wpList_load_rowG (by kernel_rfl) 31 (.tmp 2) rfl X (by kernel_rfl) _ _ (0, 0) _ hx Tryd.underlying31 rfl (by kernel_rfl) ?_))
        (with_reducible refine HS.out.mono ?_); rintro e w9 ⟨rfl, b9⟩
        have BO := (S_1.below b9).old
        clear S_1 KU_1 hu hx HS b9
        go_wp2
        go_ret
        exact ⟨rfl, BO⟩
      · have hstb : (p.st == 0) = false := by simpa using hst
        have HST := Lib.hid hst
        clear hst
        obtain ⟨d, hd⟩ : ∃ d, desB p t.ow = d := ⟨_, rfl⟩
        have HDS := fun W => Lib.hid (desig_row p t.ow d (Lib.hid hd) W)
        have HDD := Lib.hid hd
        clear hd
        have hpx := S_1.bk 0 rfl
        have c0 := S_1.cell 1 0 rfl rfl
        go_wp2_with (with_reducible refine wpList_load_rowG (by kernel_rfl) 41 (.tmp 6) rfl P (by kernel_rfl) _ _ (0, 0) _ hpx Tryd.underlying41 rfl (by kernel_rfl) ?_)
        (with_reducible refine (HDS _).out.mono ?_); rintro e w8 ⟨rfl, b8⟩
        have S8 := S_1.below b8
        have K8 := KU_1.below b8
        clear S_1 KU_1 hpx c0 p1 hstb HDS b8
        cases d with
        | false =>
          have hRR := HRR.out
          rw [tcn_hears HX.out, if_neg HST.out, if_neg (by rw [HDD.out]; decide)] at hRR
          subst hRR
          clear HRR
          go_upto_region 7 with fail
          obtain ⟨A1, q1, e⟩ := K8.outs.shape
          obtain rfl : v1 = .slice A1 0 q1 := e
          have HS := Lib.hid (rsame_alike t D1 (some ad0) n k1 cap L HL hn2 _ (Lib.hid K8.ports) (Lib.hid ((HP.out.below S8.old (Nat.le_refl _)).wide S8.old.size)))
          have hu := K8.bk
          have hx := S8.bk 1 rfl
          go_wp2_with (first | (with_reducible refine wpList_load_rowG (by kernel_rfl) 31 (.tmp 7) rfl U (by kernel_rfl) _ _ (0, 0) _ hu Tryd.underlying31 rfl (by kernel_rfl) ?_) | (with_reducible refine wpList_load_rowG (by kernel_rfl) 31 (.tmp 2) rfl X (by kernel_rfl) _ _ (0, 0) _ hx Tryd.underlying31 rfl (by kernel_rfl) ?_))
          (with_reducible refine HS.out.mono ?_); rintro e w9 ⟨rfl, b9⟩
          have BO := (S8.below b9).old
          clear S8 K8 hu hx HS b9
          go_wp2
          go_ret
          exact ⟨rfl, BO⟩
        | true =>
          have hpu := acks_pure HTB.out HB.out HX.out HST.out HDD.out
          rw [HRR.out] at hpu
          obtain ⟨hdt, hm2, y, hy, hak, hlast⟩ := hpu
          have HDT := Lib.hid hdt
          have HY := Lib.hid hy
          have HAK := Lib.hid hak
          have HLA := Lib.hid hlast
          clear hy hak hlast
          go_upto_region 8 with fail
          have u10 : w8.cell? ⟨U, 10, none⟩ = some (.bool true) := by
            have := K8.cell (i := 10) rfl
            rw [hdt, (det_told t).1] at this
            exact this
          obtain ⟨q, hq⟩ : ∃ q, decide (t.ro = t.ow) = q := ⟨_, rfl⟩
          have HI := fun W => Lib.hid (isroot_is t (some ad0) n cap q (Lib.hid hq) W)
          have HQ2 := Lib.hid hq
          clear hq hdt
          have u11 : ∀ W, Below w8.heap.size w8 W → W.cell? ⟨U, 11, none⟩ = some (.bool R.1.1.ch) := fun W b => (K8.below b).cell (i := 11) rfl
          have hch : q = true → R.1.1.ch = true := fun e => by rw [HDT.out]; exact (det_told t).2 (of_decide_eq_true (by rw [HQ2.out]; exact e))
          have HU11 := Lib.hid u11
          have HCH := Lib.hid hch
          clear u11 hch
          obtain ⟨A1, q1, e⟩ := K8.outs.shape
          obtain ⟨m, hm⟩ : ∃ m, R.2.length = m := ⟨_, rfl⟩
          have HM := Lib.hid hm
          obtain rfl : v1 = .slice A1 m q1 := e.trans (by rw [← hm])
          rw [hm] at hm2
          clear e hm
          go_cut [72] (fun u wx => u = .bool false ∧ Below w8.heap.size w8 wx)
          case first =>
            have hx := S8.bk 1 rfl
            go_wp2_with (with_reducible refine wpList_load_rowG (by kernel_rfl) 31 (.tmp 2) rfl X (by kernel_rfl) _ _ (0, 0) _ hx Tryd.underlying31 rfl (by kernel_rfl) ?_)
            (with_reducible refine (HI _).out.mono ?_); rintro e w9 ⟨rfl, b9⟩
            have u11 := HU11.out w9 b9
            have hch := HCH.out
            clear HI hx u10
            cases q with
            | true =>
              rw [hch rfl] at u11
              clear hch
              go_wp2_with fail
              go_meet
              exact ⟨rfl, b9⟩
            | false =>
              clear hch
              go_wp2_with fail
              go_meet
              exact ⟨rfl, b9⟩
          case rest =>
            obtain ⟨rfl, b9⟩ := hcut
            rename World => wb9
            have S9 := S8.below b9
            have K9 := K8.below b9
            clear S8 K8 b9 u10 HI HU11 HCH
            have RR := Lib.hid (show Below w.heap.size w wb9 ∧ AN wb9 U D1 k1 (.slice A1 m q1) R.1.1 n (R.1.2, R.2) from ⟨S9.old, K9⟩)
            clear S9 K9
            go_wp2
            go_loopw [9] (fun i wr => ∃ j : Nat, j ≤ m ∧ i = .int .i64 j ∧ Hid (Below w.heap.size w wr ∧ AN wr U D1 k1 (.slice A1 m q1) R.1.1 n (R.1.2, R.2))) (fun i _ => m - (intOf i).toNat)
            case atStart => exact ⟨0, Nat.zero_le _, rfl, RR⟩
            case round =>
              clear RR
              obtain ⟨j, hj, rfl, Q⟩ := hrel
              by_cases hjm : j < m
              · have hji : (j : Int) < (m : Int) := by omega
                have hjz : ¬ (m : Int) ≤ (j : Int) := by omega
                obtain ⟨o, ho⟩ : ∃ o, R.2[j]? = some o := ⟨R.2[j]'(by have := HM.out; omega), List.getElem?_eq_getElem _⟩
                have HO := Lib.hid ho
                clear ho
                obtain ⟨c, g, hco, rfl, hg, hcl, hat⟩ := Q.out.2.outs.at HO.out
                have HCO := Lib.hid hco
                have hN3 : 3 ≤ ouN c.o := by unfold ouN; omega
                have hrow : Row wr c.g c.cap (ouB c.o) := hat.2
                have hcap : ouN c.o ≤ c.cap := by
                  obtain ⟨_, _, h3, _⟩ := hrow
                  rw [ouB_len] at h3
                  exact h3
                have p4 : wr.cell? ⟨g, j * 5 + 1 + 3, none⟩ = some (.slice (some ⟨c.g, 0, none⟩) (ouN c.o) c.cap) := hcl 4 _ rfl
                have HP0 := Lib.hid (show ∀ W, Below wr.heap.size wr W → W.cell? ⟨g, j * 5, none⟩ = some (.int .i64 o.i) from fun W b => by
                  have := hcl 0 _ rfl
                  rw [hco] at this
                  exact (b.cell (p := ⟨g, j * 5, none⟩) hg).trans this)
                obtain ⟨CA, hCA⟩ : ∃ q, cutA (some ⟨c.g, 0, none⟩) 3 c.cap = q := ⟨_, rfl⟩
                obtain ⟨m3, hm3⟩ : ∃ q, ouN c.o - 3 = q := ⟨_, rfl⟩
                obtain ⟨c3, hc3⟩ : ∃ q, c.cap - 3 = q := ⟨_, rfl⟩
                obtain ⟨lb, hlb⟩ : ∃ q, bqB o.x = q := ⟨_, rfl⟩
                have hcut : ∀ W, (Instr.sliceAt 50 (.slice (some ⟨c.g, 0, none⟩) (ouN c.o) c.cap) (some (.int .i64 3)) none none).run Tryd.prog W = .ok (.slice CA m3 c3) W := fun W => by rw [← hCA, ← hm3, ← hc3]; exact scut_any _ _ _ 3 hN3 W
                have hrb : RB wr CA 0 wr.heap.size lb := by
                  have h := (hrow.rb 0 wr.heap.size (Nat.zero_le _) hrow.lt).drop 3 c.cap (by rw [ouB_len]; exact hcap)
                  rw [hCA, hco] at h
                  rw [← hlb]
                  exact h
                have hlen : lb.length = m3 := by
                  rw [← hlb, ← hm3, bqB_len, hco]
                  unfold ouN
                  omega
                have hm3b : m3 ≤ 10000 := by
                  have := bqN_le o.x
                  rw [← hlen, ← hlb, bqB_len]
                  omega
                have HGT : Hid (Calls Tryd.prog 15 #[.slice CA m3 c3] wr (fun e w' => e = .returned (.tuple #[.agg (lB (getQ lb)).toArray, .int .i64 (gE lb)]) ∧ Below wr.heap.size wr w')) := Lib.hid (get_any CA c3 lb m3 (Lib.hid hlen) hm3b (by omega) wr hrb)
                have hA := HAK.out o (List.mem_of_getElem? HO.out)
                unfold AckO at hA
                rw [hlb] at hA
                have HA2 := Lib.hid hA
                clear hA hlb hrb hlen hm3b hCA hm3 hc3 hrow hat hcl hco hcap hN3 hg
                go_wp2_with fail
                (with_reducible refine HGT.out.mono ?_); rintro e w10 ⟨rfl, b10⟩
                have Q10 := Lib.hid (show _ ∧ _ from ⟨Q.out.1.trans (b10.mono Q.out.1.size), Q.out.2.below b10⟩)
                have p0 := HP0.out _ b10
                have HP1 := Lib.hid (show ∀ W, Below w10.heap.size w10 W → W.cell? ⟨g, j * 5, none⟩ = some (.int .i64 o.i) from fun W b => HP0.out W (b10.trans (b.mono b10.size)))
                clear Q HGT HP0 b10 p4 hcut p0
                go_upto_region 14 with (refine wpList_store_row rfl 35 _ _ rfl _ _ rfl rfl _ _ (heap_alloc_new _ _) (by kernel_rfl) (by kernel_rfl) (by kernel_rfl) ?_)
                rw [alloc_row]
                have bN := new_below w10 (.cells (lB (getQ lb)).toArray 35)
                have x0 : (w10.alloc (.cells (lB (getQ lb)).toArray 35)).cell? ⟨w10.heap.size, 0, none⟩ = some (.bool (gTc lb)) := (show Bk _ w10.heap.size 35 (lB (getQ lb)) from heap_alloc_new _ _).cell 0
                have x2 : (w10.alloc (.cells (lB (getQ lb)).toArray 35)).cell? ⟨w10.heap.size, 2, none⟩ = some (.bool (gAk lb)) := (show Bk _ w10.heap.size 35 (lB (getQ lb)) from heap_alloc_new _ _).cell 2
                obtain ⟨tc, htc⟩ : ∃ q, gTc lb = q := ⟨_, rfl⟩
                obtain ⟨ak, hak⟩ : ∃ q, gAk lb = q := ⟨_, rfl⟩
                obtain ⟨ge, hge⟩ : ∃ q, gE lb = q := ⟨_, rfl⟩
                have hA := HA2.out
                rw [htc, hak, hge] at hA
                rw [htc] at x0
                rw [hak] at x2
                rw [hge]
                clear htc hak hge HA2
                have Q11 := Lib.hid (show _ ∧ _ from ⟨Q10.out.1.trans (bN.mono Q10.out.1.size), Q10.out.2.below bN⟩)
                have p0 := HP1.out _ bN
                obtain ⟨w11, hw11⟩ : ∃ q, w10.alloc (.cells (lB (getQ lb)).toArray 35) = q := ⟨_, rfl⟩
                obtain ⟨V, hV⟩ : ∃ q, w10.heap.size = q := ⟨_, rfl⟩
                rw [hw11] at x0 x2 Q11 p0 ⊢
                rw [hV] at x0 x2 ⊢
                clear hw11 hV bN Q10 HP1
                obtain ⟨ad1, rfl⟩ := Q11.out.2.ports.some HY.out
                have d18 := Q11.out.2.cell (i := 18) rfl
                have d7 := Q11.out.2.port HY.out 6 rfl
                obtain ⟨uk, huk⟩ : ∃ q, y.ak = q := ⟨_, rfl⟩
                rw [huk] at d7 hA
                clear huk
                obtain ⟨b1, hb1⟩ : ∃ q, (o.i == (k : Int)) = q := ⟨_, rfl⟩
                obtain ⟨b2, hb2⟩ : ∃ q, (ge == 0) = q := ⟨_, rfl⟩
                rw [hb2] at hA
                cases b1 with
                | false =>
                  clear hA
                  go_wp2
                  go_roundw
                  case rel => exact ⟨j + 1, by omega, by go_num, Q11⟩
                  case measure => simp [intOf]; omega
                | true =>
                  cases b2 with
                  | false =>
                    clear hA
                    go_wp2
                    go_roundw
                    case rel => exact ⟨j + 1, by omega, by go_num, Q11⟩
                    case measure => simp [intOf]; omega
                  | true =>
                    cases tc with
                    | true =>
                      clear hA
                      go_wp2
                      go_roundw
                      case rel => exact ⟨j + 1, by omega, by go_num, Q11⟩
                      case measure => simp [intOf]; omega
                    | false =>
                      obtain ⟨rfl, rfl⟩ : ak = true ∧ uk = false := by simpa using hA
                      clear hA
                      go_wp2
                      go_roundw
                      case rel => exact ⟨j + 1, by omega, by go_num, Q11⟩
                      case measure => simp [intOf]; omega
              · have hjz : ¬ (j : Int) < (m : Int) := by omega
                have d18 := Q.out.2.cell (i := 18) rfl
                obtain ⟨ad1, rfl⟩ := Q.out.2.ports.some HY.out
                have d7 := Q.out.2.port HY.out 6 rfl
                have BO := Q.out.1
                have hLA := HLA.out
                rw [HM.out] at hLA
                clear Q
                obtain ⟨uk, huk⟩ : ∃ q, y.ak = q := ⟨_, rfl⟩
                rw [huk] at d7 hLA
                cases uk with
                | true =>
                  clear hLA
                  go_wp2
                  go_ret
                  exact ⟨rfl, BO⟩
                | false =>
                  have hm0 : 0 < m := by simpa using hLA
                  have hm0i : (0 : Int) < (m : Int) := by omega
                  clear hLA
                  go_wp2
                  go_ret
                  exact ⟨rfl, BO⟩

end Go.Proofs.YteplefdnnehdgaaDoor
