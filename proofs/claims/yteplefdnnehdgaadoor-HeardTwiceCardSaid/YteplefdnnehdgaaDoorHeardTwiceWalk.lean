/- The law HeardTwice, walked. -/
import Derived.Test.YteplefdnnehdgaaDoorPk12
import Derived.Test.YteplefdnnehdgaaDoorPk14
import Derived.Test.YteplefdnnehdgaaDoorPk15
import Derived.Test.YteplefdnnehdgaaDoorPk03
import Derived.Deep.DeepCutAuto
import Derived.LoopTactic
import Derived.Deep.QuietTactic
import Derived.BigQuiet
namespace Go.Proofs.YteplefdnnehdgaaDoor
set_option maxRecDepth 100000
open Go.ChangeShapes Go.WideShapes Go.ChangeAt Go.RowKit
set_option linter.unusedVariables false
set_option linter.unusedSimpArgs false

set_option maxHeartbeats 4000000 in
theorem HeardTwice_walk (t : Th) (A : Option Addr) (n cap : Nat) (L : List Po) (i : Int) (x : Bq) (w : World) (hd : Hd w) (ht : ThB t) (hm : TmB t) (hL : L.length = n) (hn : n ≤ 9223372036854775807) (hz : A = none → cap = 0) (hb : ∀ x ∈ L, PoB x) (hp : PoAt w A w.heap.size L) (hi : (Lit.int .u8 i).wf = true) (hxb : BqIn x) :
    Calls Tryd.prog 6 #[.agg (lT t A n cap).toArray, .int .u8 i, .agg (lB x).toArray] w fun e w' => e = .returned (.bool true) ∧ Below w.heap.size w w' := by
  have hi := bounds_u8 hi
  have HA := fun W (h : Below w.heap.size w W) => Lib.hid (awake15_is W (hd.below h (Nat.le_refl _)))
  have HD := Lib.hid hd
  have HB := Lib.hid hb
  have HTB := Lib.hid ht
  have HNB := Lib.hid (show (-9223372036854775808 ≤ t.n1 ∧ t.n1 ≤ 9223372036854775807 ∧ -9223372036854775808 ≤ t.n2 ∧ t.n2 ≤ 9223372036854775807 ∧ -9223372036854775808 ≤ t.n3 ∧ t.n3 ≤ 9223372036854775807) from hm)
  have HL := Lib.hid hL
  have HP := Lib.hid hp
  have HCZ := Lib.hid hz
  have HXB := Lib.hid hxb
  have HF := fun W (h : Below w.heap.size w W) => Lib.hid (fit_is t A n cap L HL hn W (Lib.hid ((HP.out.below h (Nat.le_refl _)).wide h.size)))
  clear hb hL hz hp ht hn hd hm hxb
  obtain ⟨wb, hwb, S⟩ := hs_two w 31 35 (lT t A n cap) (lB x)
  go_enter Tryd.func6, Tryd.ntmps6
  go_upto_region 1 with fail
  clear hwb
  obtain ⟨X, hX⟩ : ∃ X, w.heap.size = X := ⟨_, rfl⟩
  rw [hX] at S
  rw [hX]
  obtain ⟨B, hB⟩ : ∃ B, X + 1 = B := ⟨_, rfl⟩
  rw [hB] at S
  rw [hB]
  clear hB
  clear hX
  go_wp2_with fail
  (with_reducible refine (HA _ S.old).out.mono ?_); rintro e w1 ⟨rfl, b1⟩
  have S1 := S.below b1
  clear S b1
  have hx := S1.bk 1 rfl
  go_wp2_with (with_reducible refine wpList_load_rowG (by kernel_rfl) 31 (.tmp 3) rfl X (by kernel_rfl) _ _ (0, 0) _ hx Tryd.underlying31 rfl (by kernel_rfl) ?_)
  (with_reducible refine (HF _ S1.old).out.mono ?_); rintro e w2 ⟨q, rfl, hq, b2⟩
  have S2 := S1.below b2
  have HQ := Lib.hid hq
  clear S1 hx HF b2 hq
  cases q with
  | false =>
    go_wp2_with fail
    (with_reducible refine (HA _ S2.old).out.mono ?_); rintro e wq ⟨rfl, bq⟩
    have Sq := S2.below bq
    go_wp2
    go_ret
    exact ⟨rfl, Sq.old⟩
  | true =>
    have HN := Lib.hid (HQ.out rfl).1
    have HU := Lib.hid (HQ.out rfl).2
    clear HQ
    have hn2 : n ≤ 200 := by have := HN.out; omega
    have c18 := S2.cell 1 18 rfl rfl
    have b4 := S2.cell 0 4 rfl rfl
    by_cases h0 : n = 0
    · subst h0
      go_wp2_with fail
      (with_reducible refine (HA _ S2.old).out.mono ?_); rintro e wq ⟨rfl, bq⟩
      have Sq := S2.below bq
      go_wp2
      go_ret
      exact ⟨rfl, Sq.old⟩
    · have hz0 : ((n : Int) == 0) = false := by simpa using h0
      by_cases hfar : 2147483648 ≤ x.co
      · go_wp2_with fail
        (with_reducible refine (HA _ S2.old).out.mono ?_); rintro e wq ⟨rfl, bq⟩
        have Sq := S2.below bq
        go_wp2
        go_ret
        exact ⟨rfl, Sq.old⟩
      · go_wp2
        clear c18 b4 hz0
        go_loopw [7] (fun i wr => ∃ j : Nat, j ≤ n ∧ i = .int .i64 j ∧ wr = w2 ∧ Hid (∀ (m : Nat) z, m < j → L[m]? = some z → CostB z)) (fun i _ => n - (intOf i).toNat)
        case atStart => exact ⟨0, Nat.zero_le _, rfl, rfl, Lib.hid (fun m z h => by omega)⟩
        case round =>
          obtain ⟨j, hj, rfl, rfl, hck⟩ := hrel
          have c18 := S2.cell 1 18 rfl rfl
          by_cases hjn : j < n
          · obtain ⟨y, hy⟩ := po_at HL.out hjn
            have hji : (j : Int) < (n : Int) := by omega
            have hjz : ¬ (n : Int) ≤ (j : Int) := by omega
            have HY := Lib.hid hy
            obtain ⟨ad, rfl, -, h0, h1⟩ := (HP.out.below S2.old (Nat.le_refl _)).cells hy
            have p2 : wr.cell? ⟨(ad.add (j * 15)).block, (ad.add (j * 15)).off + 2, none⟩ = some (.int .u32 y.co) := h1 1 _ rfl
            have p4 : wr.cell? ⟨(ad.add (j * 15)).block, (ad.add (j * 15)).off + 3 + 1, none⟩ = some (.int .u32 y.hc) := h1 3 _ rfl
            have hPB := Lib.hid (HB.out y (List.mem_of_getElem? hy))
            clear hy h0 h1
            by_cases kk9 : y.co < 1
            · go_wp2
              go_ret
              exact ⟨rfl, S2.old⟩
            by_cases kk13 : 65535 < y.co
            · go_wp2
              go_ret
              exact ⟨rfl, S2.old⟩
            by_cases kk17 : 2147483648 ≤ y.hc
            · go_wp2
              go_ret
              exact ⟨rfl, S2.old⟩
            go_wp2
            go_roundw
            case rel =>
              refine ⟨j + 1, by omega, by go_num, (by first | trivial | rfl), Lib.hid (fun j' z hj' hz' => ?_)⟩
              by_cases e : j' = j
              · subst e
                rw [HY.out] at hz'
                cases hz'
                have := hPB.out
                unfold PoB at this
                unfold CostB
                omega
              · exact hck.out j' z (by omega) hz'
            case measure => simp [intOf]; omega
          · have hjz : ¬ (j : Int) < (n : Int) := by omega
            have HK : Hid (∀ z ∈ L, CostB z) := Lib.hid (fun z hz => by
              obtain ⟨j', hj', e⟩ := List.getElem_of_mem hz
              exact hck.out j' z (by have := HL.out; omega) (by rw [List.getElem?_eq_getElem hj', e]))
            clear hck
            go_upto_region 8 with fail
            clear c18 hjz hjn hj
            rename World => w2
            have c18 := S2.cell 1 18 rfl rfl
            obtain ⟨k, hk⟩ : ∃ k : Nat, Int.tmod i (n : Int) = k := ⟨(Int.tmod i n).toNat, by have := Int.tmod_nonneg (n : Int) hi.1; omega⟩
            have hkn : k < n := by have := Int.tmod_lt_of_pos i (show (0 : Int) < n by omega); omega
            obtain ⟨p, hp0⟩ := po_at HL.out hkn
            have HX := Lib.hid hp0
            clear hp0
            have hki : (k : Int) < (n : Int) := by omega
            have hkz : ¬ (n : Int) ≤ (k : Int) := by omega
            have hw8 : IntKind.i64.wrap i = i := by simp [IntKind.wrap, IntKind.bits, IntKind.signed]; omega
            obtain ⟨ad0, rfl⟩ := HP.out.some HX.out
            go_upto_region 9 with fail
            clear c18 hw8 hk
            have b5 := S2.cell 0 5 rfl rfl
            have b6 := S2.cell 0 6 rfl rfl
            have c0 := S2.cell 1 0 rfl rfl
            have c18 := S2.cell 1 18 rfl rfl
            obtain ⟨_, e0, -, p0, -⟩ := (HP.out.below S2.old (Nat.le_refl _)).cells HX.out
            cases e0
            obtain ⟨g1, hg1⟩ : ∃ b, (x.br == t.ow) = b := ⟨_, rfl⟩
            obtain ⟨g2, hg2⟩ : ∃ b, (x.po == p.id) = b := ⟨_, rfl⟩
            have HG1 := Lib.hid hg1
            have HG2 := Lib.hid hg2
            go_cut [89] (fun u wx => u = .bool (g1 && g2) ∧ Below w2.heap.size w2 wx)
            case first =>
              cases g1 with
              | false =>
                go_wp2
                go_quiet (fail)
                have Bq : Below w2.heap.size w2 (w2.drewN nq) := ⟨rfl, rfl, rfl, Nat.le_refl _, fun _ _ => rfl⟩
                go_wp2_with fail
                go_meet
                exact ⟨rfl, Bq⟩
              | true =>
                cases g2 with
                | false =>
                  go_wp2
                  go_quiet (fail)
                  have Bq : Below w2.heap.size w2 (w2.drewN nq) := ⟨rfl, rfl, rfl, Nat.le_refl _, fun _ _ => rfl⟩
                  go_wp2_with fail
                  go_meet
                  exact ⟨rfl, Bq⟩
                | true =>
                  go_wp2
                  go_quiet (fail)
                  have Bq : Below w2.heap.size w2 (w2.drewN nq) := ⟨rfl, rfl, rfl, Nat.le_refl _, fun _ _ => rfl⟩
                  go_wp2_with fail
                  go_meet
                  exact ⟨rfl, Bq⟩
            case rest =>
              obtain ⟨rfl, B3⟩ := hcut
              rename World => w3
              have S3 := S2.below B3
              clear S2 B3 b5 b6 c0 c18 p0 hg1 hg2
              by_cases hown : (g1 && g2) = true
              · rw [hown]
                have BO := S3.old
                go_wp2
                go_ret
                exact ⟨rfl, BO⟩
              · have hne : ¬ (x.br = t.ow ∧ x.po = p.id) := fun ⟨e1, e2⟩ => hown (by rw [← HG1.out, ← HG2.out, e1, e2]; simp)
                have HNE := Lib.hid hne
                have hof : (g1 && g2) = false := by simpa using hown
                rw [hof]
                have HFR := Lib.hid (show x.co < 2147483648 by omega)
                clear hne hof hown
                go_upto_region 11 with fail
                obtain ⟨sr, hsr⟩ : ∃ s, settleR t L = s := ⟨_, rfl⟩
                have HSR := Lib.hid hsr
                have HUB := Lib.hid (show ThB sr.1.1 by rw [← hsr]; exact settle_bd (by rw [HL.out]; exact hn2) HTB.out HB.out)
                have HUN := Lib.hid (show (-9223372036854775808 ≤ sr.1.1.n1 ∧ sr.1.1.n1 ≤ 9223372036854775807 ∧ -9223372036854775808 ≤ sr.1.1.n2 ∧ sr.1.1.n2 ≤ 9223372036854775807 ∧ -9223372036854775808 ≤ sr.1.1.n3 ∧ sr.1.1.n3 ≤ 9223372036854775807) by rw [← hsr]; exact settle_nb HNB.out)
                have HM := Lib.hid (show sr.1.2.length = n by rw [← hsr]; exact settle_n HL.out)
                have HMB := Lib.hid (show ∀ z ∈ sr.1.2, PoB z by rw [← hsr]; exact settle_pb HB.out (sel_bd (by rw [HL.out]; exact hn2) HTB.out HB.out))
                have HCS := Lib.hid (hsettle_is t (some ad0) n cap L HL hn2 HTB HB HCZ _ (HD.out.below S3.old (Nat.le_refl _)) (Lib.hid ((HP.out.below S3.old (Nat.le_refl _)).wide S3.old.size)))
                rw [hsr] at HCS
                clear hsr
                have hx := S3.bk 1 rfl
                go_wp2_with (with_reducible refine wpList_load_rowG (by kernel_rfl) 31 (.tmp 3) rfl X (by kernel_rfl) _ _ (0, 0) _ hx Tryd.underlying31 rfl (by kernel_rfl) ?_)
                (with_reducible refine (HCS).out.mono ?_); rintro e x1 ⟨D1, k1, v1, rfl, hz1, T1, hO1⟩
                have S_1a := S3.below T1.old
                go_upto_region 12 with (refine wpList_store_row rfl 31 _ _ rfl _ _ rfl rfl _ _ (heap_alloc_new _ _) (by kernel_rfl) (by kernel_rfl) (by kernel_rfl) ?_)
                rw [alloc_row]
                have bN := new_below x1 (.cells (lT sr.1.1 D1 n k1).toArray 31)
                have KU_1 := AN.new (t := sr.1.1) (n := n) (R := ((sr.1.2, sr.2) : List Po × List Ou)) hz1 T1.ports hO1
                have S_1 := S_1a.below bN
                obtain ⟨U, hG⟩ : ∃ G, x1.heap.size = G := ⟨_, rfl⟩
                rw [hG] at KU_1 ⊢
                obtain ⟨y1, hy⟩ : ∃ y, x1.alloc (.cells (lT sr.1.1 D1 n k1).toArray 31) = y := ⟨_, rfl⟩
                rw [hy] at S_1 KU_1  ⊢
                clear hy hG bN hz1 hO1 T1 S3 S_1a
                clear hx HCS
                obtain ⟨R, hR⟩ : ∃ R, heardR sr.1.1 sr.1.2 k x = R := ⟨_, rfl⟩
                have HRR := Lib.hid hR
                have HCC := Lib.hid (hconf_is sr.1.1 D1 n k1 sr.1.2 k x (by omega) HXB HM hn2 HUB HUN HMB (Lib.hid KU_1.2.1) _ (HD.out.below S_1.old (Nat.le_refl _)) (Lib.hid KU_1.ports))
                rw [hR] at HCC
                clear hR
                have hx := KU_1.bk
                have hxB := S_1.bk 0 rfl
                go_wp2_with (first | (with_reducible refine wpList_load_rowG (by kernel_rfl) 31 (.tmp 9) rfl U (by kernel_rfl) _ _ (0, 0) _ hx Tryd.underlying31 rfl (by kernel_rfl) ?_) | (with_reducible refine wpList_load_row rfl 35 (.tmp 5) rfl B (by kernel_rfl) _ _ (0, 0) _ hxB Tryd.underlying35 rfl (by kernel_rfl) ?_))
                (with_reducible refine (HCC).out.mono ?_); rintro e x2 ⟨D2, k2, v2, rfl, hz2, T2, hO2⟩
                have S_2a := S_1.below T2.old
                have KU_2a := KU_1.below T2.old
                go_upto_region 13 with (refine wpList_store_row rfl 31 _ _ rfl _ _ rfl rfl _ _ (heap_alloc_new _ _) (by kernel_rfl) (by kernel_rfl) (by kernel_rfl) ?_)
                rw [alloc_row]
                have bN := new_below x2 (.cells (lT R.1.1 D2 n k2).toArray 31)
                have KV_2 := AN.new (t := R.1.1) (n := n) (R := ((R.1.2, R.2) : List Po × List Ou)) hz2 T2.ports hO2
                have S_2 := S_2a.below bN
                have KU_2 := KU_2a.below bN
                obtain ⟨V, hG⟩ : ∃ G, x2.heap.size = G := ⟨_, rfl⟩
                rw [hG] at KV_2 ⊢
                obtain ⟨y2, hy⟩ : ∃ y, x2.alloc (.cells (lT R.1.1 D2 n k2).toArray 31) = y := ⟨_, rfl⟩
                rw [hy] at S_2 KV_2 KU_2 ⊢
                clear hy hG bN hz2 hO2 T2 S_1 S_2a KU_1 KU_2a
                clear hx hxB HCC
                have HRB := Lib.hid (show AllB R.1 n by rw [← HRR.out, ← HM.out]; exact heard_all (by rw [HM.out]; exact hn2) HUB.out HUN.out HMB.out HXB.out)
                obtain ⟨R2, hR2⟩ : ∃ R2, heardR R.1.1 R.1.2 k x = R2 := ⟨_, rfl⟩
                have HR2 := Lib.hid hR2
                have HCC := Lib.hid (hconf_is R.1.1 D2 n k2 R.1.2 k x (by omega) HXB (Lib.hid HRB.out.2.2.2) hn2 (Lib.hid HRB.out.1) (Lib.hid HRB.out.2.1) (Lib.hid HRB.out.2.2.1) (Lib.hid KV_2.2.1) _ (HD.out.below S_2.old (Nat.le_refl _)) (Lib.hid KV_2.ports))
                rw [hR2] at HCC
                clear hR2
                have hx := KV_2.bk
                have hxB := S_2.bk 0 rfl
                go_wp2_with (first | (with_reducible refine wpList_load_rowG (by kernel_rfl) 31 (.tmp 11) rfl V (by kernel_rfl) _ _ (0, 0) _ hx Tryd.underlying31 rfl (by kernel_rfl) ?_) | (with_reducible refine wpList_load_row rfl 35 (.tmp 5) rfl B (by kernel_rfl) _ _ (0, 0) _ hxB Tryd.underlying35 rfl (by kernel_rfl) ?_))
                (with_reducible refine (HCC).out.mono ?_); rintro e x3 ⟨D3, k3, v3, rfl, hz3, T3, hO3⟩
                have S_3a := S_2.below T3.old
                have KU_3a := KU_2.below T3.old
                have KV_3a := KV_2.below T3.old
                go_upto_region 14 with (refine wpList_store_row rfl 31 _ _ rfl _ _ rfl rfl _ _ (heap_alloc_new _ _) (by kernel_rfl) (by kernel_rfl) (by kernel_rfl) ?_)
                rw [alloc_row]
                have bN := new_below x3 (.cells (lT R2.1.1 D3 n k3).toArray 31)
                have KZ_3 := AN.new (t := R2.1.1) (n := n) (R := ((R2.1.2, R2.2) : List Po × List Ou)) hz3 T3.ports hO3
                have S_3 := S_3a.below bN
                have KU_3 := KU_3a.below bN
                have KV_3 := KV_3a.below bN
                obtain ⟨Z, hG⟩ : ∃ G, x3.heap.size = G := ⟨_, rfl⟩
                rw [hG] at KZ_3 ⊢
                obtain ⟨y3, hy⟩ : ∃ y, x3.alloc (.cells (lT R2.1.1 D3 n k3).toArray 31) = y := ⟨_, rfl⟩
                rw [hy] at S_3 KZ_3 KU_3 KV_3 ⊢
                clear hy hG bN hz3 hO3 T3 S_2 S_3a KU_2 KU_3a KV_2 KV_3a
                clear hx hxB HCC
                have hTW := twice_law (t := t) HU.out HK.out HX.out ⟨by have h := HXB.out; unfold BqIn BpIn at h; omega, HFR.out⟩ HNE.out
                rw [HSR.out, HRR.out, HR2.out] at hTW
                obtain ⟨⟨o1, o2, o3, o4⟩, hAL⟩ := hTW
                have HAL := Lib.hid hAL
                have HL2 := Lib.hid (show R2.1.2.length = n by rw [hAL.1]; exact HRB.out.2.2.2)
                have HT1 := fun W => Lib.hid (telling_is R.1.1 D2 n k2 W)
                have HT2 := fun W => Lib.hid (telling_is R2.1.1 D3 n k3 W)
                have E := fun W => vec_eq R.1.1.ro R.1.1.co R.1.1.ow 0 R2.1.1.ro R2.1.1.co R2.1.1.ow 0 true (by rw [o1, o2, o3]; simp) W
                have hrp : (R.1.1.rp != R2.1.1.rp) = false := by rw [o4]; simp
                clear o1 o2 o3 o4 hAL
                have c3 : ∀ q : LaterW y3, q.w'.cell? ⟨V, 3, none⟩ = some (.int .i64 R.1.1.rp) := fun q => (KV_3.below q.h).cell (i := 3) rfl
                have d3 : ∀ q : LaterW y3, q.w'.cell? ⟨Z, 3, none⟩ = some (.int .i64 R2.1.1.rp) := fun q => (KZ_3.below q.h).cell (i := 3) rfl
                go_cut [120] (fun u wx => u = .bool false ∧ Below y3.heap.size y3 wx)
                case first =>
                  refine region_later mixedL (by kernel_rfl) ?_
                  (refine BigFrame.wpQuiet_want (by kernel_rfl) (fun K hK => ?_); refine quiet_load_row 31 _ rfl V (by kernel_rfl) _ _ (0, 0) _ (fun w hw => by obtain ⟨q, rfl⟩ := hw; exact (KV_3.below q.h).bk) Tryd.underlying31 rfl (by kernel_rfl) ?_; refine hK _ ?_; clear hK; go_simp)
                  go_big_quiet_step ((go_at_call 16; with_reducible exact Calls.later (HT1 _).out))
                  (refine BigFrame.wpQuiet_want (by kernel_rfl) (fun K hK => ?_); refine quiet_load_row 31 _ rfl Z (by kernel_rfl) _ _ (0, 0) _ (fun w hw => by obtain ⟨q, rfl⟩ := hw; exact (KZ_3.below q.h).bk) Tryd.underlying31 rfl (by kernel_rfl) ?_; refine hK _ ?_; clear hK; go_simp)
                  go_big_quiet_step ((go_at_call 16; with_reducible exact Calls.later (HT2 _).out))
                  repeat (go_big_quiet_step (fail))
                  refine wpQuiet_nil ?_
                  intro r
                  go_wp2_with fail
                  go_meet
                  exact ⟨rfl, r.h⟩
                case rest =>
                  obtain ⟨rfl, B9⟩ := hcut
                  rename World => w9
                  have S9 := S_3.below B9
                  have K9 := KV_3.below B9
                  have J9 := KZ_3.below B9
                  clear S_3 KU_3 KV_3 KZ_3 B9 c3 d3 E hrp HT1 HT2
                  have RR := Lib.hid (show Below w.heap.size w w9 ∧ AN w9 V D2 k2 v2 R.1.1 n (R.1.2, R.2) ∧ AN w9 Z D3 k3 v3 R2.1.1 n (R2.1.2, R2.2) from ⟨S9.old, K9, J9⟩)
                  clear S9 K9 J9
                  go_wp2
                  go_loopw [15] (fun i wr => ∃ j : Nat, j ≤ n ∧ i = .int .i64 j ∧ Hid (Below w.heap.size w wr ∧ AN wr V D2 k2 v2 R.1.1 n (R.1.2, R.2) ∧ AN wr Z D3 k3 v3 R2.1.1 n (R2.1.2, R2.2))) (fun i _ => n - (intOf i).toNat)
                  case atStart => exact ⟨0, Nat.zero_le _, rfl, RR⟩
                  case round =>
                    clear RR
                    obtain ⟨j, hj, rfl, Q⟩ := hrel
                    by_cases hjn : j < n
                    · obtain ⟨a, ha⟩ := po_at HRB.out.2.2.2 hjn
                      obtain ⟨b, hb⟩ := po_at HL2.out hjn
                      obtain ⟨q1, q2, q3, q4, q5⟩ := HAL.out.2 j b a hb ha
                      have hji : (j : Int) < (n : Int) := by omega
                      have hjz : ¬ (n : Int) ≤ (j : Int) := by omega
                      obtain ⟨ad1, rfl⟩ := Q.out.2.1.ports.some ha
                      obtain ⟨ad2, rfl⟩ := Q.out.2.2.ports.some hb
                      have HA1 := Lib.hid ha
                      have HB1 := Lib.hid hb
                      have c18 : ∀ q : LaterW wr, q.w'.cell? ⟨V, 18, none⟩ = some (.slice (some ad1) n k2) := fun q => (Q.out.2.1.below q.h).cell (i := 18) rfl
                      have d18 : ∀ q : LaterW wr, q.w'.cell? ⟨Z, 18, none⟩ = some (.slice (some ad2) n k3) := fun q => (Q.out.2.2.below q.h).cell (i := 18) rfl
                      have p1 : ∀ q : LaterW wr, q.w'.cell? ⟨(ad1.add (j * 15)).block, (ad1.add (j * 15)).off + 1, none⟩ = some (.int .i64 a.st) := fun q => (Q.out.2.1.below q.h).port HA1.out 0 rfl
                      have r1 : ∀ q : LaterW wr, q.w'.cell? ⟨(ad2.add (j * 15)).block, (ad2.add (j * 15)).off + 1, none⟩ = some (.int .i64 b.st) := fun q => (Q.out.2.2.below q.h).port HB1.out 0 rfl
                      have pv := po_vecq Q.out.2.1.ports (Nat.le_refl _) ha rfl
                      have rv := po_vecq Q.out.2.2.ports (Nat.le_refl _) hb rfl
                      have E := fun W => vec_eq a.hr a.hc a.hb a.hp b.hr b.hc b.hb b.hp true (by rw [q2, q3, q4, q5]; simp) W
                      have hst : (a.st != b.st) = false := by rw [q1]; simp
                      clear ha hb q1 q2 q3 q4 q5
                      have c18w := Q.out.2.1.cell (i := 18) rfl
                      go_upto_region 19 with fail
                      clear c18w
                      go_cut [155] (fun u wx => u = .bool false ∧ Below wr.heap.size wr wx)
                      case first =>
                        refine region_later mixedL (by kernel_rfl) ?_
                        go_big_quiet_step (fail)
                        go_big_quiet_step (fail)
                        go_big_quiet_step (fail)
                        go_big_quiet_step (fail)
                        go_big_quiet_step (fail)
                        go_big_quiet_step (fail)
                        go_big_quiet_step (fail)
                        go_big_quiet_step (fail)
                        go_big_quiet_step (fail)
                        go_big_quiet_step (fail)
                        go_big_quiet_step (fail)
                        go_big_quiet_step (fail)
                        go_big_quiet_step (fail)
                        go_big_quiet_step (fail)
                        go_big_quiet_step (fail)
                        go_big_quiet_step (fail)
                        go_big_quiet_step (fail)
                        go_big_quiet_step (fail)
                        go_big_quiet_step (fail)
                        (refine BigFrame.wpQuiet_want (by kernel_rfl) (fun K hK => ?_); refine quiet_load_at 39 _ rfl ⟨(ad1.add (j * 15)).block, (ad1.add (j * 15)).off + 3, none⟩ (by kernel_rfl) _ _ pv Tryd.underlying39 rfl (by kernel_rfl) ?_; refine hK _ ?_; clear hK; go_simp)
                        go_big_quiet_step (fail)
                        go_big_quiet_step (fail)
                        go_big_quiet_step (fail)
                        go_big_quiet_step (fail)
                        go_big_quiet_step (fail)
                        (refine BigFrame.wpQuiet_want (by kernel_rfl) (fun K hK => ?_); refine quiet_load_at 39 _ rfl ⟨(ad2.add (j * 15)).block, (ad2.add (j * 15)).off + 3, none⟩ (by kernel_rfl) _ _ rv Tryd.underlying39 rfl (by kernel_rfl) ?_; refine hK _ ?_; clear hK; go_simp)
                        repeat (go_big_quiet_step (fail))
                        refine wpQuiet_nil ?_
                        intro r
                        go_wp2_with fail
                        go_meet
                        exact ⟨rfl, r.h⟩
                      case rest =>
                        obtain ⟨rfl, B8⟩ := hcut
                        have Q8 := Lib.hid (show _ ∧ _ ∧ _ from ⟨Q.out.1.trans (B8.mono Q.out.1.size), Q.out.2.1.below B8, Q.out.2.2.below B8⟩)
                        clear Q B8 c18 d18 p1 r1 pv rv E hst
                        go_wp2
                        go_roundw
                        case rel => exact ⟨j + 1, by omega, by go_num, Q8⟩
                        case measure => simp [intOf]; omega
                    · have hjz : ¬ (j : Int) < (n : Int) := by omega
                      have c18 := Q.out.2.1.cell (i := 18) rfl
                      have BO := Q.out.1
                      clear Q
                      go_wp2
                      go_ret
                      exact ⟨rfl, BO⟩

end Go.Proofs.YteplefdnnehdgaaDoor
