/- The law SendHolds, walked. -/
import Derived.Test.YtcamakkicmapcaaDoorPk11
namespace Go.Proofs.YtcamakkicmapcaaDoor
set_option maxRecDepth 100000
open Go.ChangeShapes Go.WideShapes Go.ChangeAt Go.RowKit
set_option linter.unusedVariables false
set_option linter.unusedSimpArgs false

theorem sent_bd {p : Po} (h : PoB p) : PoB (sentP p) := by
  unfold PoB sentP at *
  dsimp only at *
  omega

set_option maxHeartbeats 2000000 in
theorem SendHolds_walk (t : Th) (A : Option Addr) (n cap : Nat) (L : List Po) (i : Int) (w : World) (hd : Hd w) (ht : ThB t) (hm : TmB t) (hL : L.length = n) (hn : n ≤ 9223372036854775807) (hz : A = none → cap = 0) (hb : ∀ x ∈ L, PoB x) (hp : PoAt w A w.heap.size L) (hi : (Lit.int .u8 i).wf = true) :
    Calls Tryd.prog 5 #[.agg (lT t A n cap).toArray, .int .u8 i] w fun e w' => e = .returned (.bool true) ∧ Below w.heap.size w w' := by
  have hi := bounds_u8 hi
  have HA := fun W (h : Below w.heap.size w W) => Lib.hid (awake14_is W (hd.below h (Nat.le_refl _)))
  have HD := Lib.hid hd
  have HB := Lib.hid hb
  have HTB := Lib.hid ht
  have HNB := Lib.hid (show (-9223372036854775808 ≤ t.n1 ∧ t.n1 ≤ 9223372036854775807 ∧ -9223372036854775808 ≤ t.n2 ∧ t.n2 ≤ 9223372036854775807 ∧ -9223372036854775808 ≤ t.n3 ∧ t.n3 ≤ 9223372036854775807) from hm)
  have HL := Lib.hid hL
  have HP := Lib.hid hp
  have HCZ := Lib.hid hz
  have HF := fun W (h : Below w.heap.size w W) => Lib.hid (fit_is t A n cap L HL hn W (Lib.hid ((HP.out.below h (Nat.le_refl _)).wide h.size)))
  clear hb hL hz hp ht hn hd hm
  obtain ⟨wb, hwb, S⟩ := hs_one w 31 (lT t A n cap)
  go_enter Tryd.func5, Tryd.ntmps5
  go_upto_region 1 with fail
  clear hwb
  obtain ⟨X, hX⟩ : ∃ X, w.heap.size = X := ⟨_, rfl⟩
  rw [hX] at S
  rw [hX]
  clear hX
  go_wp2_with fail
  (with_reducible refine (HA _ S.old).out.mono ?_); rintro e w1 ⟨rfl, b1⟩
  have S1 := S.below b1
  clear S b1
  have hx := S1.bk 0 rfl
  go_wp2_with (with_reducible refine wpList_load_rowG (by kernel_rfl) 31 (.tmp 2) rfl X (by kernel_rfl) _ _ (0, 0) _ hx Tryd.underlying31 rfl (by kernel_rfl) ?_)
  (with_reducible refine (HF _ S1.old).out.mono ?_); rintro e w2 ⟨q, rfl, hq, b2⟩
  have S2 := S1.below b2
  have HQ := Lib.hid hq
  clear S1 hx HF b2 hq
  cases q with
  | false =>
    go_wp2_with fail
    (with_reducible refine (HA _ S2.old).out.mono ?_); rintro e w3 ⟨rfl, b3⟩
    have S3 := S2.below b3
    clear S2 b3
    go_wp2
    go_ret
    exact ⟨rfl, S3.old⟩
  | true =>
    have HN := Lib.hid (HQ.out rfl).1
    clear HQ
    have hn2 : n ≤ 200 := by have := HN.out; omega
    have c18 := S2.cell 0 18 rfl rfl
    by_cases h0 : n = 0
    · subst h0
      go_wp2_with fail
      (with_reducible refine (HA _ S2.old).out.mono ?_); rintro e w3 ⟨rfl, b3⟩
      have S3 := S2.below b3
      clear S2 b3 c18
      go_wp2
      go_ret
      exact ⟨rfl, S3.old⟩
    · have hz0 : ((n : Int) == 0) = false := by simpa using h0
      obtain ⟨k, hk⟩ : ∃ k : Nat, Int.tmod i (n : Int) = k := ⟨(Int.tmod i n).toNat, by have := Int.tmod_nonneg (n : Int) hi.1; omega⟩
      have hkn : k < n := by have := Int.tmod_lt_of_pos i (show (0 : Int) < n by omega); omega
      obtain ⟨x, hx⟩ := po_at HL.out hkn
      have HX := Lib.hid hx
      clear hx
      have hki : (k : Int) < (n : Int) := by omega
      have hkz : ¬ (n : Int) ≤ (k : Int) := by omega
      have hw8 : IntKind.i64.wrap i = i := by simp [IntKind.wrap, IntKind.bits, IntKind.signed]; omega
      obtain ⟨ad0, rfl⟩ := HP.out.some HX.out
      go_upto_region 4 with fail
      clear c18 hw8 hz0 h0 hk
      have HCF := Lib.hid (sconf_is t (some ad0) n cap L k (by omega) HL hn2 HTB HNB HB HCZ _ (HD.out.below S2.old (Nat.le_refl _)) (Lib.hid ((HP.out.below S2.old (Nat.le_refl _)).wide S2.old.size)))
      have hx := S2.bk 0 rfl
      go_wp2_with (with_reducible refine wpList_load_rowG (by kernel_rfl) 31 (.tmp 2) rfl X (by kernel_rfl) _ _ (0, 0) _ hx Tryd.underlying31 rfl (by kernel_rfl) ?_)
      (with_reducible refine (HCF).out.mono ?_); rintro e x1 ⟨D1, k1, v1, rfl, hz1, T1, hO1⟩
      have S_1a := S2.below T1.old
      go_upto_region 5 with (refine wpList_store_row rfl 31 _ _ rfl _ _ rfl rfl _ _ (heap_alloc_new _ _) (by kernel_rfl) (by kernel_rfl) (by kernel_rfl) ?_)
      rw [alloc_row]
      have bN := new_below x1 (.cells (lT t D1 n k1).toArray 31)
      have KU_1 := AN.new (t := t) (n := n) (R := (confR t L k)) hz1 T1.ports hO1
      have S_1 := S_1a.below bN
      obtain ⟨U, hG⟩ : ∃ G, x1.heap.size = G := ⟨_, rfl⟩
      rw [hG] at KU_1 ⊢
      obtain ⟨y1, hy⟩ : ∃ y, x1.alloc (.cells (lT t D1 n k1).toArray 31) = y := ⟨_, rfl⟩
      rw [hy] at S_1 KU_1  ⊢
      clear hy hG bN hz1 hO1 T1 S2 S_1a
      clear hx HCF
      have hR := confR_at (t := t) HX.out
      obtain ⟨h, hh⟩ : ∃ h, x.ho = h := ⟨_, rfl⟩
      rw [hh] at hR
      cases h with
      | true =>
        rw [if_pos rfl] at hR
        rw [hR] at KU_1
        obtain ⟨A1, q1, rfl⟩ := KU_1.outs.shape
        have hy1 : (((L.set k (owingP x), []) : List Po × List Ou)).1[k]? = some (owingP x) := List.getElem?_set_self (by have := HL.out; simpa using (by omega : k < L.length))
        obtain ⟨ad1, rfl⟩ := KU_1.ports.some hy1
        have d18 := KU_1.cell (i := 18) rfl
        obtain ⟨_, e0, -, -, p0⟩ := (HP.out.below S_1.old (Nat.le_refl _)).cells HX.out
        cases e0
        have p13 := p0 12 _ rfl
        rw [hh] at p13
        clear p0
        have c18 := S_1.cell 0 18 rfl rfl
        have d8 := KU_1.port hy1 7 rfl
        have BO := S_1.old
        clear KU_1 S_1 hR hh hy1
        go_wp2
        go_ret
        exact ⟨rfl, BO⟩
      | false =>
        rw [if_neg (by decide)] at hR
        by_cases hage : t.n1 ≤ toldI t L
        · rw [if_pos hage] at hR
          rw [hR] at KU_1
          obtain ⟨A1, q1, rfl⟩ := KU_1.outs.shape
          have hy1 : (((L, []) : List Po × List Ou)).1[k]? = some (x) := HX.out
          obtain ⟨ad1, rfl⟩ := KU_1.ports.some hy1
          have d18 := KU_1.cell (i := 18) rfl
          obtain ⟨_, e0, -, -, p0⟩ := (HP.out.below S_1.old (Nat.le_refl _)).cells HX.out
          cases e0
          have p13 := p0 12 _ rfl
          rw [hh] at p13
          clear p0
          have c18 := S_1.cell 0 18 rfl rfl
          have BO := S_1.old
          clear KU_1 S_1 hR hh hy1 hage
          go_wp2
          go_ret
          exact ⟨rfl, BO⟩
        · rw [if_neg hage] at hR
          rw [hR] at KU_1
          obtain ⟨A1, q1, rfl⟩ := KU_1.outs.shape
          have hy1 : (((L.set k (sentP x), [⟨k, t.ow % 281474976710656, confQ t (toldI t L) x⟩]) : List Po × List Ou)).1[k]? = some (sentP x) := List.getElem?_set_self (by have := HL.out; simpa using (by omega : k < L.length))
          obtain ⟨ad1, rfl⟩ := KU_1.ports.some hy1
          have d18 := KU_1.cell (i := 18) rfl
          obtain ⟨_, e0, -, -, p0⟩ := (HP.out.below S_1.old (Nat.le_refl _)).cells HX.out
          cases e0
          have p13 := p0 12 _ rfl
          rw [hh] at p13
          clear p0
          have c18 := S_1.cell 0 18 rfl rfl
          have d13 := KU_1.port hy1 12 rfl
          have d8 := KU_1.port hy1 7 rfl
          have d7 := KU_1.port hy1 6 rfl
          clear hR hh hage
          go_upto_region 9 with fail
          clear p13 d13 d8 d7 c18 d18
          have HL2 := Lib.hid (show (L.set k (sentP x)).length = n by rw [List.length_set]; exact HL.out)
          have HB2 := Lib.hid (show ∀ y ∈ L.set k (sentP x), PoB y from fun y hy => by
            rcases List.mem_or_eq_of_mem_set hy with q | rfl
            · exact HB.out y q
            · exact sent_bd (HB.out x (List.mem_of_getElem? HX.out)))
          have HC2 := Lib.hid (sconf_is t (some ad1) n k1 (L.set k (sentP x)) k (by omega) HL2 hn2 HTB HNB HB2 (Lib.hid (fun e => by cases e)) _ (HD.out.below S_1.old (Nat.le_refl _)) (Lib.hid KU_1.ports))
          have hx := KU_1.bk
          go_wp2_with (with_reducible refine wpList_load_rowG (by kernel_rfl) 31 (.tmp 6) rfl U (by kernel_rfl) _ _ (0, 0) _ hx Tryd.underlying31 rfl (by kernel_rfl) ?_)
          clear hx
          (with_reducible refine (HC2).out.mono ?_); rintro e x2 ⟨D2, k2, v2, rfl, hz2, T2, hO2⟩
          have S_2a := S_1.below T2.old
          have KU_2a := KU_1.below T2.old
          go_upto_region 10 with (refine wpList_store_row rfl 31 _ _ rfl _ _ rfl rfl _ _ (heap_alloc_new _ _) (by kernel_rfl) (by kernel_rfl) (by kernel_rfl) ?_)
          rw [alloc_row]
          have bN := new_below x2 (.cells (lT t D2 n k2).toArray 31)
          have KV_2 := AN.new (t := t) (n := n) (R := (confR t (L.set k (sentP x)) k)) hz2 T2.ports hO2
          have S_2 := S_2a.below bN
          have KU_2 := KU_2a.below bN
          obtain ⟨V, hG⟩ : ∃ G, x2.heap.size = G := ⟨_, rfl⟩
          rw [hG] at KV_2 ⊢
          obtain ⟨y2, hy⟩ : ∃ y, x2.alloc (.cells (lT t D2 n k2).toArray 31) = y := ⟨_, rfl⟩
          rw [hy] at S_2 KV_2 KU_2 ⊢
          clear hy hG bN hz2 hO2 T2 S_1 S_2a KU_1 KU_2a
          have hR := confR_at (t := t) hy1
          rw [if_pos (show (sentP x).ho = true from rfl)] at hR
          rw [hR] at KV_2
          obtain ⟨A2, q2, rfl⟩ := KV_2.outs.shape
          have hy2 : (((L.set k (sentP x)).set k (owingP (sentP x)), []) : List Po × List Ou).1[k]? = some (owingP (sentP x)) := List.getElem?_set_self (by rw [HL2.out]; exact hkn)
          obtain ⟨ad2, rfl⟩ := KV_2.ports.some hy2
          have d18 := KV_2.cell (i := 18) rfl
          have d8 := KV_2.port hy2 7 rfl
          have BO := S_2.old
          clear KV_2 KU_2 S_2 hR HC2 hy2
          go_wp2
          go_ret
          exact ⟨rfl, BO⟩

end Go.Proofs.YtcamakkicmapcaaDoor
