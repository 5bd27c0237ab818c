/- Several texts in one, one behind the other: HeardRefConf. -/
import Derived.Test.YteplefdnnehdgaaGreatDoorPk19
import Derived.Test.YteplefdnnehdgaaGreatDoorPk12
import Derived.Test.YteplefdnnehdgaaGreatDoorPk22
import Derived.Test.YteplefdnnehdgaaGreatDoorPk24
import Derived.Deep.DeepCutAuto

/- The document's Config of stage 15: contract. -/
namespace Go.Proofs.YteplefdnnehdgaaGreatDoor
set_option maxRecDepth 100000
open Go.ChangeShapes Go.WideShapes Go.ChangeAt Go.RowKit
set_option linter.unusedVariables false
set_option linter.unusedSimpArgs false

set_option maxHeartbeats 8000000 in
theorem rcfgh_is (t : Th) (A : Option Addr) (n cap : Nat) (L : List Po) (i : Int) (x : Bq) (hi : -9223372036854775808 ≤ i ∧ i ≤ 9223372036854775807) (hxb : Hid (BqIn x)) (hL : Hid (L.length = n)) (hf : n ≤ 200) (hU : Hid (Unlike L)) (ht : Hid (ThB t)) (hn : Hid (-9223372036854775808 ≤ t.n1 ∧ t.n1 ≤ 9223372036854775807 ∧ -9223372036854775808 ≤ t.n2 ∧ t.n2 ≤ 9223372036854775807 ∧ -9223372036854775808 ≤ t.n3 ∧ t.n3 ≤ 9223372036854775807)) (hb : Hid (∀ x ∈ L, PoB x)) (hc : Hid (A = none → cap = 0)) (w : World) (hp : Hid (PoAt w A w.heap.size L)) :
    Calls Tryz.prog 20 #[.agg (lT t A n cap).toArray, .int .i64 i, .agg (lB x).toArray] w (AllEnd2 w (heardR t L i x).1.1 A n L ((heardR t L i x).1.2, (heardR t L i x).2)) := by
  obtain ⟨S0, hS0⟩ : ∃ S0, heardR t L i x = S0 := ⟨_, rfl⟩
  rw [hS0]
  have HS0 := Lib.hid hS0
  clear hS0
  obtain ⟨q, hq⟩ : ∃ q, (if 0 ≤ i then (match L[i.toNat]? with | none => false | some p => !decide (p.st = 0)) else false) = q := ⟨_, rfl⟩
  have HON := fun W (h : Below w.heap.size w W) => Lib.hid (ron_is t A n cap L hL i q (Lib.hid hq) W (Lib.hid ((hp.out.below h (Nat.le_refl _)).wide h.size)))
  have HQ := Lib.hid hq
  clear hq
  obtain ⟨wb, hwb, S⟩ := hs_three w 31 56 31 (lT t A n cap) (lB x) [.int .u64 0, .int .u64 0, .int .u32 0, .int .i64 0, .int .i64 0, .int .i64 0, .int .i64 0, .int .i64 0, .int .i64 0, .int .i64 0, .bool false, .bool false, .bool false, .int .i64 0, .bool false, .int .i64 0, .bool false, .int .i64 0, .slice none 0 0]
  go_enter Tryz.func20, Tryz.ntmps20
  go_upto_region 1 with fail
  clear hwb
  obtain ⟨X, hX⟩ : ∃ X, w.heap.size = X := ⟨_, rfl⟩
  rw [hX] at S
  obtain ⟨B, hB⟩ : ∃ B, X + 1 = B := ⟨_, rfl⟩
  rw [hB] at S
  obtain ⟨Y, hY⟩ : ∃ Y, B + 1 = Y := ⟨_, rfl⟩
  rw [hY] at S
  rw [hX]
  rw [hB]
  rw [hY]
  clear hX hB hY
  have hx := S.bk 2 rfl
  go_wp2_with (with_reducible refine wpList_load_rowG (by kernel_rfl) 31 (.tmp 3) rfl X (by kernel_rfl) _ _ (0, 0) _ hx Tryz.underlying31 rfl (by kernel_rfl) ?_)
  (with_reducible refine (HON _ S.old).out.mono ?_); rintro e w1 ⟨rfl, b1⟩
  have S1 := S.below b1
  clear S hx HON b1
  have hs0 := HS0.out
  unfold heardR at hs0
  have hq := HQ.out
  cases q with
  | false =>
    have hs0 : ((t, L), []) = S0 := by
      rw [← hs0]
      by_cases i0 : 0 ≤ i
      · rw [if_pos i0] at hq ⊢
        cases hl : L[i.toNat]? with
        | none => rfl
        | some p =>
          rw [hl] at hq
          have : p.st = 0 := by simpa using hq
          simp only [if_pos this]
      · rw [if_neg i0]
    clear hq
    subst hs0
    have hx := S1.bk 2 rfl
    have hy := S1.bk 0 rfl
    have S9 := S1.row 0 rfl (lT t A n cap)
    have hyF := S9.bk 0 rfl
    go_wp2_with (first | (with_reducible refine wpList_load_row rfl 31 (.tmp 3) rfl X (by kernel_rfl) _ _ (0, 0) _ hx Tryz.underlying31 rfl (by kernel_rfl) ?_) | (refine wpList_store_row rfl 31 _ _ rfl Y _ rfl rfl _ _ hy (by kernel_rfl) (by kernel_rfl) (by kernel_rfl) ?_))
    exact bodyPost_ret (v := .tuple #[.agg (lT t A n cap).toArray, .slice none 0 0]) (results_two rfl _ _ Y _ _ _ _ rfl _ rfl hyF Tryz.underlying31 rfl (by kernel_rfl)) rfl ⟨A, cap, _, rfl, hc.out, .inl ⟨rfl, rfl⟩, OutsR.nil _ _, S9.old⟩
  | true =>
    have h0 : 0 ≤ i := by
      by_cases i0 : 0 ≤ i
      · exact i0
      · rw [if_neg i0] at hq; cases hq
    obtain ⟨k, rfl⟩ : ∃ k : Nat, i = k := ⟨i.toNat, by omega⟩
    rw [if_pos h0, Int.toNat_natCast] at hq
    clear hs0
    obtain ⟨p, hp0⟩ : ∃ p, L[k]? = some p := by
      cases hl : L[k]? with
      | none => rw [hl] at hq; cases hq
      | some p => exact ⟨p, rfl⟩
    rw [hp0] at hq
    have hst : p.st ≠ 0 := by simpa using hq
    have hs0 := HS0.out
    rw [heardR_at hp0 hst] at hs0
    have hkn : k < n := by have := po_lt hp0; have := hL.out; omega
    have hki : (k : Int) < (n : Int) := by omega
    have hkz : ¬ (n : Int) ≤ (k : Int) := by omega
    have HXK := Lib.hid hp0
    obtain ⟨sb, hsb⟩ : ∃ b, supB (confV x) (heldV p) t.ow = b := ⟨_, rfl⟩
    rw [hsb] at hs0
    have HSU : ∀ W, Hid (Calls Tryz.prog 40 #[.agg #[.int .u64 x.ro, .int .u32 x.co, .int .u64 x.br, .int .u16 x.po], .agg #[.int .u64 p.hr, .int .u32 p.hc, .int .u64 p.hb, .int .u16 p.hp], .int .u64 t.ow] W fun e w' => e = .returned (.bool sb) ∧ Below W.heap.size W w') := fun W => Lib.hid (rsup_is (confV x) (heldV p) t.ow sb (Lib.hid hsb) W)
    have HPL : ∀ W, Hid (Calls Tryz.prog 41 #[.agg #[.int .u64 p.hr, .int .u32 p.hc, .int .u64 p.hb, .int .u16 p.hp]] W fun e w' => e = .returned (.agg #[.int .u64 p.hr, .int .u32 p.hc, .int .u64 p.hb, .int .u16 p.hp]) ∧ Below W.heap.size W w') := fun W => Lib.hid (rplain15_is (heldV p) W)
    have HSS := Lib.hid hs0
    have HST := Lib.hid hst
    clear hq hp0 hs0 h0 hi hsb hst HS0 HQ
    obtain ⟨ad, rfl⟩ := hp.out.some HXK.out
    go_upto_region 3 with fail
    have b3 := S1.cell 1 3 rfl rfl
    have b4 := S1.cell 1 4 rfl rfl
    have b5 := S1.cell 1 5 rfl rfl
    have b6 := S1.cell 1 6 rfl rfl
    go_upto_region 4 with (refine wpList_store_row rfl 89 _ _ rfl _ _ rfl rfl _ _ (heap_alloc_new _ _) (by kernel_rfl) (by kernel_rfl) (by kernel_rfl) ?_)
    rw [alloc_row]
    have S2 := S1.al rfl 89 [.int .u64 x.ro, .int .u32 x.co, .int .u64 x.br, .int .u16 x.po]
    obtain ⟨V8, hV⟩ : ∃ U, w1.heap.size = U := ⟨_, rfl⟩
    rw [hV] at S2 ⊢
    obtain ⟨w2, hw2⟩ : ∃ y, w1.alloc (.cells #[.int .u64 x.ro, .int .u32 x.co, .int .u64 x.br, .int .u16 x.po] 89) = y := ⟨_, rfl⟩
    have S2' : Hs w [(V8, 89, [.int .u64 x.ro, .int .u32 x.co, .int .u64 x.br, .int .u16 x.po]), (Y, 31, [.int .u64 0, .int .u64 0, .int .u32 0, .int .i64 0, .int .i64 0, .int .i64 0, .int .i64 0, .int .i64 0, .int .i64 0, .int .i64 0, .bool false, .bool false, .bool false, .int .i64 0, .bool false, .int .i64 0, .bool false, .int .i64 0, .slice none 0 0]), (B, 56, lB x), (X, 31, lT t (some ad) n cap)] w2 := by rw [← hw2]; exact S2
    rw [hw2]
    clear hw2 hV S1 S2 b3 b4 b5 b6
    have c18 : ∀ q : LaterW w2, q.w'.cell? ⟨X, 18, none⟩ = some (.slice (some ad) n cap) := fun q => (S2'.below q.h).cell 3 18 rfl rfl
    have c0 : ∀ q : LaterW w2, q.w'.cell? ⟨X, 0, none⟩ = some (.int .u64 t.ow) := fun q => (S2'.below q.h).cell 3 0 rfl rfl
    have pv : ∀ v, (∃ q : LaterW w2, v = q.w') → ∀ i u, ([.int .u64 p.hr, .int .u32 p.hc, .int .u64 p.hb, .int .u16 p.hp] : List Value)[i]? = some u → v.cell? ((⟨(ad.add (k * 15)).block, (ad.add (k * 15)).off + 3, none⟩ : Addr).add i) = some u := fun v hv i u hu => by
      obtain ⟨q, rfl⟩ := hv
      have h1 := (hp.out.below (S2'.below q.h).old (Nat.le_refl _)).at HXK.out rfl
      have hi4 : i < 4 := by
        rcases Nat.lt_or_ge i 4 with z | z
        · exact z
        · rw [List.getElem?_eq_none (by simpa using z)] at hu; cases hu
      have h2 := h1 (3 + i) u (by
        match i, hi4 with
        | 0, _ => exact hu
        | 1, _ => exact hu
        | 2, _ => exact hu
        | 3, _ => exact hu)
      rw [← h2]
      by_cases hi0 : i = 0
      · subst hi0; simp [Addr.add]
      · simp [Addr.add, hi0, Nat.add_assoc]
    try simp only [Act.put]
    go_cut [39] (fun u wx => u = .bool (!sb) ∧ Below w2.heap.size w2 wx)
    case first =>
      refine region_later mixedL (by kernel_rfl) ?_
      (refine BigFrame.wpQuiet_want (by kernel_rfl) (fun K hK => ?_); refine quiet_load_row 89 _ rfl V8 (by kernel_rfl) _ _ (0, 0) _ (S2'.bkq 0 rfl) Tryz.underlying89 rfl (by kernel_rfl) ?_; refine hK _ ?_; clear hK; go_simp)
      go_big_quiet_step (fail)
      go_big_quiet_step (fail)
      go_big_quiet_step (fail)
      go_big_quiet_step (fail)
      go_big_quiet_step (fail)
      (refine BigFrame.wpQuiet_want (by kernel_rfl) (fun K hK => ?_); refine quiet_load_at 63 _ rfl ⟨(ad.add (k * 15)).block, (ad.add (k * 15)).off + 3, none⟩ (by kernel_rfl) _ _ pv Tryz.underlying63 rfl (by kernel_rfl) ?_; refine hK _ ?_; clear hK; go_simp)
      go_big_quiet_step ((go_at_call 41; with_reducible exact Calls.later (HPL _).out))
      go_big_quiet_step (fail)
      go_big_quiet_step (fail)
      go_big_quiet_step ((go_at_call 40; with_reducible exact Calls.later (HSU _).out))
      repeat (go_big_quiet_step (fail))
      refine wpQuiet_nil ?_
      intro r
      go_wp2_with fail
      go_meet
      exact ⟨rfl, r.h⟩
    case rest =>
      obtain ⟨rfl, B3⟩ := hcut
      rename World => w3
      have S3 := (S2'.below B3).tail
      clear S2' B3 c18 c0 pv HSU HPL
      have hs0 := HSS.out
      cases sb with
      | false =>
        simp only [Bool.false_eq_true, if_false] at hs0
        obtain ⟨d, hd⟩ : ∃ d, desB p t.ow = d := ⟨_, rfl⟩
        have HDS := Lib.hid (rdes15_is t (some ad) n cap L hL k p HXK d (Lib.hid hd) w3 (Lib.hid ((hp.out.below S3.old (Nat.le_refl _)).wide S3.old.size)))
        rw [hd] at hs0
        have HSS := Lib.hid hs0
        clear hs0 hd
        go_upto_region 5 with fail
        have hx := S3.bk 2 rfl
        go_wp2_with (with_reducible refine wpList_load_rowG (by kernel_rfl) 31 (.tmp 3) rfl X (by kernel_rfl) _ _ (0, 0) _ hx Tryz.underlying31 rfl (by kernel_rfl) ?_)
        (with_reducible refine HDS.out.mono ?_); rintro e w4 ⟨rfl, b4⟩
        have S4 := S3.below b4
        clear S3 HDS hx b4
        have hs0 := HSS.out
        cases d with
        | false =>
          simp only [Bool.false_eq_true, if_false] at hs0
          subst hs0
          have hx := S4.bk 2 rfl
          have hy := S4.bk 0 rfl
          have S9 := S4.row 0 rfl (lT t (some ad) n cap)
          have hyF := S9.bk 0 rfl
          go_wp2_with (first | (with_reducible refine wpList_load_row rfl 31 (.tmp 3) rfl X (by kernel_rfl) _ _ (0, 0) _ hx Tryz.underlying31 rfl (by kernel_rfl) ?_) | (refine wpList_store_row rfl 31 _ _ rfl Y _ rfl rfl _ _ hy (by kernel_rfl) (by kernel_rfl) (by kernel_rfl) ?_))
          exact bodyPost_ret (v := .tuple #[.agg (lT t (some ad) n cap).toArray, .slice none 0 0]) (results_two rfl _ _ Y _ _ _ _ rfl _ rfl hyF Tryz.underlying31 rfl (by kernel_rfl)) rfl ⟨(some ad), cap, _, rfl, hc.out, .inl ⟨rfl, rfl⟩, OutsR.nil _ _, S9.old⟩
        | true =>
          simp only [if_true] at hs0
          subst hs0
          obtain ⟨R, hR⟩ : ∃ R, confR t L k = R := ⟨_, rfl⟩
          have HRR := Lib.hid hR
          have HCF := Lib.hid (rconf_is t (some ad) n cap L k hL hf ht hn hb (by omega) hc w4 (Lib.hid ((hp.out.below S4.old (Nat.le_refl _)).wide S4.old.size)))
          rw [hR] at HCF
          clear hR
          go_upto_region 6 with fail
          have hx := S4.bk 2 rfl
          go_wp2_with (with_reducible refine wpList_load_row rfl 31 (.tmp 3) rfl X (by kernel_rfl) _ _ (0, 0) _ hx Tryz.underlying31 rfl (by kernel_rfl) ?_)
          (with_reducible refine HCF.out.mono ?_); rintro e w5 ⟨D2, c2, v2, rfl, hz2, k2, hO2⟩
          have S5 := S4.below k2.old
          have hyw : Y < w4.heap.size := S4.lt 0 rfl
          have hwb4 : w.heap.size ≤ w4.heap.size := S4.old.size
          have RT5 := k2.rowT
          have HZ2 := Lib.hid hz2
          clear hx HCF S4 k2 hz2
          have hy := S5.bk 0 rfl
          have S6 := S5.row 0 rfl (lT t D2 n c2)
          have hyF := S6.bk 0 rfl
          have RT6 := RT5.row (cs := lT t D2 n c2) (S5.1 0 _ _ _ rfl).1
          have hO6 := (hO2.heap (w' := w5.setRow Y (lT t D2 n c2).toArray) (fun b hb => setRow_other w5 Y b _ (by omega))).mono hwb4
          go_wp2_with (refine wpList_store_row rfl 31 _ _ rfl Y _ rfl rfl _ _ hy (by kernel_rfl) (by kernel_rfl) (by kernel_rfl) ?_)
          exact bodyPost_ret (v := .tuple #[.agg (lT t D2 n c2).toArray, v2]) (results_two rfl _ _ Y _ _ _ _ rfl _ rfl hyF Tryz.underlying31 rfl (by kernel_rfl)) rfl ⟨D2, c2, _, rfl, HZ2.out, .inr (by rw [HRR.out]; exact RT6), by rw [HRR.out]; exact hO6, S6.old⟩
      | true =>
        simp only [if_true] at hs0
        have HTK := Lib.hid hs0
        clear hs0 HSS
        have hxB := hxb.out
        unfold BqIn BpIn at hxB
        have hwa : IntKind.i64.wrap x.ag = x.ag := by simp [IntKind.wrap, IntKind.bits, IntKind.signed]; omega
        have HWA := Lib.hid hwa
        clear hwa hxB
        go_upto_region 8 with fail
        have t0 := S3.cell 2 0 rfl rfl
        have t1 := S3.cell 2 1 rfl rfl
        obtain ⟨rb, hrb⟩ : ∃ b, (t.ro == t.ow) = b := ⟨_, rfl⟩
        have HRB := Lib.hid hrb
        go_upto_region 9 with fail
        clear t0 t1 hrb
        have SA := S3.al rfl 65 []
        have c18 := SA.cell 3 18 rfl rfl
        have hp1 := Lib.hid ((hp.out.below S3.old (Nat.le_refl _)).below ((Below.refl w3.heap.size w3).alloc (Nat.le_refl _) (.cells #[] 65)) S3.old.size)
        go_upto_region 10 with (at_builtin; refine append_po _ rfl (.tmp 54) (.tmp 56) rfl (.slice (some ⟨w3.heap.size, 0, none⟩) 0 0) rfl w3.heap.size ⟨rfl, .inr ⟨w3.heap.size, 0, #[], rfl, Nat.le_refl _, (MapKept.heap_alloc w3 _).1, Nat.le_refl _, Nat.zero_le _, rfl, rfl⟩⟩ (some ad) n cap L rfl w.heap.size hp1.out hL hc hf (by simp) w3 ((Below.refl _ _).alloc (Nat.le_refl _) _) ?_; intro D cap' w5 hown hb5 hz; have S5 := TS.take S3 (own_ts hb5 (Nat.le_refl _) hown); clear hown hb5 hz S3 SA c18 hp1; have c18 := S5.hs.cell 2 18 rfl rfl; have f18 := S5.hs.thaw 2 18 rfl)
        have S6 : TS w [(Y, 31, [.int .u64 0, .int .u64 0, .int .u32 0, .int .i64 0, .int .i64 0, .int .i64 0, .int .i64 0, .int .i64 0, .int .i64 0, .int .i64 0, .bool false, .bool false, .bool false, .int .i64 0, .bool false, .int .i64 0, .bool false, .int .i64 0, .slice none 0 0]), (B, 56, lB x), (X, 31, lT t D n cap')] D L _ := S5.set 2 rfl 18 (.slice D n cap')
        generalize w5.setCell ⟨X, 18, none⟩ (.slice D n cap') = w6 at S6 ⊢
        clear S5 c18 f18
        obtain ⟨g, rfl, -⟩ := S6.at HXK.out
        have c18 := S6.hs.cell 2 18 rfl rfl
        have b3 := S6.hs.cell 1 3 rfl rfl
        have b4 := S6.hs.cell 1 4 rfl rfl
        have b5 := S6.hs.cell 1 5 rfl rfl
        have b6 := S6.hs.cell 1 6 rfl rfl
        have p3 := S6.port_cell HXK.out 3 rfl
        have p4 := S6.port_cell HXK.out 4 rfl
        have p5 := S6.port_cell HXK.out 5 rfl
        have p6 := S6.port_cell HXK.out 6 rfl
        obtain ⟨_, e', _, _, hfz⟩ := S6.at HXK.out
        cases e'
        have f3 := hfz (k * 15 + 3)
        have f4 := hfz (k * 15 + 4)
        have f5 := hfz (k * 15 + 5)
        have f6 := hfz (k * 15 + 6)
        clear hfz
        go_upto_region 11 with fail
        have S7 : TS w [(Y, 31, [.int .u64 0, .int .u64 0, .int .u32 0, .int .i64 0, .int .i64 0, .int .i64 0, .int .i64 0, .int .i64 0, .int .i64 0, .int .i64 0, .bool false, .bool false, .bool false, .int .i64 0, .bool false, .int .i64 0, .bool false, .int .i64 0, .slice none 0 0]), (B, 56, lB x), (X, 31, lT t (some ⟨g, 0, none⟩) n cap')] (some ⟨g, 0, none⟩) (L.set k ({ p with hr := x.ro, hc := x.co, hb := x.br, hp := x.po } : Po)) ((((w6.setCell ⟨g, k * 15 + 3, none⟩ (.int .u64 x.ro)).setCell ⟨g, k * 15 + 4, none⟩ (.int .u32 x.co)).setCell ⟨g, k * 15 + 5, none⟩ (.int .u64 x.br)).setCell ⟨g, k * 15 + 6, none⟩ (.int .u16 x.po)) := S6.put (y := ({ p with hr := x.ro, hc := x.co, hb := x.br, hp := x.po } : Po)) HXK.out 3 [.int .u64 x.ro, .int .u32 x.co, .int .u64 x.br, .int .u16 x.po] (by simp) rfl
        generalize (((w6.setCell ⟨g, k * 15 + 3, none⟩ (.int .u64 x.ro)).setCell ⟨g, k * 15 + 4, none⟩ (.int .u32 x.co)).setCell ⟨g, k * 15 + 5, none⟩ (.int .u64 x.br)).setCell ⟨g, k * 15 + 6, none⟩ (.int .u16 x.po) = w7 at S7 ⊢
        clear S6 c18 b3 b4 b5 b6 p3 p4 p5 p6 f3 f4 f5 f6
        have HK7 := Lib.hid (show (L.set k ({ p with hr := x.ro, hc := x.co, hb := x.br, hp := x.po } : Po))[k]? = some ({ p with hr := x.ro, hc := x.co, hb := x.br, hp := x.po } : Po) from List.getElem?_set_self (po_lt HXK.out))
        have c18 := S7.hs.cell 2 18 rfl rfl
        have b7 := S7.hs.cell 1 7 rfl rfl
        have p9 := S7.port_cell HK7.out 9 rfl
        have p10 := S7.port_cell HK7.out 10 rfl
        obtain ⟨_, e', _, _, hfz⟩ := S7.at HK7.out
        cases e'
        have f9 := hfz (k * 15 + 9)
        have f10 := hfz (k * 15 + 10)
        clear hfz
        have hwa := HWA.out
        go_upto_region 12 with fail
        clear hwa
        have S8 := S7.put (y := heldP p x) HK7.out 9 [.bool true, .int .i64 x.ag] (by simp) rfl
        rw [List.set_set] at S8
        have S8' : TS w [(Y, 31, [.int .u64 0, .int .u64 0, .int .u32 0, .int .i64 0, .int .i64 0, .int .i64 0, .int .i64 0, .int .i64 0, .int .i64 0, .int .i64 0, .bool false, .bool false, .bool false, .int .i64 0, .bool false, .int .i64 0, .bool false, .int .i64 0, .slice none 0 0]), (B, 56, lB x), (X, 31, lT t (some ⟨g, 0, none⟩) n cap')] (some ⟨g, 0, none⟩) (L.set k (heldP p x)) ((w7.setCell ⟨g, k * 15 + 9, none⟩ (.bool true)).setCell ⟨g, k * 15 + 10, none⟩ (.int .i64 x.ag)) := S8
        generalize (w7.setCell ⟨g, k * 15 + 9, none⟩ (.bool true)).setCell ⟨g, k * 15 + 10, none⟩ (.int .i64 x.ag) = w8 at S8' ⊢
        clear S7 S8 c18 b7 p9 p10 f9 f10
        have HU8 := Lib.hid (unlike_set (y := heldP p x) hU.out HXK.out rfl)
        have HB8 := Lib.hid (show ∀ z ∈ L.set k (heldP p x), PoB z from fun z hz => by
          rcases List.mem_or_eq_of_mem_set hz with q | rfl
          · exact hb.out z q
          · exact held_bd (hb.out p (List.mem_of_getElem? HXK.out)) hxb.out)
        have HST := Lib.hid (rsettle_is t (some ⟨g, 0, none⟩) n cap' (L.set k (heldP p x)) (Lib.hid (by rw [List.length_set]; exact hL.out)) hf HU8 ht HB8 (Lib.hid (fun e => by cases e)) w8 (Lib.hid S8'.ports))
        obtain ⟨sr, hsr⟩ : ∃ s, settleR t (L.set k (heldP p x)) = s := ⟨_, rfl⟩
        rw [hsr] at HST
        have HSR := Lib.hid hsr
        have htu : ThB sr.1.1 := by rw [← hsr]; exact settle_bd (by rw [List.length_set, hL.out]; exact hf) ht.out HB8.out
        have HTU := Lib.hid htu
        clear hsr htu
        have hx := S8'.hs.bk 2 rfl
        go_wp2_with (with_reducible refine wpList_load_row rfl 31 (.tmp 3) rfl X (by kernel_rfl) _ _ (0, 0) _ hx Tryz.underlying31 rfl (by kernel_rfl) ?_)
        (with_reducible refine HST.out.mono ?_); rintro e w9 ⟨D2, c2, v, rfl, hz2, k2, hO⟩
        have S9 := S8'.hs.below k2.old
        have RT9 := k2.rowT
        have HZ2 := Lib.hid hz2
        have hO9 := hO.mono S8'.hs.old.size
        clear hx HST S8' k2 hz2 hO
        go_upto_region 13 with (refine wpList_store_row rfl 31 _ _ rfl _ _ rfl rfl _ _ (heap_alloc_new _ _) (by kernel_rfl) (by kernel_rfl) (by kernel_rfl) ?_)
        rw [alloc_row]
        have bN := new_below w9 (.cells (lT sr.1.1 D2 n c2).toArray 31)
        have S10 := S9.al rfl 31 (lT sr.1.1 D2 n c2)
        have hO10 := hO9.below bN
        have RT10 := RT9.below bN
        obtain ⟨U, hUU⟩ : ∃ U, w9.heap.size = U := ⟨_, rfl⟩
        rw [hUU] at S10 ⊢
        obtain ⟨w10, hw10⟩ : ∃ y, w9.alloc (.cells (lT sr.1.1 D2 n c2).toArray 31) = y := ⟨_, rfl⟩
        rw [hw10] at S10 hO10 RT10 ⊢
        clear hw10 hUU bN S9 hO9 RT9
        obtain ⟨u, hu⟩ : ∃ u, sr.1.1 = u := ⟨_, rfl⟩
        rw [hu] at S10 HTU ⊢
        have HUE := Lib.hid hu
        clear hu
        have u0 := S10.cell 0 0 rfl rfl
        have u1 := S10.cell 0 1 rfl rfl
        obtain ⟨lb, hlb⟩ : ∃ b, (rb && (u.ro != u.ow)) = b := ⟨_, rfl⟩
        have HLB := Lib.hid hlb
        clear hlb
        go_cut [94] (fun q wx => q = .bool lb ∧ wx = w10)
        case first =>
          have hlb := HLB.out
          cases rb with
          | false =>
            obtain rfl : false = lb := hlb
            go_wp2_with fail
            go_meet
            exact ⟨rfl, rfl⟩
          | true =>
            obtain ⟨ub, hub⟩ : ∃ b, (u.ro != u.ow) = b := ⟨_, rfl⟩
            rw [hub] at hlb
            obtain rfl : ub = lb := hlb
            cases ub with
            | false =>
              go_wp2_with fail
              go_meet
              exact ⟨rfl, rfl⟩
            | true =>
              go_wp2_with fail
              go_meet
              exact ⟨rfl, rfl⟩
        case rest =>
          obtain ⟨rfl, rfl⟩ := hcut
          rename World => w11
          clear u0 u1
          go_upto_if 94 with fail
          go_cut [11] (fun q wx => Hs w [(U, 31, lT (lateT rb u) D2 n c2), (Y, 31, [.int .u64 0, .int .u64 0, .int .u32 0, .int .i64 0, .int .i64 0, .int .i64 0, .int .i64 0, .int .i64 0, .int .i64 0, .int .i64 0, .bool false, .bool false, .bool false, .int .i64 0, .bool false, .int .i64 0, .bool false, .int .i64 0, .slice none 0 0]), (B, 56, lB x), (X, 31, lT t (some ⟨g, 0, none⟩) n cap')] wx ∧ RowT wx D2 sr.1.2 ∧ OutsR wx w.heap.size q (sr.2 ++ lateO rb u n))
          case first =>
            have hlb := HLB.out
            cases lb with
            | false =>
              obtain ⟨q1, q2⟩ := late_no hlb
              clear hlb
              go_wp2_with fail
              go_meet
              rw [q1, q2 n, List.append_nil]
              exact ⟨S10, RT10, hO10⟩
            | true =>
              obtain ⟨q1, q2⟩ := late_yes hlb
              have Q1 := Lib.hid q1
              have Q2 := Lib.hid (q2 n)
              clear q1 q2 hlb
              have c12 := S10.cell 0 12 rfl rfl
              have f12 := S10.thaw 0 12 rfl
              have c13 := S10.cell 0 13 rfl rfl
              have f13 := S10.thaw 0 13 rfl
              go_upto_region 15 with fail
              have S11 : Hs w [(U, 31, lT ({ u with ho := false, hv := 0 } : Th) D2 n c2), (Y, 31, [.int .u64 0, .int .u64 0, .int .u32 0, .int .i64 0, .int .i64 0, .int .i64 0, .int .i64 0, .int .i64 0, .int .i64 0, .int .i64 0, .bool false, .bool false, .bool false, .int .i64 0, .bool false, .int .i64 0, .bool false, .int .i64 0, .slice none 0 0]), (B, 56, lB x), (X, 31, lT t (some ⟨g, 0, none⟩) n cap')] ((w11.setCell ⟨U, 12, none⟩ (.bool false)).setCell ⟨U, 13, none⟩ (.int .i64 0)) := ((S10).set 0 rfl 12 (.bool false)).set 0 rfl 13 (.int .i64 0)
              have hO11 := hO10.but (w' := (w11.setCell ⟨U, 12, none⟩ (.bool false)).setCell ⟨U, 13, none⟩ (.int .i64 0)) (S10.1 0 _ _ _ rfl).1 (by decide) (by decide) (fun b hb => (Below.heap_setCell _ ⟨U, 13, none⟩ _ b hb).trans (Below.heap_setCell _ ⟨U, 12, none⟩ _ b hb))
              have RT11 := RT10.but (w' := (w11.setCell ⟨U, 12, none⟩ (.bool false)).setCell ⟨U, 13, none⟩ (.int .i64 0)) (S10.1 0 _ _ _ rfl).1 (by decide) (fun b hb => (Below.heap_setCell _ ⟨U, 13, none⟩ _ b hb).trans (Below.heap_setCell _ ⟨U, 12, none⟩ _ b hb))
              generalize (w11.setCell ⟨U, 12, none⟩ (.bool false)).setCell ⟨U, 13, none⟩ (.int .i64 0) = w12 at S11 hO11 RT11 ⊢
              clear S10 hO10 RT10 c12 f12 c13 f13
              have c10 := S11.cell 0 10 rfl rfl
              obtain ⟨de, hde⟩ : ∃ d, u.de = d := ⟨_, rfl⟩
              rw [hde] at c10
              have HDE := Lib.hid hde
              clear hde
              cases de with
              | false =>
                go_wp2_with fail
                go_meet
                rw [Q1.out, Q2.out, if_neg (by rw [HDE.out]; decide), if_neg (by rw [HDE.out]; decide), List.append_nil]
                exact ⟨S11, RT11, hO11⟩
              | true =>
                go_upto_region 16 with fail
                clear c10
                have c16 := S11.cell 0 16 rfl rfl
                have f16 := S11.thaw 0 16 rfl
                have c17 := S11.cell 0 17 rfl rfl
                have f17 := S11.thaw 0 17 rfl
                go_upto_region 17 with fail
                have S12 : Hs w [(U, 31, lT ({ u with ho := false, hv := 0, zo := false, zv := 0 } : Th) D2 n c2), (Y, 31, [.int .u64 0, .int .u64 0, .int .u32 0, .int .i64 0, .int .i64 0, .int .i64 0, .int .i64 0, .int .i64 0, .int .i64 0, .int .i64 0, .bool false, .bool false, .bool false, .int .i64 0, .bool false, .int .i64 0, .bool false, .int .i64 0, .slice none 0 0]), (B, 56, lB x), (X, 31, lT t (some ⟨g, 0, none⟩) n cap')] ((w12.setCell ⟨U, 16, none⟩ (.bool false)).setCell ⟨U, 17, none⟩ (.int .i64 0)) := ((S11).set 0 rfl 16 (.bool false)).set 0 rfl 17 (.int .i64 0)
                have hO12 := hO11.but (w' := (w12.setCell ⟨U, 16, none⟩ (.bool false)).setCell ⟨U, 17, none⟩ (.int .i64 0)) (S11.1 0 _ _ _ rfl).1 (by decide) (by decide) (fun b hb => (Below.heap_setCell _ ⟨U, 17, none⟩ _ b hb).trans (Below.heap_setCell _ ⟨U, 16, none⟩ _ b hb))
                have RT12 := RT11.but (w' := (w12.setCell ⟨U, 16, none⟩ (.bool false)).setCell ⟨U, 17, none⟩ (.int .i64 0)) (S11.1 0 _ _ _ rfl).1 (by decide) (fun b hb => (Below.heap_setCell _ ⟨U, 17, none⟩ _ b hb).trans (Below.heap_setCell _ ⟨U, 16, none⟩ _ b hb))
                generalize (w12.setCell ⟨U, 16, none⟩ (.bool false)).setCell ⟨U, 17, none⟩ (.int .i64 0) = w13 at S12 hO12 RT12 ⊢
                clear S11 hO11 RT11 c16 f16 c17 f17
                have c14 := S12.cell 0 14 rfl rfl
                have f14 := S12.thaw 0 14 rfl
                have c15 := S12.cell 0 15 rfl rfl
                have f15 := S12.thaw 0 15 rfl
                go_upto_region 18 with fail
                have S13 : Hs w [(U, 31, lT ({ u with ho := false, hv := 0, zo := false, zv := 0, xo := true, xv := 0 } : Th) D2 n c2), (Y, 31, [.int .u64 0, .int .u64 0, .int .u32 0, .int .i64 0, .int .i64 0, .int .i64 0, .int .i64 0, .int .i64 0, .int .i64 0, .int .i64 0, .bool false, .bool false, .bool false, .int .i64 0, .bool false, .int .i64 0, .bool false, .int .i64 0, .slice none 0 0]), (B, 56, lB x), (X, 31, lT t (some ⟨g, 0, none⟩) n cap')] ((w13.setCell ⟨U, 14, none⟩ (.bool true)).setCell ⟨U, 15, none⟩ (.int .i64 0)) := ((S12).set 0 rfl 14 (.bool true)).set 0 rfl 15 (.int .i64 0)
                have hO13 := hO12.but (w' := (w13.setCell ⟨U, 14, none⟩ (.bool true)).setCell ⟨U, 15, none⟩ (.int .i64 0)) (S12.1 0 _ _ _ rfl).1 (by decide) (by decide) (fun b hb => (Below.heap_setCell _ ⟨U, 15, none⟩ _ b hb).trans (Below.heap_setCell _ ⟨U, 14, none⟩ _ b hb))
                have RT13 := RT12.but (w' := (w13.setCell ⟨U, 14, none⟩ (.bool true)).setCell ⟨U, 15, none⟩ (.int .i64 0)) (S12.1 0 _ _ _ rfl).1 (by decide) (fun b hb => (Below.heap_setCell _ ⟨U, 15, none⟩ _ b hb).trans (Below.heap_setCell _ ⟨U, 14, none⟩ _ b hb))
                generalize (w13.setCell ⟨U, 14, none⟩ (.bool true)).setCell ⟨U, 15, none⟩ (.int .i64 0) = w14 at S13 hO13 RT13 ⊢
                clear S12 hO12 RT12 c14 f14 c15 f15
                have HTC := Lib.hid (rtcn_is ({ u with ho := false, hv := 0, zo := false, zv := 0, xo := true, xv := 0 } : Th) D2 n c2 (Lib.hid (show ThB ({ u with ho := false, hv := 0, zo := false, zv := 0, xo := true, xv := 0 } : Th) from HTU.out)) w14)
                have hx := S13.bk 0 rfl
                go_wp2_with (with_reducible refine wpList_load_row rfl 31 (.tmp 10) rfl U (by kernel_rfl) _ _ (0, 0) _ hx Tryz.underlying31 rfl (by kernel_rfl) ?_)
                (with_reducible refine HTC.out.mono ?_); rintro e w15 ⟨v3, rfl, hO3, b15⟩
                have S14 := S13.below b15
                have hO14 := hO13.below b15
                have RT14 := RT13.below b15
                have hw14 : w.heap.size ≤ w14.heap.size := S13.old.size
                clear S13 hO13 RT13 hx HTC b15
                obtain ⟨_, _, hown⟩ := hO14.own
                have hlen : sr.2.length + (tcnR ({ u with ho := false, hv := 0, zo := false, zv := 0, xo := true, xv := 0 } : Th) n).length ≤ 100000 := by
                  have h1 : sr.2.length ≤ 1 := by
                    rw [← HSR.out]
                    unfold settleR
                    split
                    · unfold detO tcnR
                      dsimp only
                      split
                      · simp
                      · split
                        · simp
                        · split <;> simp
                    · simp
                  have h2 : (tcnR ({ u with ho := false, hv := 0, zo := false, zv := 0, xo := true, xv := 0 } : Th) n).length ≤ 1 := by
                    unfold tcnR
                    split <;> simp
                  omega
                have hb15 : w.heap.size ≤ w15.heap.size := S14.old.size
                go_wp2_with (at_builtin; refine append_outs _ rfl (.tmp 103) (.tmp 105) rfl w.heap.size w14.heap.size v v3 sr.2 (tcnR ({ u with ho := false, hv := 0, zo := false, zv := 0, xo := true, xv := 0 } : Th) n) rfl rfl hO14 hO3 hw14 hlen hb15 w15 (Below.refl _ _) ?_; intro v4 w16 hO16 hb16 gr16; have kU := ((S14.1 0 _ _ _ rfl).1).grown hown (by decide) gr16; have S16 := S14.grownT hown gr16 (by intro y hy; simp only [List.mem_cons, List.not_mem_nil, or_false] at hy; rcases hy with rfl | rfl | rfl | rfl <;> (dsimp only; decide)); have RT16 : RowT w16 D2 sr.1.2 := RT14.imp id (fun ⟨g, r, e, k⟩ => ⟨g, r, e, k.grown hown (by decide) gr16⟩))
                go_meet
                rw [Q1.out, Q2.out, if_pos HDE.out, if_pos HDE.out]
                exact ⟨S16, RT16, hO16⟩
          case rest =>
            obtain ⟨S20, RT20, hO20⟩ := hcut
            rename World => w20
            clear S10 RT10 hO10
            have HTV := Lib.hid (show ThB (lateT rb u) from late_bd HTU.out)
            have HLF := Lib.hid (late_few rb u n)
            have HFW := Lib.hid (show sr.2.length ≤ 1 by rw [← HSR.out]; exact settle_few _ _)
            have HM := Lib.hid (show sr.1.2.length = n by rw [← HSR.out]; exact settle_n (set_len hL.out))
            have HMB := Lib.hid (show ∀ z ∈ sr.1.2, PoB z by rw [← HSR.out]; exact settle_pb HB8.out (sel_bd (by rw [set_len hL.out]; exact hf) ht.out HB8.out))
            obtain ⟨U2, hU2⟩ : ∃ q, lateT rb u = q := ⟨_, rfl⟩
            obtain ⟨lo, hlo⟩ : ∃ q, lateO rb u n = q := ⟨_, rfl⟩
            rw [hU2] at S20 HTV
            rw [hlo] at hO20 HLF
            have hs0 := HTK.out
            unfold tookR at hs0
            dsimp only at hs0
            rw [HSR.out, show decide (t.ro = t.ow) = rb from HRB.out, hL.out, HUE.out, hU2, hlo] at hs0
            clear hU2 hlo
            have c3 := S20.cell 0 3 rfl rfl
            obtain ⟨q9, hq9⟩ : ∃ b, (U2.rp == (k : Int)) = b := ⟨_, rfl⟩
            cases q9 with
            | false =>
              rw [if_neg (fun e => by rw [e] at hq9; simp at hq9)] at hs0
              subst hs0
              go_upto_region 28 with fail
              clear c3 hq9
              have hx := S20.bk 0 rfl
              have hy := S20.bk 1 rfl
              have SF := S20.row 1 rfl (lT U2 D2 n c2)
              have hyF := SF.bk 1 rfl
              have hOF := hO20.store S20 1 rfl (lT U2 D2 n c2).toArray
              have RTF := RT20.row (cs := lT U2 D2 n c2) (S20.1 1 _ _ _ rfl).1
              go_wp2_with (first | (with_reducible refine wpList_load_row rfl 31 (.tmp 10) rfl U (by kernel_rfl) _ _ (0, 0) _ hx Tryz.underlying31 rfl (by kernel_rfl) ?_) | ((with_reducible refine wpList_store_row rfl 31 (.tmp 6) (.tmp 143) rfl Y (lT U2 D2 n c2).toArray (by kernel_rfl) (by kernel_rfl) _ _ hy (by kernel_rfl) (by kernel_rfl) (by kernel_rfl) ?_); (repeat go_step); exact bodyPost_ret (v := .tuple #[.agg (lT U2 D2 n c2).toArray, u11]) (results_two rfl _ _ Y _ _ _ _ rfl _ rfl hyF Tryz.underlying31 rfl (by kernel_rfl)) rfl ⟨D2, c2, _, rfl, HZ2.out, .inr RTF, (by first | exact hOF | (rw [List.append_assoc] at hOF; exact hOF)), SF.old⟩))
            | true =>
              rw [if_pos (by simpa using hq9 : U2.rp = (k : Int))] at hs0
              have HS9 := Lib.hid hs0
              clear hs0
              have hxB := hxb.out
              unfold BqIn BpIn at hxB
              have hw_ma : IntKind.i64.wrap x.ma = x.ma := by simp [IntKind.wrap, IntKind.bits, IntKind.signed]; omega
              have hw_he : IntKind.i64.wrap x.he = x.he := by simp [IntKind.wrap, IntKind.bits, IntKind.signed]; omega
              have hw_de : IntKind.i64.wrap x.de = x.de := by simp [IntKind.wrap, IntKind.bits, IntKind.signed]; omega
              have HNT := Lib.hid (show (-9223372036854775808 ≤ (toldT U2 x).n1 ∧ (toldT U2 x).n1 ≤ 9223372036854775807 ∧ -9223372036854775808 ≤ (toldT U2 x).n2 ∧ (toldT U2 x).n2 ≤ 9223372036854775807 ∧ -9223372036854775808 ≤ (toldT U2 x).n3 ∧ (toldT U2 x).n3 ≤ 9223372036854775807) from by unfold toldT; dsimp only; omega)
              have HTB := Lib.hid (show ThB (toldT U2 x) from HTV.out)
              clear hxB
              go_upto_region 20 with fail
              clear c3 hq9
              try simp only [Act.put]
              go_cut [] (fun wx => Hs w [(U, 31, lT ({ U2 with n1 := x.ma, n2 := x.he, n3 := x.de } : Th) D2 n c2), (Y, 31, [.int .u64 0, .int .u64 0, .int .u32 0, .int .i64 0, .int .i64 0, .int .i64 0, .int .i64 0, .int .i64 0, .int .i64 0, .int .i64 0, .bool false, .bool false, .bool false, .int .i64 0, .bool false, .int .i64 0, .bool false, .int .i64 0, .slice none 0 0]), (B, 56, lB x), (X, 31, lT t (some ⟨g, 0, none⟩) n cap')] wx ∧ RowT wx D2 sr.1.2 ∧ OutsR wx w.heap.size u11 (sr.2 ++ lo))
              case first =>
                refine wp_region_held_drew (S := (fun w' => Bk w' B 56 (lB x))) (by kernel_rfl) ((S20.1 2 _ _ _ rfl).1) (fun hHeld => ?_)
                have SA := S20.below ((Below.refl _ _).drew)
                have RA := RT20.below ((Below.refl _ _).drew)
                have OA := hO20.below ((Below.refl _ _).drew)
                obtain ⟨va, hva⟩ : ∃ y, w20.drew = y := ⟨_, rfl⟩
                rw [hva] at SA RA OA hHeld ⊢
                clear hva S20 RT20 hO20
                refine wpAnyH_take (i := 0) (v := ?_) rfl (by kernel_rfl) (by kernel_rfl) (by kernel_rfl) (fun _ _ _ h => h) (Or.inl ⟨by kernel_rfl, ?_⟩) (by assumption) ?_
                rotate_left
                · intro w' hSw; (try dsimp only at hSw); go_simp; with_reducible rfl
                try simp only [Act.put, List.getElem_toArray, List.getElem_cons_succ, List.getElem_cons_zero, List.setIfInBounds_toArray, List.set_cons_succ, List.set_cons_zero]
                refine wpAnyH_take (i := 1) (v := ?_) rfl (by kernel_rfl) (by kernel_rfl) (by kernel_rfl) (fun _ _ _ h => h) (Or.inl ⟨by kernel_rfl, ?_⟩) (by assumption) ?_
                rotate_left
                · intro w' hSw; (try dsimp only at hSw); have c0 := (show w'.cell? ⟨B, 8, none⟩ = some (.int .u16 x.ma) from hSw.cell 8); go_simp; with_reducible rfl
                try simp only [Act.put, List.getElem_toArray, List.getElem_cons_succ, List.getElem_cons_zero, List.setIfInBounds_toArray, List.set_cons_succ, List.set_cons_zero]
                refine wpAnyH_take (i := 2) (v := ?_) rfl (by kernel_rfl) (by kernel_rfl) (by kernel_rfl) (fun _ _ _ h => h) (Or.inl ⟨by kernel_rfl, ?_⟩) (by assumption) ?_
                rotate_left
                · intro w' hSw; (try dsimp only at hSw); have hw_ := hw_ma; go_simp; with_reducible rfl
                try simp only [Act.put, List.getElem_toArray, List.getElem_cons_succ, List.getElem_cons_zero, List.setIfInBounds_toArray, List.set_cons_succ, List.set_cons_zero]
                refine wpAnyH_take (i := 3) (v := ?_) rfl (by kernel_rfl) (by kernel_rfl) (by kernel_rfl) (fun _ _ _ h => h) (Or.inl ⟨by kernel_rfl, ?_⟩) (by assumption) ?_
                rotate_left
                · intro w' hSw; (try dsimp only at hSw); go_simp; with_reducible rfl
                try simp only [Act.put, List.getElem_toArray, List.getElem_cons_succ, List.getElem_cons_zero, List.setIfInBounds_toArray, List.set_cons_succ, List.set_cons_zero]
                refine wpAnyH_take (i := 4) (v := ?_) rfl (by kernel_rfl) (by kernel_rfl) (by kernel_rfl) (fun _ _ _ h => h) (Or.inl ⟨by kernel_rfl, ?_⟩) (by assumption) ?_
                rotate_left
                · intro w' hSw; (try dsimp only at hSw); have c0 := (show w'.cell? ⟨B, 9, none⟩ = some (.int .u16 x.he) from hSw.cell 9); go_simp; with_reducible rfl
                try simp only [Act.put, List.getElem_toArray, List.getElem_cons_succ, List.getElem_cons_zero, List.setIfInBounds_toArray, List.set_cons_succ, List.set_cons_zero]
                refine wpAnyH_take (i := 5) (v := ?_) rfl (by kernel_rfl) (by kernel_rfl) (by kernel_rfl) (fun _ _ _ h => h) (Or.inl ⟨by kernel_rfl, ?_⟩) (by assumption) ?_
                rotate_left
                · intro w' hSw; (try dsimp only at hSw); have hw_ := hw_he; go_simp; with_reducible rfl
                try simp only [Act.put, List.getElem_toArray, List.getElem_cons_succ, List.getElem_cons_zero, List.setIfInBounds_toArray, List.set_cons_succ, List.set_cons_zero]
                refine wpAnyH_take (i := 6) (v := ?_) rfl (by kernel_rfl) (by kernel_rfl) (by kernel_rfl) (fun _ _ _ h => h) (Or.inl ⟨by kernel_rfl, ?_⟩) (by assumption) ?_
                rotate_left
                · intro w' hSw; (try dsimp only at hSw); go_simp; with_reducible rfl
                try simp only [Act.put, List.getElem_toArray, List.getElem_cons_succ, List.getElem_cons_zero, List.setIfInBounds_toArray, List.set_cons_succ, List.set_cons_zero]
                refine wpAnyH_take (i := 7) (v := ?_) rfl (by kernel_rfl) (by kernel_rfl) (by kernel_rfl) (fun _ _ _ h => h) (Or.inl ⟨by kernel_rfl, ?_⟩) (by assumption) ?_
                rotate_left
                · intro w' hSw; (try dsimp only at hSw); have c0 := (show w'.cell? ⟨B, 10, none⟩ = some (.int .u16 x.de) from hSw.cell 10); go_simp; with_reducible rfl
                try simp only [Act.put, List.getElem_toArray, List.getElem_cons_succ, List.getElem_cons_zero, List.setIfInBounds_toArray, List.set_cons_succ, List.set_cons_zero]
                refine wpAnyH_take (i := 8) (v := ?_) rfl (by kernel_rfl) (by kernel_rfl) (by kernel_rfl) (fun _ _ _ h => h) (Or.inl ⟨by kernel_rfl, ?_⟩) (by assumption) ?_
                rotate_left
                · intro w' hSw; (try dsimp only at hSw); have hw_ := hw_de; go_simp; with_reducible rfl
                try simp only [Act.put, List.getElem_toArray, List.getElem_cons_succ, List.getElem_cons_zero, List.setIfInBounds_toArray, List.set_cons_succ, List.set_cons_zero]
                refine wpAnyH_take (i := 9) (v := ?_) rfl (by kernel_rfl) (by kernel_rfl) (by kernel_rfl) (fun _ _ _ h => h) (Or.inl ⟨by kernel_rfl, ?_⟩) (by assumption) ?_
                rotate_left
                · intro w' hSw; (try dsimp only at hSw); go_simp; with_reducible rfl
                try simp only [Act.put, List.getElem_toArray, List.getElem_cons_succ, List.getElem_cons_zero, List.setIfInBounds_toArray, List.set_cons_succ, List.set_cons_zero]
                refine wpAnyH_take (i := 10) (v := ?_) rfl (by kernel_rfl) (by kernel_rfl) (by kernel_rfl) (fun _ _ _ h => h) (Or.inl ⟨by kernel_rfl, ?_⟩) (by assumption) ?_
                rotate_left
                · intro w' hSw; (try dsimp only at hSw); go_simp; with_reducible rfl
                try simp only [Act.put, List.getElem_toArray, List.getElem_cons_succ, List.getElem_cons_zero, List.setIfInBounds_toArray, List.set_cons_succ, List.set_cons_zero]
                refine wpAnyH_ready (rs := [11]) (by kernel_rfl) (by simp) ?_
                refine AllReadyH.cons rfl (fun K hK => ?_) AllReadyH.nil
                have cc := SA.cell 0 4 rfl rfl
                have ff := SA.thaw 0 4 rfl
                go_simp
                have SQ1 : Hs w [(U, 31, lT ({ U2 with n1 := x.ma } : Th) D2 n c2), (Y, 31, [.int .u64 0, .int .u64 0, .int .u32 0, .int .i64 0, .int .i64 0, .int .i64 0, .int .i64 0, .int .i64 0, .int .i64 0, .int .i64 0, .bool false, .bool false, .bool false, .int .i64 0, .bool false, .int .i64 0, .bool false, .int .i64 0, .slice none 0 0]), (B, 56, lB x), (X, 31, lT t (some ⟨g, 0, none⟩) n cap')] (va.setCell ⟨U, 4, none⟩ (.int .i64 x.ma)) := SA.set 0 rfl 4 (.int .i64 x.ma)
                have RQ1 := RA.but (w' := va.setCell ⟨U, 4, none⟩ (.int .i64 x.ma)) (SA.1 0 _ _ _ rfl).1 (by decide) (fun b hb => Below.heap_setCell _ ⟨U, 4, none⟩ _ b hb)
                have OQ1 := OA.but (w' := va.setCell ⟨U, 4, none⟩ (.int .i64 x.ma)) (SA.1 0 _ _ _ rfl).1 (by decide) (by decide) (fun b hb => Below.heap_setCell _ ⟨U, 4, none⟩ _ b hb)
                clear cc ff
                refine hK.out _ _ ((SQ1.1 2 _ _ _ rfl).1) (fun hHeld => ?_)
                clear hK K
                try simp only [Act.put, List.getElem_toArray, List.getElem_cons_succ, List.getElem_cons_zero, List.setIfInBounds_toArray, List.set_cons_succ, List.set_cons_zero]
                obtain ⟨vq1, hvv⟩ : ∃ y, va.setCell ⟨U, 4, none⟩ (.int .i64 x.ma) = y := ⟨_, rfl⟩
                rw [hvv] at SQ1 RQ1 OQ1 hHeld ⊢
                clear hvv SA RA OA
                refine wpAnyH_take (i := 12) (v := ?_) rfl (by kernel_rfl) (by kernel_rfl) (by kernel_rfl) (fun _ _ _ h => h) (Or.inl ⟨by kernel_rfl, ?_⟩) (by assumption) ?_
                rotate_left
                · intro w' hSw; (try dsimp only at hSw); go_simp; with_reducible rfl
                try simp only [Act.put, List.getElem_toArray, List.getElem_cons_succ, List.getElem_cons_zero, List.setIfInBounds_toArray, List.set_cons_succ, List.set_cons_zero]
                refine wpAnyH_take (i := 13) (v := ?_) rfl (by kernel_rfl) (by kernel_rfl) (by kernel_rfl) (fun _ _ _ h => h) (Or.inl ⟨by kernel_rfl, ?_⟩) (by assumption) ?_
                rotate_left
                · intro w' hSw; (try dsimp only at hSw); go_simp; with_reducible rfl
                try simp only [Act.put, List.getElem_toArray, List.getElem_cons_succ, List.getElem_cons_zero, List.setIfInBounds_toArray, List.set_cons_succ, List.set_cons_zero]
                refine wpAnyH_ready (rs := [14]) (by kernel_rfl) (by simp) ?_
                refine AllReadyH.cons rfl (fun K hK => ?_) AllReadyH.nil
                have cc := SQ1.cell 0 5 rfl rfl
                have ff := SQ1.thaw 0 5 rfl
                go_simp
                have SQ2 : Hs w [(U, 31, lT ({ U2 with n1 := x.ma, n2 := x.he } : Th) D2 n c2), (Y, 31, [.int .u64 0, .int .u64 0, .int .u32 0, .int .i64 0, .int .i64 0, .int .i64 0, .int .i64 0, .int .i64 0, .int .i64 0, .int .i64 0, .bool false, .bool false, .bool false, .int .i64 0, .bool false, .int .i64 0, .bool false, .int .i64 0, .slice none 0 0]), (B, 56, lB x), (X, 31, lT t (some ⟨g, 0, none⟩) n cap')] (vq1.setCell ⟨U, 5, none⟩ (.int .i64 x.he)) := SQ1.set 0 rfl 5 (.int .i64 x.he)
                have RQ2 := RQ1.but (w' := vq1.setCell ⟨U, 5, none⟩ (.int .i64 x.he)) (SQ1.1 0 _ _ _ rfl).1 (by decide) (fun b hb => Below.heap_setCell _ ⟨U, 5, none⟩ _ b hb)
                have OQ2 := OQ1.but (w' := vq1.setCell ⟨U, 5, none⟩ (.int .i64 x.he)) (SQ1.1 0 _ _ _ rfl).1 (by decide) (by decide) (fun b hb => Below.heap_setCell _ ⟨U, 5, none⟩ _ b hb)
                clear cc ff
                refine hK.out _ _ ((SQ2.1 2 _ _ _ rfl).1) (fun hHeld => ?_)
                clear hK K
                try simp only [Act.put, List.getElem_toArray, List.getElem_cons_succ, List.getElem_cons_zero, List.setIfInBounds_toArray, List.set_cons_succ, List.set_cons_zero]
                obtain ⟨vq2, hvv⟩ : ∃ y, vq1.setCell ⟨U, 5, none⟩ (.int .i64 x.he) = y := ⟨_, rfl⟩
                rw [hvv] at SQ2 RQ2 OQ2 hHeld ⊢
                clear hvv SQ1 RQ1 OQ1
                refine wpAnyH_take (i := 15) (v := ?_) rfl (by kernel_rfl) (by kernel_rfl) (by kernel_rfl) (fun _ _ _ h => h) (Or.inl ⟨by kernel_rfl, ?_⟩) (by assumption) ?_
                rotate_left
                · intro w' hSw; (try dsimp only at hSw); go_simp; with_reducible rfl
                try simp only [Act.put, List.getElem_toArray, List.getElem_cons_succ, List.getElem_cons_zero, List.setIfInBounds_toArray, List.set_cons_succ, List.set_cons_zero]
                refine wpAnyH_take (i := 16) (v := ?_) rfl (by kernel_rfl) (by kernel_rfl) (by kernel_rfl) (fun _ _ _ h => h) (Or.inl ⟨by kernel_rfl, ?_⟩) (by assumption) ?_
                rotate_left
                · intro w' hSw; (try dsimp only at hSw); go_simp; with_reducible rfl
                try simp only [Act.put, List.getElem_toArray, List.getElem_cons_succ, List.getElem_cons_zero, List.setIfInBounds_toArray, List.set_cons_succ, List.set_cons_zero]
                refine wpAnyH_ready (rs := [17]) (by kernel_rfl) (by simp) ?_
                refine AllReadyH.cons rfl (fun K hK => ?_) AllReadyH.nil
                have cc := SQ2.cell 0 6 rfl rfl
                have ff := SQ2.thaw 0 6 rfl
                go_simp
                have SQ3 : Hs w [(U, 31, lT ({ U2 with n1 := x.ma, n2 := x.he, n3 := x.de } : Th) D2 n c2), (Y, 31, [.int .u64 0, .int .u64 0, .int .u32 0, .int .i64 0, .int .i64 0, .int .i64 0, .int .i64 0, .int .i64 0, .int .i64 0, .int .i64 0, .bool false, .bool false, .bool false, .int .i64 0, .bool false, .int .i64 0, .bool false, .int .i64 0, .slice none 0 0]), (B, 56, lB x), (X, 31, lT t (some ⟨g, 0, none⟩) n cap')] (vq2.setCell ⟨U, 6, none⟩ (.int .i64 x.de)) := SQ2.set 0 rfl 6 (.int .i64 x.de)
                have RQ3 := RQ2.but (w' := vq2.setCell ⟨U, 6, none⟩ (.int .i64 x.de)) (SQ2.1 0 _ _ _ rfl).1 (by decide) (fun b hb => Below.heap_setCell _ ⟨U, 6, none⟩ _ b hb)
                have OQ3 := OQ2.but (w' := vq2.setCell ⟨U, 6, none⟩ (.int .i64 x.de)) (SQ2.1 0 _ _ _ rfl).1 (by decide) (by decide) (fun b hb => Below.heap_setCell _ ⟨U, 6, none⟩ _ b hb)
                clear cc ff
                refine hK.out _ _ ((SQ3.1 2 _ _ _ rfl).1) (fun hHeld => ?_)
                clear hK K
                try simp only [Act.put, List.getElem_toArray, List.getElem_cons_succ, List.getElem_cons_zero, List.setIfInBounds_toArray, List.set_cons_succ, List.set_cons_zero]
                obtain ⟨vq3, hvv⟩ : ∃ y, vq2.setCell ⟨U, 6, none⟩ (.int .i64 x.de) = y := ⟨_, rfl⟩
                rw [hvv] at SQ3 RQ3 OQ3 hHeld ⊢
                clear hvv SQ2 RQ2 OQ2
                refine wpAnyH_done (by kernel_rfl) ?_ _
                go_wp2_with fail
                go_meet
                exact ⟨SQ3, RQ3, OQ3⟩
              case rest =>
                obtain ⟨S21, RT21, hO21⟩ := hcut
                rename World => w21
                clear S20 RT20 hO20 hw_ma hw_he hw_de
                have b1 := S21.cell 2 1 rfl rfl
                have c11 := S21.cell 0 11 rfl rfl
                have f11 := S21.thaw 0 11 rfl
                go_upto_region 22 with fail
                have S22 : Hs w [(U, 31, lT (toldT U2 x) D2 n c2), (Y, 31, [.int .u64 0, .int .u64 0, .int .u32 0, .int .i64 0, .int .i64 0, .int .i64 0, .int .i64 0, .int .i64 0, .int .i64 0, .int .i64 0, .bool false, .bool false, .bool false, .int .i64 0, .bool false, .int .i64 0, .bool false, .int .i64 0, .slice none 0 0]), (B, 56, lB x), (X, 31, lT t (some ⟨g, 0, none⟩) n cap')] (w21.setCell ⟨U, 11, none⟩ (.bool x.ch)) := (S21).set 0 rfl 11 (.bool x.ch)
                have hO22 := hO21.but (w' := w21.setCell ⟨U, 11, none⟩ (.bool x.ch)) (S21.1 0 _ _ _ rfl).1 (by decide) (by decide) (fun b hb => Below.heap_setCell _ ⟨U, 11, none⟩ _ b hb)
                have RT22 := RT21.but (w' := w21.setCell ⟨U, 11, none⟩ (.bool x.ch)) (S21.1 0 _ _ _ rfl).1 (by decide) (fun b hb => Below.heap_setCell _ ⟨U, 11, none⟩ _ b hb)
                generalize w21.setCell ⟨U, 11, none⟩ (.bool x.ch) = w22 at S22 hO22 RT22 ⊢
                clear S21 hO21 RT21 c11 f11
                clear b1
                have HC := Lib.hid (rall2_is (toldT U2 x) D2 n c2 sr.1.2 HM hf HTB HNT HMB HZ2 w22 (Lib.hid RT22.ports))
                have HAF := Lib.hid ((allR_bd (t := toldT U2 x) HMB.out n).2.1)
                obtain ⟨R, hR⟩ : ∃ R, allR (toldT U2 x) sr.1.2 n = R := ⟨_, rfl⟩
                rw [hR] at HC HAF
                have HRR := Lib.hid hR
                clear hR
                have hx := S22.bk 0 rfl
                go_wp2_with (with_reducible refine wpList_load_row rfl 31 (.tmp 10) rfl U (by kernel_rfl) _ _ (0, 0) _ hx Tryz.underlying31 rfl (by kernel_rfl) ?_)
                (with_reducible refine HC.out.mono ?_); rintro e w23 ⟨D3, c3, v3, rfl, hz3, hP3, hO3, b3⟩
                have RT23 : RowT w23 D3 R.1 := hP3.elim (fun ⟨e1, e2⟩ => by rw [e1, e2]; exact RT22.below b3) id
                have S23 := S22.below b3
                have hO23 := hO22.below b3
                have HZ3 := Lib.hid hz3
                have HWQ := Lib.hid (show w.heap.size ≤ w22.heap.size from S22.old.size)
                clear S22 RT22 hO22 hx HC hz3 hP3 b3
                go_upto_region 23 with (with_reducible refine wpList_store_row rfl 31 (.tmp 12) (.tmp 132) rfl w23.heap.size (lT (toldT U2 x) D3 n c3).toArray (by kernel_rfl) (by kernel_rfl) _ _ (heap_alloc_new _ _) (by kernel_rfl) (by kernel_rfl) (by kernel_rfl) ?_)
                rw [alloc_row]
                have bN := new_below w23 (.cells (lT (toldT U2 x) D3 n c3).toArray 31)
                have S24 := S23.al rfl 31 (lT (toldT U2 x) D3 n c3)
                have hO24 := hO23.below bN
                have hQ24 := hO3.below bN
                have RT24 := RT23.below bN
                obtain ⟨V, hV⟩ : ∃ q, w23.heap.size = q := ⟨_, rfl⟩
                rw [hV] at S24 ⊢
                obtain ⟨w24, hw24⟩ : ∃ y, w23.alloc (.cells (lT (toldT U2 x) D3 n c3).toArray 31) = y := ⟨_, rfl⟩
                rw [hw24] at S24 hO24 hQ24 RT24 ⊢
                clear hw24 hV bN S23 hO23 hO3 RT23
                have hx := S24.bk 0 rfl
                have hy := S24.bk 1 rfl
                go_upto_region 24 with (first | (with_reducible refine wpList_load_row rfl 31 (.tmp 12) rfl V (by kernel_rfl) _ _ (0, 0) _ hx Tryz.underlying31 rfl (by kernel_rfl) ?_) | (with_reducible refine wpList_store_row rfl 31 (.tmp 10) (.tmp 134) rfl U (lT (toldT U2 x) D3 n c3).toArray (by kernel_rfl) (by kernel_rfl) _ _ hy (by kernel_rfl) (by kernel_rfl) (by kernel_rfl) ?_))
                have S25 : Hs w [(U, 31, lT (toldT U2 x) D3 n c3), (Y, 31, [.int .u64 0, .int .u64 0, .int .u32 0, .int .i64 0, .int .i64 0, .int .i64 0, .int .i64 0, .int .i64 0, .int .i64 0, .int .i64 0, .bool false, .bool false, .bool false, .int .i64 0, .bool false, .int .i64 0, .bool false, .int .i64 0, .slice none 0 0]), (B, 56, lB x), (X, 31, lT t (some ⟨g, 0, none⟩) n cap')] (w24.setRow U (lT (toldT U2 x) D3 n c3).toArray) := (S24.row 1 rfl (lT (toldT U2 x) D3 n c3)).tail
                have hO25 := hO24.store S24 1 rfl (lT (toldT U2 x) D3 n c3).toArray
                have hQ25 := hQ24.store S24 1 rfl (lT (toldT U2 x) D3 n c3).toArray
                have RT25 := RT24.row (cs := lT (toldT U2 x) D3 n c3) (S24.1 1 _ _ _ rfl).1
                generalize w24.setRow U (lT (toldT U2 x) D3 n c3).toArray = w25 at S25 hO25 hQ25 RT25 ⊢
                clear S24 hO24 hQ24 RT24 hx hy
                have hlen : (sr.2 ++ lo).length + R.2.length ≤ 100000 := by have h1 := HFW.out; have h2 := HLF.out; have h3 := HAF.out; rw [List.length_append]; omega
                have hb25 : w.heap.size ≤ w25.heap.size := S25.old.size
                have hwq := HWQ.out
                obtain ⟨_, _, hown⟩ := hO25.own
                go_upto_region 25 with (at_builtin; refine append_outs _ rfl (.tmp 135) (.tmp 136) rfl w.heap.size w22.heap.size u11 v3 (sr.2 ++ lo) R.2 (by kernel_rfl) (by kernel_rfl) hO25 hQ25 hwq hlen hb25 w25 (Below.refl _ _) ?_; intro v4 w26 hO26 hb26 gr26; have S26 := S25.grownT hown gr26 (by intro y hy; simp only [List.mem_cons, List.not_mem_nil, or_false] at hy; rcases hy with rfl | rfl | rfl | rfl <;> (dsimp only; decide)); have RT26 : RowT w26 D3 R.1 := RT25.grownO hown gr26; clear S25 RT25 hO25 hQ25 hown gr26 hb26)
                have b2 := S26.cell 2 2 rfl rfl
                obtain ⟨ak, hak⟩ : ∃ q, x.ak = q := ⟨_, rfl⟩
                rw [hak] at b2
                have e := HS9.out
                rw [HRR.out] at e
                cases ak with
                | false =>
                  unfold ackedT at e
                  rw [if_neg (by rw [hak]; decide)] at e
                  subst e
                  clear hak
                  go_upto_region 28 with fail
                  clear b2
                  have hx := S26.bk 0 rfl
                  have hy := S26.bk 1 rfl
                  have SF := S26.row 1 rfl (lT (toldT U2 x) D3 n c3)
                  have hyF := SF.bk 1 rfl
                  have hOF := hO26.store S26 1 rfl (lT (toldT U2 x) D3 n c3).toArray
                  have RTF := RT26.row (cs := lT (toldT U2 x) D3 n c3) (S26.1 1 _ _ _ rfl).1
                  go_wp2_with (first | (with_reducible refine wpList_load_row rfl 31 (.tmp 10) rfl U (by kernel_rfl) _ _ (0, 0) _ hx Tryz.underlying31 rfl (by kernel_rfl) ?_) | ((with_reducible refine wpList_store_row rfl 31 (.tmp 6) (.tmp 143) rfl Y (lT (toldT U2 x) D3 n c3).toArray (by kernel_rfl) (by kernel_rfl) _ _ hy (by kernel_rfl) (by kernel_rfl) (by kernel_rfl) ?_); (repeat go_step); exact bodyPost_ret (v := .tuple #[.agg (lT (toldT U2 x) D3 n c3).toArray, v4]) (results_two rfl _ _ Y _ _ _ _ rfl _ rfl hyF Tryz.underlying31 rfl (by kernel_rfl)) rfl ⟨D3, c3, _, rfl, HZ3.out, .inr RTF, (by first | exact hOF | (rw [List.append_assoc] at hOF; exact hOF)), SF.old⟩))
                | true =>
                  unfold ackedT at e
                  rw [if_pos hak] at e
                  subst e
                  clear hak
                  go_upto_region 26 with fail
                  clear b2
                  have c10 := S26.cell 0 10 rfl rfl
                  have f10 := S26.thaw 0 10 rfl
                  go_upto_region 27 with fail
                  have S27 : Hs w [(U, 31, lT ({ toldT U2 x with de := false } : Th) D3 n c3), (Y, 31, [.int .u64 0, .int .u64 0, .int .u32 0, .int .i64 0, .int .i64 0, .int .i64 0, .int .i64 0, .int .i64 0, .int .i64 0, .int .i64 0, .bool false, .bool false, .bool false, .int .i64 0, .bool false, .int .i64 0, .bool false, .int .i64 0, .slice none 0 0]), (B, 56, lB x), (X, 31, lT t (some ⟨g, 0, none⟩) n cap')] (w26.setCell ⟨U, 10, none⟩ (.bool false)) := (S26).set 0 rfl 10 (.bool false)
                  have hO27 := hO26.but (w' := w26.setCell ⟨U, 10, none⟩ (.bool false)) (S26.1 0 _ _ _ rfl).1 (by decide) (by decide) (fun b hb => Below.heap_setCell _ ⟨U, 10, none⟩ _ b hb)
                  have RT27 := RT26.but (w' := w26.setCell ⟨U, 10, none⟩ (.bool false)) (S26.1 0 _ _ _ rfl).1 (by decide) (fun b hb => Below.heap_setCell _ ⟨U, 10, none⟩ _ b hb)
                  generalize w26.setCell ⟨U, 10, none⟩ (.bool false) = w27 at S27 hO27 RT27 ⊢
                  clear S26 hO26 RT26 c10 f10
                  have c14 := S27.cell 0 14 rfl rfl
                  have f14 := S27.thaw 0 14 rfl
                  have c15 := S27.cell 0 15 rfl rfl
                  have f15 := S27.thaw 0 15 rfl
                  go_upto_region 28 with fail
                  have S28 : Hs w [(U, 31, lT ({ toldT U2 x with de := false, xo := false, xv := 0 } : Th) D3 n c3), (Y, 31, [.int .u64 0, .int .u64 0, .int .u32 0, .int .i64 0, .int .i64 0, .int .i64 0, .int .i64 0, .int .i64 0, .int .i64 0, .int .i64 0, .bool false, .bool false, .bool false, .int .i64 0, .bool false, .int .i64 0, .bool false, .int .i64 0, .slice none 0 0]), (B, 56, lB x), (X, 31, lT t (some ⟨g, 0, none⟩) n cap')] ((w27.setCell ⟨U, 14, none⟩ (.bool false)).setCell ⟨U, 15, none⟩ (.int .i64 0)) := ((S27).set 0 rfl 14 (.bool false)).set 0 rfl 15 (.int .i64 0)
                  have hO28 := hO27.but (w' := (w27.setCell ⟨U, 14, none⟩ (.bool false)).setCell ⟨U, 15, none⟩ (.int .i64 0)) (S27.1 0 _ _ _ rfl).1 (by decide) (by decide) (fun b hb => (Below.heap_setCell _ ⟨U, 15, none⟩ _ b hb).trans (Below.heap_setCell _ ⟨U, 14, none⟩ _ b hb))
                  have RT28 := RT27.but (w' := (w27.setCell ⟨U, 14, none⟩ (.bool false)).setCell ⟨U, 15, none⟩ (.int .i64 0)) (S27.1 0 _ _ _ rfl).1 (by decide) (fun b hb => (Below.heap_setCell _ ⟨U, 15, none⟩ _ b hb).trans (Below.heap_setCell _ ⟨U, 14, none⟩ _ b hb))
                  generalize (w27.setCell ⟨U, 14, none⟩ (.bool false)).setCell ⟨U, 15, none⟩ (.int .i64 0) = w28 at S28 hO28 RT28 ⊢
                  clear S27 hO27 RT27 c14 f14 c15 f15
                  have hx := S28.bk 0 rfl
                  have hy := S28.bk 1 rfl
                  have SF := S28.row 1 rfl (lT ({ toldT U2 x with de := false, xo := false, xv := 0 } : Th) D3 n c3)
                  have hyF := SF.bk 1 rfl
                  have hOF := hO28.store S28 1 rfl (lT ({ toldT U2 x with de := false, xo := false, xv := 0 } : Th) D3 n c3).toArray
                  have RTF := RT28.row (cs := lT ({ toldT U2 x with de := false, xo := false, xv := 0 } : Th) D3 n c3) (S28.1 1 _ _ _ rfl).1
                  go_wp2_with (first | (with_reducible refine wpList_load_row rfl 31 (.tmp 10) rfl U (by kernel_rfl) _ _ (0, 0) _ hx Tryz.underlying31 rfl (by kernel_rfl) ?_) | ((with_reducible refine wpList_store_row rfl 31 (.tmp 6) (.tmp 143) rfl Y (lT ({ toldT U2 x with de := false, xo := false, xv := 0 } : Th) D3 n c3).toArray (by kernel_rfl) (by kernel_rfl) _ _ hy (by kernel_rfl) (by kernel_rfl) (by kernel_rfl) ?_); (repeat go_step); exact bodyPost_ret (v := .tuple #[.agg (lT ({ toldT U2 x with de := false, xo := false, xv := 0 } : Th) D3 n c3).toArray, v4]) (results_two rfl _ _ Y _ _ _ _ rfl _ rfl hyF Tryz.underlying31 rfl (by kernel_rfl)) rfl ⟨D3, c3, _, rfl, HZ3.out, .inr RTF, (by first | exact hOF | (rw [List.append_assoc] at hOF; exact hOF)), SF.old⟩))

end Go.Proofs.YteplefdnnehdgaaGreatDoor
