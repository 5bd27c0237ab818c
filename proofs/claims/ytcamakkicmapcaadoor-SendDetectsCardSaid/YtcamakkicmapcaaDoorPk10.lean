/- Several texts in one, one behind the other: SendAll, SendRefSame, SendAwake, SendOncePure, TreeFit. -/
import Derived.Test.YtcamakkicmapcaaDoorPk09
import Derived.LoopTactic
import Derived.Deep.DeepCutAuto
import Derived.Test.YtcamakkicmapcaaDoorPk07
import Derived.Test.YtcamakkicmapcaaDoorPk04
import Derived.Test.YtcamakkicmapcaaDoorPk02
import Derived.Test.YtcamakkicmapcaaDoorPk05

/- All: contract. -/
namespace Go.Proofs.YtcamakkicmapcaaDoor
set_option maxRecDepth 100000
open Go.ChangeShapes Go.WideShapes Go.ChangeAt Go.RowKit
set_option linter.unusedVariables false
set_option linter.unusedSimpArgs false

theorem TS.grow {w wx wy : World} {l : List (Nat × TypeId × List Value)} {D : Option Addr} {L : List Po} {row : Option Nat} {base : Nat} (h : TS w l D L wx) (gr : wx.grownBy wy row) (hr : ∀ k, row = some k → base ≤ k) (hl : ∀ x ∈ l, x.1 < base) (hD : L ≠ [] → ∀ ad, D = some ad → ad.block < base) (hb : w.heap.size ≤ base) : TS w l D L wy := by
  refine ⟨h.1.grow gr hr hl hb, ?_⟩
  rcases h.2 with e | ⟨g, r, e, s⟩
  · exact .inl e
  · by_cases hL : L = []
    · exact .inl hL
    · refine .inr ⟨g, r, e, s.grow gr hr (fun x hx => ?_) hb⟩
      rcases List.mem_append.1 hx with q | q
      · exact hl x q
      · obtain rfl := List.mem_singleton.1 q
        exact hD hL _ e

set_option maxHeartbeats 4000000 in
theorem sall_is (t : Th) (A : Option Addr) (n cap : Nat) (L : List Po) (hL : Hid (L.length = n)) (hf : n ≤ 200) (ht : Hid (ThB t)) (hn : Hid (-9223372036854775808 ≤ t.n1 ∧ t.n1 ≤ 9223372036854775807 ∧ -9223372036854775808 ≤ t.n2 ∧ t.n2 ≤ 9223372036854775807 ∧ -9223372036854775808 ≤ t.n3 ∧ t.n3 ≤ 9223372036854775807)) (hb : Hid (∀ x ∈ L, PoB x)) (hc : Hid (A = none → cap = 0)) (w : World) (hd : Hd w) (hp : Hid (PoAt w A w.heap.size L)) :
    Calls Tryd.prog 12 #[.agg (lT t A n cap).toArray] w (AllEnd w t n (allR t L n)) := by
  have HD := Lib.hid hd
  clear hd
  obtain ⟨wb, hwb, S⟩ := hs_two w 31 31 (lT t A n cap) [.int .u64 0, .int .u64 0, .int .u32 0, .int .i64 0, .int .i64 0, .int .i64 0, .int .i64 0, .int .i64 0, .int .i64 0, .int .i64 0, .bool false, .bool false, .bool false, .int .i64 0, .bool false, .int .i64 0, .bool false, .int .i64 0, .slice none 0 0]
  go_enter Tryd.func12, Tryd.ntmps12
  go_upto_region 1 with fail
  clear hwb
  obtain ⟨X, hX⟩ : ∃ X, w.heap.size = X := ⟨_, rfl⟩
  rw [hX] at S
  obtain ⟨Y, hY⟩ : ∃ Y, X + 1 = Y := ⟨_, rfl⟩
  rw [hY] at S
  rw [hX]
  rw [hY]
  clear hX hY
  have hp1 := Lib.hid ((hp.out.below S.old (Nat.le_refl _)).wide S.old.size)
  have HC := Lib.hid (tcopy_is t A n cap L hL hf hc wb hp1)
  have hx := S.bk 1 rfl
  go_wp2_with (with_reducible refine wpList_load_row rfl 31 (.tmp 1) rfl X (by kernel_rfl) _ _ (0, 0) _ hx Tryd.underlying31 rfl (by kernel_rfl) ?_)
  (with_reducible refine HC.out.mono ?_); rintro e w1 ⟨D, cap', rfl, hz, k1⟩
  have S1 := TS.take S k1
  have HZ := Lib.hid hz
  clear S hx HC hp1 k1 hz
  have hx := S1.hs.bk 1 rfl
  go_upto_region 2 with (refine wpList_store_row rfl 31 _ _ rfl X _ rfl rfl _ _ hx (by kernel_rfl) (by kernel_rfl) (by kernel_rfl) ?_)
  have S2 : TS w [(Y, 31, [.int .u64 0, .int .u64 0, .int .u32 0, .int .i64 0, .int .i64 0, .int .i64 0, .int .i64 0, .int .i64 0, .int .i64 0, .int .i64 0, .bool false, .bool false, .bool false, .int .i64 0, .bool false, .int .i64 0, .bool false, .int .i64 0, .slice none 0 0]), (X, 31, lT t D n cap')] D L _ := S1.row 1 rfl (lT t D n cap')
  generalize w1.setRow X (lT t D n cap').toArray = w2 at S2 ⊢
  clear S1 hx
  obtain ⟨base, hbs⟩ : ∃ b, w2.heap.size = b := ⟨_, rfl⟩
  have hlow : ∀ cs ds : List Value, ∀ y ∈ ([(Y, 31, cs), (X, 31, ds)] : List (Nat × TypeId × List Value)), y.1 < base := fun cs ds => by
    rw [← hbs]
    exact List.forall_mem_cons.2 ⟨S2.hs.lt 0 rfl, List.forall_mem_cons.2 ⟨S2.hs.lt 1 rfl, fun y hy => by cases hy⟩⟩
  have HLOW := Lib.hid hlow
  have HWB := Lib.hid (show w.heap.size ≤ base by rw [← hbs]; exact S2.old.size)
  have hbw : base ≤ w2.heap.size := Nat.le_of_eq hbs.symm
  have HDB : Hid (L ≠ [] → ∀ ad, D = some ad → ad.block < base) := Lib.hid (fun hne ad e => by
    obtain ⟨x, hx⟩ : ∃ x, L[0]? = some x := by
      cases L with
      | nil => exact absurd rfl hne
      | cons x r => exact ⟨x, rfl⟩
    obtain ⟨g, e', h1, _⟩ := S2.at hx
    rw [e] at e'
    cases e'
    rw [← hbs]
    exact h1.2)
  clear hlow hbs
  have c18 := S2.hs.cell 1 18 rfl rfl
  go_wp2
  clear c18
  go_loopw [4, 14] (fun v i wr => ∃ k : Nat, k ≤ n ∧ i = .int .i64 k ∧ TS w [(Y, 31, [.int .u64 0, .int .u64 0, .int .u32 0, .int .i64 0, .int .i64 0, .int .i64 0, .int .i64 0, .int .i64 0, .int .i64 0, .int .i64 0, .bool false, .bool false, .bool false, .int .i64 0, .bool false, .int .i64 0, .bool false, .int .i64 0, .slice none 0 0]), (X, 31, lT t D n cap')] D (allR t L k).1 wr ∧ base ≤ wr.heap.size ∧ Hid (OutsR wr base v (allR t L k).2)) (fun v i _ => n - (intOf i).toNat)
  case atStart => exact ⟨0, Nat.zero_le _, rfl, S2, hbw, Lib.hid (OutsR.nil _ _)⟩
  case round =>
    clear S2 hbw
    obtain ⟨k, hk, rfl, S, hbw, HO⟩ := hrel
    have HBD := Lib.hid (allR_bd (t := t) hb.out k)
    have HLN := Lib.hid (show (allR t L k).1.length = n by rw [HBD.out.1, hL.out])
    by_cases hkn : k < n
    · have hki : (k : Int) < (n : Int) := by omega
      have hkz : ¬ (n : Int) ≤ (k : Int) := by omega
      obtain ⟨x, hx⟩ := po_at HLN.out hkn
      have HX := Lib.hid hx
      obtain ⟨g, hDg, hg, hcl, hfz⟩ := S.at hx
      subst hDg
      have HGB := Lib.hid (HDB.out (by have := hL.out; intro e; rw [e] at this; simp at this; omega) _ rfl)
      have hat : ∀ i v, (lP x)[i]? = some v → wr.cell? ((⟨g, k * 15, none⟩ : Addr).add i) = some v := fun i v hv => by rw [addr_add]; exact hcl i v hv
      clear hx hcl hfz hg
      go_upto_region 6 with (first | (with_reducible refine wpList_load_at rfl 48 (.tmp 17) rfl ⟨g, k * 15, none⟩ (by kernel_rfl) _ _ hat Tryd.underlying48 rfl (by kernel_rfl) ?_) | (refine wpList_store_row rfl 48 _ _ rfl _ _ rfl rfl _ _ (heap_alloc_new _ _) (by kernel_rfl) (by kernel_rfl) (by kernel_rfl) ?_))
      rw [alloc_row]
      have T1 := S.al rfl 48 (lP x)
      have HOa := HO.out.below (new_below wr (.cells (lP x).toArray 48))
      have hbw1 : base ≤ (wr.alloc (.cells (lP x).toArray 48)).heap.size := Nat.le_trans hbw (by simp)
      obtain ⟨P, hP⟩ : ∃ P, wr.heap.size = P := ⟨_, rfl⟩
      rw [hP] at T1 ⊢
      obtain ⟨v1, hv1⟩ : ∃ v, wr.alloc (.cells (lP x).toArray 48) = v := ⟨_, rfl⟩
      rw [hv1] at T1 HOa hbw1 ⊢
      clear hv1 hP S HO hat hbw
      have c1 := T1.hs.cell 0 1 rfl rfl
      have c0 := T1.hs.cell 2 0 rfl rfl
      obtain ⟨d, hd⟩ : ∃ d, desB x t.ow = d := ⟨_, rfl⟩
      have HDE := fun W => Lib.hid (desig_row x t.ow d (Lib.hid hd) W)
      have HDD := Lib.hid hd
      clear hd
      obtain ⟨tl, htl⟩ : ∃ b, tellsB t x = b := ⟨_, rfl⟩
      have HTL := Lib.hid htl
      clear htl
      try simp only [Act.put]
      go_cut [28] (fun u wx => u = .bool (!tl) ∧ Below v1.heap.size v1 wx)
      case first =>
        by_cases hst : x.st = 0
        · obtain rfl : false = tl := by rw [← HTL.out]; unfold tellsB; rw [hst]; simp
          have hb1 : (x.st == 0) = true := by simp [hst]
          clear hst
          go_wp2_with fail
          go_meet
          exact ⟨rfl, Below.refl _ _⟩
        · have hb1 : (x.st == 0) = false := by simpa using hst
          obtain rfl : d = tl := by rw [← HTL.out, ← HDD.out]; unfold tellsB desB; simp [hst]
          clear hst
          have hz := T1.hs.bk 0 rfl
          go_wp2_with (with_reducible refine wpList_load_rowG (by kernel_rfl) 48 (.tmp 6) rfl P (by kernel_rfl) _ _ (0, 0) _ hz Tryd.underlying48 rfl (by kernel_rfl) ?_)
          (with_reducible refine (HDE _).out.mono ?_); rintro e v2 ⟨rfl, b2⟩
          clear hz
          cases d with
          | true =>
            go_wp2_with fail
            go_meet
            exact ⟨rfl, b2⟩
          | false =>
            go_wp2_with fail
            go_meet
            exact ⟨rfl, b2⟩
      case rest =>
        obtain ⟨rfl, B1⟩ := hcut
        have S1 := (T1.below B1).tail
        have HO1 := Lib.hid (HOa.below B1)
        have hbw2 : base ≤ wc.heap.size := Nat.le_trans hbw1 B1.size
        clear T1 HOa hbw1 B1 c1 c0 HDE
        cases tl with
        | false =>
          go_wp2
          go_roundw
          case rel => exact ⟨k + 1, by omega, by go_num, by rw [allR, allStep_no HX.out HTL.out]; exact S1, hbw2, Lib.hid (by rw [allR, allStep_no HX.out HTL.out]; exact HO1.out)⟩
          case measure => simp [intOf]; omega
        | true =>
          have HTO := Lib.hid (told_is t (some ⟨g, 0, none⟩) n cap' (allR t L k).1 k x HX HLN hf ht hn (Lib.hid HBD.out.2.2) wc (HD.out.below S1.old (Nat.le_refl _)) (Lib.hid S1.ports))
          have hstep : allR t L (k + 1) = ((allR t L k).1.set k (toldR t (allR t L k).1 k x).1, (allR t L k).2 ++ (toldR t (allR t L k).1 k x).2) := by
            rw [allR, allStep_yes HX.out HTL.out, confR_told HX.out]
          have hfew : (toldR t (allR t L k).1 k x).2.length ≤ 1 := by
            have := confR_few t (allR t L k).1 k
            rw [confR_told HX.out] at this
            exact this
          obtain ⟨R1, hRR⟩ : ∃ R, toldR t (allR t L k).1 k x = R := ⟨_, rfl⟩
          rw [hRR] at HTO hstep hfew
          clear hRR
          have HST := Lib.hid hstep
          clear hstep
          go_upto_region 7 with fail
          have hx := S1.hs.bk 1 rfl
          go_wp2_with (with_reducible refine wpList_load_row rfl 31 (.tmp 1) rfl X (by kernel_rfl) _ _ (0, 0) _ hx Tryd.underlying31 rfl (by kernel_rfl) ?_)
          (with_reducible refine HTO.out.mono ?_); rintro e w4 ⟨v, rfl, hO, b4⟩
          have S4 := S1.below b4
          have HO4 := HO1.out.below b4
          have hw4 := b4.size
          clear hx HTO b4
          go_upto_region 8 with (refine wpList_store_row rfl 48 _ _ rfl _ _ rfl rfl _ _ (heap_alloc_new _ _) (by kernel_rfl) (by kernel_rfl) (by kernel_rfl) ?_)
          rw [alloc_row]
          have S5 := S4.al rfl 48 (lP R1.1)
          have hO5 := hO.below (new_below w4 (.cells (lP R1.1).toArray 48))
          have HO5 := HO4.below (new_below w4 (.cells (lP R1.1).toArray 48))
          obtain ⟨Q, hQ⟩ : ∃ Q, w4.heap.size = Q := ⟨_, rfl⟩
          rw [hQ] at S5 ⊢
          obtain ⟨w5, hw5⟩ : ∃ w5, w4.alloc (.cells (lP R1.1).toArray 48) = w5 := ⟨_, rfl⟩
          rw [hw5] at S5 hO5 HO5 ⊢
          have hbw5 : base ≤ w5.heap.size := by rw [← hw5]; exact Nat.le_trans (Nat.le_trans hbw2 hw4) (by simp)
          clear hw5 hQ S4 hO HO4 hw4
          have HWC := Lib.hid hbw2
          clear S1 HO1
          have hth := S5.there HX.out R1.1
          have c18 := S5.hs.cell 2 18 rfl rfl
          have hz := S5.hs.bk 0 rfl
          go_upto_region 9 with (first | (with_reducible refine wpList_load_row rfl 48 (.tmp 7) rfl Q (by kernel_rfl) _ _ (0, 0) _ hz Tryd.underlying48 rfl (by kernel_rfl) ?_) | (with_reducible refine wpList_store_mid rfl 48 (.tmp 39) _ rfl g (k * 15) (lP R1.1).toArray (by kernel_rfl) (by kernel_rfl) hth (by kernel_rfl) (by kernel_rfl) ?_))
          have S6 := (S5.whole HX.out R1.1).tail
          have hO6 := hO5.heap (w' := w5.setCells g (k * 15) (lP R1.1)) (fun b hb => setCells_other _ _ _ b (by have h1 := HGB.out; have h2 := HWC.out; omega))
          have HO6 := HO5.heap (w' := w5.setCells g (k * 15) (lP R1.1)) (fun b hb => setCells_other _ _ _ b (by have h1 := HGB.out; omega))
          have hbw6 : base ≤ (w5.setCells g (k * 15) (lP R1.1)).heap.size := Nat.le_trans hbw5 (Below.setCells (B := 0) (Nat.zero_le _) (lP R1.1) (k * 15) w5 (Below.refl 0 w5)).size
          obtain ⟨w6, hw6⟩ : ∃ v, w5.setCells g (k * 15) (lP R1.1) = v := ⟨_, rfl⟩
          rw [hw6] at S6 hO6 HO6 hbw6 ⊢
          clear hw6 S5 hO5 HO5 hbw5 hth c18 hz
          have HOC := HO6
          obtain ⟨C, -, hown, -⟩ := HOC
          have hln : (allR t L k).2.length + R1.2.length ≤ 100000 := by
            have h1 := HBD.out.2.1
            omega
          go_wp2_with (at_builtin; refine append_outs _ rfl (.tmp 40) (.tmp 41) rfl base wc.heap.size u4 v (allR t L k).2 R1.2 rfl rfl HO6 hO6 hbw2 hln hbw6 w6 (Below.refl _ _) ?_; intro v' w7 hO7 hb7 gr7; have S7 := S6.grow gr7 (fun b hb => (World.ownsRow.lt hown b hb).1) (HLOW.out _ _) (fun _ ad e => by cases e; exact HGB.out) HWB.out; have hbw7 : base ≤ w7.heap.size := Nat.le_trans hbw6 gr7.size; clear S6 hO6 HO6 hown hln hb7 gr7)
          go_roundw
          case rel => exact ⟨k + 1, by omega, by go_num, by rw [HST.out]; exact S7, hbw7, Lib.hid (by rw [HST.out]; exact hO7)⟩
          case measure => simp [intOf]; omega
    · have hki : ¬ (k : Int) < (n : Int) := by omega
      have hke : k = n := by omega
      subst hke
      go_upto_region 11 with fail
      have hx := S.hs.bk 1 rfl
      have hy := S.hs.bk 0 rfl
      have S2 := S.row 0 rfl (lT t D k cap')
      have hYb : Y < base := HLOW.out [] [] (Y, 31, []) (by simp)
      have hO := Lib.hid ((HO.out.heap (w' := wr.setRow Y (lT t D k cap').toArray) (fun b hb => setRow_other wr Y b _ (by omega))).mono HWB.out)
      have hyF := setRow_heap wr Y _ (lT t D k cap').toArray _ _ hy
      clear hYb
      go_wp2_with (first | (with_reducible refine wpList_load_row rfl 31 (.tmp 1) rfl X (by kernel_rfl) _ _ (0, 0) _ hx Tryd.underlying31 rfl (by kernel_rfl) ?_) | (refine wpList_store_row rfl 31 _ _ rfl Y _ rfl rfl _ _ hy (by kernel_rfl) (by kernel_rfl) (by kernel_rfl) ?_))
      exact bodyPost_ret (v := .tuple #[.agg (lT t D k cap').toArray, u4]) (results_two rfl _ _ Y _ _ _ _ rfl _ rfl hyF Tryd.underlying31 rfl (by kernel_rfl)) rfl ⟨D, cap', _, rfl, HZ.out, S2.ports, hO.out, S2.old⟩

end Go.Proofs.YtcamakkicmapcaaDoor

/- The document's Same of what goes out: of what is alike. -/
namespace Go.Proofs.YtcamakkicmapcaaDoor
set_option maxRecDepth 100000
open Go.ChangeShapes Go.WideShapes Go.ChangeAt Go.RowKit
set_option linter.unusedVariables false
set_option linter.unusedSimpArgs false

theorem OutsR.shape {w : World} {base : Nat} {v : Value} {M : List Ou} (h : OutsR w base v M) : ∃ A cap, v = .slice A M.length cap := by
  obtain ⟨C, h1, h2, _⟩ := h
  obtain ⟨A, cap, e⟩ := h2.shape
  exact ⟨A, cap, by rw [e, ← h1, List.length_map]⟩
theorem OutsR.at {w : World} {base n cap : Nat} {A : Option Addr} {M : List Ou} (h : OutsR w base (.slice A n cap) M) {k : Nat} {o : Ou} (hk : M[k]? = some o) :
    ∃ (c : Oc) (g : Nat), c.o = o ∧ A = some ⟨g, 0, none⟩ ∧ g < w.heap.size ∧ (∀ j u, (lO c)[j]? = some u → w.cell? ⟨g, k * 5 + j, none⟩ = some u) ∧ OcAt w base c := by
  obtain ⟨C, h1, h2, h3⟩ := h
  rw [← h1, List.getElem?_map] at hk
  cases hc : C[k]? with
  | none => rw [hc] at hk; cases hk
  | some c =>
    rw [hc] at hk
    obtain ⟨g, e, -, hg, hcell⟩ := h2.at lO_len hc
    refine ⟨c, g, Option.some.inj hk, e, hg, fun j u hu => ?_, h3 c (List.mem_of_getElem? hc)⟩
    have hj : j < 5 := by
      rcases Nat.lt_or_ge j 5 with q | q
      · exact q
      · rw [List.getElem?_eq_none (by rw [lO_len]; exact q)] at hu; cases hu
    rw [hcell j hj, hu]
/-- A frame's cells. -/
def lF (c : Oc) : List Value := [.int .u64 1652522221568, .int .u64 c.o.fr, .int .u16 (ouN c.o), .slice (some ⟨c.g, 0, none⟩) (ouN c.o) c.cap]
theorem bytes_back {w : World} {B : Nat} {c : Oc} (h : OcAt w B c) : (convert 50 9 (.slice (some ⟨c.g, 0, none⟩) (ouN c.o) c.cap)).run Tryd.prog w = .ok (.string ⟨(ouB c.o).toArray⟩) w := by
  have hr := h.2.rb 0 w.heap.size (Nat.zero_le _) h.2.lt
  have e := run_convert_bytes_back (P := Tryd.prog) w 50 9 5 ⟨c.g, 0, none⟩ c.cap (ouB c.o) Tryd.underlying50 Tryd.underlying5 Tryd.underlying9 (fun j hj => hr.bytes j hj)
  rw [ouB_len] at e
  exact e

set_option maxHeartbeats 1000000 in
theorem rsame_outs (M : List Ou) (A A2 : Option Addr) (m cap cap2 base base2 : Nat) (hm : Hid (M.length = m)) (hf : m ≤ 1000) (w : World) (h1 : Hid (OutsR w base (.slice A m cap) M)) (h2 : Hid (OutsR w base2 (.slice A2 m cap2) M)) :
    Calls Tryd.prog 15 #[.slice A m cap, .slice A2 m cap2] w fun e w' => e = .returned (.bool true) ∧ Below w.heap.size w w' := by
  go_enter Tryd.func15, Tryd.ntmps15
  go_wp2
  go_loopw [5] (fun i wr => ∃ k : Nat, k ≤ m ∧ i = .int .i64 k ∧ Below w.heap.size w wr) (fun i _ => m - (intOf i).toNat)
  case atStart => exact ⟨0, Nat.zero_le _, rfl, Below.refl _ _⟩
  case round =>
    obtain ⟨k, hk, rfl, B⟩ := hrel
    by_cases hkm : k < m
    · have hki : (k : Int) < (m : Int) := by omega
      have hkz : ¬ (m : Int) ≤ (k : Int) := by omega
      obtain ⟨o, ho⟩ : ∃ o, M[k]? = some o := ⟨M[k]'(by have := hm.out; omega), List.getElem?_eq_getElem _⟩
      obtain ⟨c, g, hco, rfl, hg, hcl, hat⟩ := (h1.out.below B).at ho
      obtain ⟨d, g2, hdo, rfl, hg2, hcl2, hat2⟩ := (h2.out.below B).at ho
      have HAT := Lib.hid hat
      have HAT2 := Lib.hid hat2
      have HCO := Lib.hid hco
      have HDO := Lib.hid hdo
      clear ho hat hat2 hco hdo
      have l1 : ∀ W, Below wr.heap.size wr W → ∀ i v, (lF c)[i]? = some v → W.cell? ((⟨g, k * 5 + 1, none⟩ : Addr).add i) = some v := fun W b i v hv => by
        rw [addr_add, Nat.add_assoc]
        exact (b.cell (p := ⟨g, k * 5 + (1 + i), none⟩) hg).trans (hcl (1 + i) v (by rw [Nat.add_comm]; exact hv))
      have l2 : ∀ W, Below wr.heap.size wr W → ∀ i v, (lF d)[i]? = some v → W.cell? ((⟨g2, k * 5 + 1, none⟩ : Addr).add i) = some v := fun W b i v hv => by
        rw [addr_add, Nat.add_assoc]
        exact (b.cell (p := ⟨g2, k * 5 + (1 + i), none⟩) hg2).trans (hcl2 (1 + i) v (by rw [Nat.add_comm]; exact hv))
      have HCL := Lib.hid hcl
      have HCL2 := Lib.hid hcl2
      clear hcl hcl2
      go_upto_region 6 with fail
      obtain ⟨N, hN⟩ : ∃ N, wr.heap.size = N := ⟨_, rfl⟩
      have HN := Lib.hid hN
      go_cut [6, 7] (fun p q wx => ∃ V U, p = .pointer (some ⟨V, 0, none⟩) ∧ q = .pointer (some ⟨U, 0, none⟩) ∧ Below wr.heap.size wr wx ∧ Bk wx V 55 (lF c) ∧ Bk wx U 55 (lF d))
      case first =>
        refine wp_region_held_drew (S := (fun w' => Below wr.heap.size wr w')) (by kernel_rfl) ((Below.refl _ _).drew) (fun hHeld => ?_)
        refine wpAnyH_take (i := 0) (v := ?_) rfl (by kernel_rfl) (by kernel_rfl) (by kernel_rfl) (fun _ _ _ h => h) (Or.inl ⟨by kernel_rfl, ?_⟩) (by assumption) ?_
        rotate_left
        · intro w' hSw; (try dsimp only at hSw); go_simp; with_reducible rfl
        try simp only [Act.put, List.setIfInBounds_toArray, List.set_cons_succ]
        refine wpAnyH_take (i := 1) (v := ?_) rfl (by kernel_rfl) (by kernel_rfl) (by kernel_rfl) (fun _ _ _ h => h) (Or.inl ⟨by kernel_rfl, ?_⟩) (by assumption) ?_
        rotate_left
        · intro w' hSw; (try dsimp only at hSw); go_simp; with_reducible rfl
        try simp only [Act.put, List.setIfInBounds_toArray, List.set_cons_succ]
        refine wpAnyH_take (i := 2) (v := ?_) rfl (by kernel_rfl) (by kernel_rfl) (by kernel_rfl) (fun _ _ _ h => h) (Or.inl ⟨by kernel_rfl, ?_⟩) (by assumption) ?_
        rotate_left
        · intro w' hSw; (try dsimp only at hSw); go_simp; with_reducible rfl
        try simp only [Act.put, List.setIfInBounds_toArray, List.set_cons_succ]
        refine wpAnyH_take (i := 3) (v := ?_) rfl (by kernel_rfl) (by kernel_rfl) (by kernel_rfl) (fun _ _ _ h => h) (Or.inl ⟨by kernel_rfl, ?_⟩) (by assumption) ?_
        rotate_left
        · intro w' hSw; (try dsimp only at hSw); go_simp; with_reducible rfl
        try simp only [Act.put, List.setIfInBounds_toArray, List.set_cons_succ]
        refine wpAnyH_take (i := 4) (v := _) rfl (by kernel_rfl) (by kernel_rfl) (by kernel_rfl) (fun _ _ _ h => h) (Or.inl ⟨by kernel_rfl, fun w' hSw => exec_load_at 55 _ rfl ⟨g, k * 5 + 1, none⟩ (by kernel_rfl) _ _ (l1 w' hSw) Tryd.underlying55 rfl (by kernel_rfl)⟩) (by assumption) ?_
        try simp only [Act.put, List.getElem_toArray, List.getElem_cons_succ, List.getElem_cons_zero, List.setIfInBounds_toArray, List.set_cons_succ, List.set_cons_zero]
        refine wpAnyH_take (i := 5) (v := ?_) rfl (by kernel_rfl) (by kernel_rfl) (by kernel_rfl) (fun _ _ _ h => h) (Or.inl ⟨by kernel_rfl, ?_⟩) (by assumption) ?_
        rotate_left
        · intro w' hSw; (try dsimp only at hSw); go_simp; with_reducible rfl
        try simp only [Act.put, List.setIfInBounds_toArray, List.set_cons_succ]
        refine wpAnyH_take (i := 6) (v := ?_) rfl (by kernel_rfl) (by kernel_rfl) (by kernel_rfl) (fun _ _ _ h => h) (Or.inl ⟨by kernel_rfl, ?_⟩) (by assumption) ?_
        rotate_left
        · intro w' hSw; (try dsimp only at hSw); go_simp; with_reducible rfl
        try simp only [Act.put, List.setIfInBounds_toArray, List.set_cons_succ]
        refine wpAnyH_take (i := 7) (v := ?_) rfl (by kernel_rfl) (by kernel_rfl) (by kernel_rfl) (fun _ _ _ h => h) (Or.inl ⟨by kernel_rfl, ?_⟩) (by assumption) ?_
        rotate_left
        · intro w' hSw; (try dsimp only at hSw); go_simp; with_reducible rfl
        try simp only [Act.put, List.setIfInBounds_toArray, List.set_cons_succ]
        refine wpAnyH_take (i := 8) (v := ?_) rfl (by kernel_rfl) (by kernel_rfl) (by kernel_rfl) (fun _ _ _ h => h) (Or.inl ⟨by kernel_rfl, ?_⟩) (by assumption) ?_
        rotate_left
        · intro w' hSw; (try dsimp only at hSw); go_simp; with_reducible rfl
        try simp only [Act.put, List.setIfInBounds_toArray, List.set_cons_succ]
        refine wpAnyH_take (i := 9) (v := _) rfl (by kernel_rfl) (by kernel_rfl) (by kernel_rfl) (fun _ _ _ h => h) (Or.inl ⟨by kernel_rfl, fun w' hSw => exec_load_at 55 _ rfl ⟨g2, k * 5 + 1, none⟩ (by kernel_rfl) _ _ (l2 w' hSw) Tryd.underlying55 rfl (by kernel_rfl)⟩) (by assumption) ?_
        try simp only [Act.put, List.getElem_toArray, List.getElem_cons_succ, List.getElem_cons_zero, List.setIfInBounds_toArray, List.set_cons_succ, List.set_cons_zero]
        have R0 := (Hs.nil wr).drew
        have hS1 : wr.drew.heap.size = N := hN
        have R1 := R0.al hS1 55 [.int .u64 0, .int .u64 0, .int .u16 0, .slice none 0 0]
        have hS2 : (wr.drew.alloc (.cells ([.int .u64 0, .int .u64 0, .int .u16 0, .slice none 0 0] : List Value).toArray 55)).heap.size = N + 1 := by simp [← hS1]
        have R2 := R1.al hS2 55 [.int .u64 0, .int .u64 0, .int .u16 0, .slice none 0 0]
        refine wpAnyH_ready (rs := [10, 11]) (by kernel_rfl) (by simp) ?_
        refine AllReadyH.cons rfl (fun K hK => ?_) (AllReadyH.cons rfl (fun K hK => ?_) AllReadyH.nil)
        · go_simp
          refine hK.out _ _ (R1.old) (fun hHeld => ?_)
          clear hK K
          try simp only [Act.put, List.getElem_toArray, List.getElem_cons_succ, List.getElem_cons_zero, List.setIfInBounds_toArray, List.set_cons_succ, List.set_cons_zero]
          refine wpAnyH_ready (rs := [11]) (by kernel_rfl) (by simp) ?_
          refine AllReadyH.cons rfl (fun K hK => ?_) AllReadyH.nil
          go_simp
          try rw [hN]
          refine hK.out _ _ (R2.old) (fun hHeld => ?_)
          clear hK K
          try simp only [Act.put, List.getElem_toArray, List.getElem_cons_succ, List.getElem_cons_zero, List.setIfInBounds_toArray, List.set_cons_succ, List.set_cons_zero]
          refine wpAnyH_ready (rs := [12]) (by kernel_rfl) (by simp) ?_
          refine AllReadyH.cons rfl (fun K hK => ?_) AllReadyH.nil
          refine exec_if_store (by kernel_rfl) 55 (.tmp 6) (.tmp 23) rfl (N) (lF c).toArray (by kernel_rfl) (by kernel_rfl) _ _ (R2.bk 1 rfl) (by kernel_rfl) (by kernel_rfl) (by kernel_rfl) ?_
          have R3 := R2.row 1 rfl (lF c)
          refine hK.out _ _ (R3.old) (fun hHeld => ?_)
          clear hK K
          try simp only [Act.put, List.getElem_toArray, List.getElem_cons_succ, List.getElem_cons_zero, List.setIfInBounds_toArray, List.set_cons_succ, List.set_cons_zero]
          refine wpAnyH_ready (rs := [13]) (by kernel_rfl) (by simp) ?_
          refine AllReadyH.cons rfl (fun K hK => ?_) AllReadyH.nil
          refine exec_if_store (by kernel_rfl) 55 (.tmp 7) (.tmp 28) rfl (N + 1) (lF d).toArray (by kernel_rfl) (by kernel_rfl) _ _ (R3.bk 0 rfl) (by kernel_rfl) (by kernel_rfl) (by kernel_rfl) ?_
          have R4 := R3.row 0 rfl (lF d)
          refine hK.out _ _ (R4.old) (fun hHeld => ?_)
          clear hK K
          try simp only [Act.put, List.getElem_toArray, List.getElem_cons_succ, List.getElem_cons_zero, List.setIfInBounds_toArray, List.set_cons_succ, List.set_cons_zero]
          refine wpAnyH_done (by kernel_rfl) ?_ _
          go_wp2_with fail
          go_meet
          exact ⟨_, _, rfl, rfl, R4.old, (R4.1 1 _ _ _ rfl).1, (R4.1 0 _ _ _ rfl).1⟩
        · go_simp
          refine hK.out _ _ (R1.old) (fun hHeld => ?_)
          clear hK K
          try simp only [Act.put, List.getElem_toArray, List.getElem_cons_succ, List.getElem_cons_zero, List.setIfInBounds_toArray, List.set_cons_succ, List.set_cons_zero]
          refine wpAnyH_ready (rs := [10]) (by kernel_rfl) (by simp) ?_
          refine AllReadyH.cons rfl (fun K hK => ?_) AllReadyH.nil
          go_simp
          try rw [hN]
          refine hK.out _ _ (R2.old) (fun hHeld => ?_)
          clear hK K
          try simp only [Act.put, List.getElem_toArray, List.getElem_cons_succ, List.getElem_cons_zero, List.setIfInBounds_toArray, List.set_cons_succ, List.set_cons_zero]
          refine wpAnyH_ready (rs := [12]) (by kernel_rfl) (by simp) ?_
          refine AllReadyH.cons rfl (fun K hK => ?_) AllReadyH.nil
          refine exec_if_store (by kernel_rfl) 55 (.tmp 6) (.tmp 23) rfl (N + 1) (lF c).toArray (by kernel_rfl) (by kernel_rfl) _ _ (R2.bk 0 rfl) (by kernel_rfl) (by kernel_rfl) (by kernel_rfl) ?_
          have R3 := R2.row 0 rfl (lF c)
          refine hK.out _ _ (R3.old) (fun hHeld => ?_)
          clear hK K
          try simp only [Act.put, List.getElem_toArray, List.getElem_cons_succ, List.getElem_cons_zero, List.setIfInBounds_toArray, List.set_cons_succ, List.set_cons_zero]
          refine wpAnyH_ready (rs := [13]) (by kernel_rfl) (by simp) ?_
          refine AllReadyH.cons rfl (fun K hK => ?_) AllReadyH.nil
          refine exec_if_store (by kernel_rfl) 55 (.tmp 7) (.tmp 28) rfl (N) (lF d).toArray (by kernel_rfl) (by kernel_rfl) _ _ (R3.bk 1 rfl) (by kernel_rfl) (by kernel_rfl) (by kernel_rfl) ?_
          have R4 := R3.row 1 rfl (lF d)
          refine hK.out _ _ (R4.old) (fun hHeld => ?_)
          clear hK K
          try simp only [Act.put, List.getElem_toArray, List.getElem_cons_succ, List.getElem_cons_zero, List.setIfInBounds_toArray, List.set_cons_succ, List.set_cons_zero]
          refine wpAnyH_done (by kernel_rfl) ?_ _
          go_wp2_with fail
          go_meet
          exact ⟨_, _, rfl, rfl, R4.old, (R4.1 0 _ _ _ rfl).1, (R4.1 1 _ _ _ rfl).1⟩
      case rest =>
        obtain ⟨V, U, rfl, rfl, B2, kv, ku⟩ := hcut
        have hdc : d.o = c.o := HDO.out.trans HCO.out.symm
        have i1 : ∀ q : LaterW wc, q.w'.cell? ⟨g, k * 5, none⟩ = some (.int .i64 c.o.i) := fun q => (q.h.cell (p := ⟨g, k * 5, none⟩) (Nat.lt_of_lt_of_le hg B2.size)).trans ((B2.cell (p := ⟨g, k * 5, none⟩) hg).trans (HCL.out 0 _ rfl))
        have i2 : ∀ q : LaterW wc, q.w'.cell? ⟨g2, k * 5, none⟩ = some (.int .i64 d.o.i) := fun q => (q.h.cell (p := ⟨g2, k * 5, none⟩) (Nat.lt_of_lt_of_le hg2 B2.size)).trans ((B2.cell (p := ⟨g2, k * 5, none⟩) hg2).trans (HCL2.out 0 _ rfl))
        have v0 : ∀ q : LaterW wc, q.w'.cell? ⟨V, 0, none⟩ = some (.int .u64 1652522221568) := fun q => (kv.below q.h kv.lt).cell 0
        have v1 : ∀ q : LaterW wc, q.w'.cell? ⟨V, 1, none⟩ = some (.int .u64 c.o.fr) := fun q => (kv.below q.h kv.lt).cell 1
        have v2 : ∀ q : LaterW wc, q.w'.cell? ⟨V, 2, none⟩ = some (.int .u16 (ouN c.o)) := fun q => (kv.below q.h kv.lt).cell 2
        have v3 : ∀ q : LaterW wc, q.w'.cell? ⟨V, 3, none⟩ = some (.slice (some ⟨c.g, 0, none⟩) (ouN c.o) c.cap) := fun q => (kv.below q.h kv.lt).cell 3
        have u0 : ∀ q : LaterW wc, q.w'.cell? ⟨U, 0, none⟩ = some (.int .u64 1652522221568) := fun q => (ku.below q.h ku.lt).cell 0
        have u1 : ∀ q : LaterW wc, q.w'.cell? ⟨U, 1, none⟩ = some (.int .u64 d.o.fr) := fun q => (ku.below q.h ku.lt).cell 1
        have u2 : ∀ q : LaterW wc, q.w'.cell? ⟨U, 2, none⟩ = some (.int .u16 (ouN d.o)) := fun q => (ku.below q.h ku.lt).cell 2
        have u3 : ∀ q : LaterW wc, q.w'.cell? ⟨U, 3, none⟩ = some (.slice (some ⟨d.g, 0, none⟩) (ouN d.o) d.cap) := fun q => (ku.below q.h ku.lt).cell 3
        have s1 : ∀ q : LaterW wc, (convert 50 9 (.slice (some ⟨c.g, 0, none⟩) (ouN c.o) c.cap)).run Tryd.prog q.w' = .ok (.string ⟨(ouB c.o).toArray⟩) q.w' := fun q => bytes_back (HAT.out.below (B2.trans (q.h.mono B2.size)))
        have s2 : ∀ q : LaterW wc, (convert 50 9 (.slice (some ⟨d.g, 0, none⟩) (ouN d.o) d.cap)).run Tryd.prog q.w' = .ok (.string ⟨(ouB d.o).toArray⟩) q.w' := fun q => bytes_back (HAT2.out.below (B2.trans (q.h.mono B2.size)))
        rw [hdc] at i2 u1 u2 u3 s2
        obtain ⟨bs, hbs⟩ : ∃ bs : ByteArray, (⟨(ouB c.o).toArray⟩ : ByteArray) = bs := ⟨_, rfl⟩
        rw [hbs] at s1 s2
        obtain ⟨nn, hnn⟩ : ∃ n : Nat, ouN c.o = n := ⟨_, rfl⟩
        rw [hnn] at v2 v3 u2 u3 s1 s2
        have BW := B.trans (B2.mono B.size)
        clear hdc hbs hnn HCL HCL2 HAT HAT2 HCO HDO l1 l2 kv ku
        go_upto_region 7 with fail
        refine region_later mixedL (by kernel_rfl) ?_
        repeat (go_big_quiet_step (fail))
        refine wpQuiet_nil ?_
        intro v hv
        obtain ⟨r, rfl⟩ := hv
        have B5 := BW.trans (r.h.mono BW.size)
        generalize r.w' = w9 at B5 ⊢
        clear i1 i2 v0 v1 v2 v3 u0 u1 u2 u3 s1 s2 BW B2
        go_wp2
        go_roundw
        case rel => exact ⟨k + 1, by omega, by go_num, B5⟩
        case measure => simp [intOf]; omega
    · have hki : ¬ (k : Int) < (m : Int) := by omega
      go_wp2
      go_ret
      exact ⟨rfl, B⟩

end Go.Proofs.YtcamakkicmapcaaDoor

/- awake of stage 14: the document's example. -/
namespace Go.Proofs.YtcamakkicmapcaaDoor
set_option maxRecDepth 100000
open Go.ChangeShapes Go.WideShapes Go.ChangeAt Go.RowKit
set_option linter.unusedVariables false
set_option linter.unusedSimpArgs false

/-- The example's configuration, and its view. -/
def eC (N : Nat) : Cf := ⟨7, 0, 20, 2, 15, 300, 0, some ⟨N, 0, none⟩, 2, 2⟩
def eL : List PV := [⟨0, 19, true⟩, ⟨0, 19, false⟩]
def eT : Th := ⟨7, 7, 0, -1, 5120, 512, 3840, 5120, 512, 3840, false, false, false, 0, false, 0, false, 0⟩
def eP : List Po := [⟨1, 1, 19, 7, 0, 7, 1, false, false, false, 0, false, 0, false, 0⟩, ⟨2, 0, 19, 7, 0, 7, 2, false, false, false, 0, false, 0, false, 0⟩]
def eO : Ou := ⟨0, 7, ⟨false, false, false, 7, 0, 7, 1, 0, 5120, 512, 3840⟩⟩
theorem eT_is (N : Nat) : newT (eC N) = eT := rfl
theorem eP_is (N : Nat) : newL (eC N) eL = eP := rfl
theorem eR_is : allR eT eP 2 = ([⟨1, 1, 19, 7, 0, 7, 1, false, false, false, 0, false, 0, true, 0⟩, ⟨2, 0, 19, 7, 0, 7, 2, false, false, false, 0, false, 0, false, 0⟩], [eO]) := rfl
theorem eB (N : Nat) : CB (eC N) := by
  unfold CB eC
  dsimp only
  decide
theorem e_in (w : World) : PortsIn (w.alloc (.cells #[.int .u8 0, .int .u32 19, .bool true, .int .u8 0, .int .u32 19, .bool false] 68)) (some ⟨w.heap.size, 0, none⟩) (w.alloc (.cells #[.int .u8 0, .int .u32 19, .bool true, .int .u8 0, .int .u32 19, .bool false] 68)).heap.size eL := by
  have h := heap_alloc_new w (.cells #[.int .u8 0, .int .u32 19, .bool true, .int .u8 0, .int .u32 19, .bool false] 68)
  have hb : Bk (w.alloc (.cells #[.int .u8 0, .int .u32 19, .bool true, .int .u8 0, .int .u32 19, .bool false] 68)) w.heap.size 68 [.int .u8 0, .int .u32 19, .bool true, .int .u8 0, .int .u32 19, .bool false] := h
  intro k x hx
  match k, hx with
  | 0, hx =>
    cases hx
    refine ⟨_, rfl, by simp, ?_, ?_, ?_, by unfold PB; decide⟩
    · exact hb.cell 0
    · exact hb.cell 1
    · exact hb.cell 2
  | 1, hx =>
    cases hx
    refine ⟨_, rfl, by simp, ?_, ?_, ?_, by unfold PB; decide⟩
    · exact hb.cell 3
    · exact hb.cell 4
    · exact hb.cell 5
theorem eTB : ThB eT := by unfold ThB eT; dsimp only; decide
theorem ePB : ∀ x ∈ eP, PoB x := by
  intro x hx
  simp only [eP, List.mem_cons, List.not_mem_nil, or_false] at hx
  rcases hx with rfl | rfl
  · unfold PoB; dsimp only; decide
  · unfold PoB; dsimp only; decide

set_option maxHeartbeats 1000000 in
theorem awake14_is (w : World) (hd : Hd w) : Calls Tryd.prog 8 #[] w fun e w' => e = .returned (.bool true) ∧ Below w.heap.size w w' := by
  have HD := Lib.hid hd
  clear hd
  obtain ⟨w1, hw1⟩ : ∃ w1, w.alloc (.cells #[.int .u8 0, .int .u32 19, .bool true, .int .u8 0, .int .u32 19, .bool false] 68) = w1 := ⟨_, rfl⟩
  have HP : Hid (PortsIn w1 (eC w.heap.size).A w1.heap.size eL) := by rw [← hw1]; exact Lib.hid (e_in w)
  have B1 : Below w.heap.size w w1 := by rw [← hw1]; exact new_below _ _
  have HB1 := Lib.hid B1
  clear B1
  have HN : Hid (Calls Tryd.prog 27 #[.agg #[.int .u64 7, .int .u16 0, .int .i64 20, .int .i64 2, .int .i64 15, .int .i64 300, .int .i64 0, .slice (some ⟨w.heap.size, 0, none⟩) 2 2]] w1 (TOut w1 eT 2 eP)) :=
    Lib.hid (tnew_is (eC w.heap.size) eL (Lib.hid rfl) (Lib.hid (show 2 ≤ 4 by decide)) (Lib.hid (eB w.heap.size)) w1 HP)
  clear HP
  go_enter Tryd.func8, Tryd.ntmps8
  go_wp2_with fail
  (with_reducible refine HN.out.mono ?_); rintro e w2 ⟨D, cap, rfl, hz, T⟩
  have HZ := Lib.hid hz
  clear HN hz
  obtain ⟨g, rfl, -⟩ := T.at (k := 0) (x := (⟨1, 1, 19, 7, 0, 7, 1, false, false, false, 0, false, 0, false, 0⟩ : Po)) rfl
  go_upto_region 2 with (refine wpList_store_row rfl 31 _ _ rfl _ _ rfl rfl _ _ (heap_alloc_new _ _) (by kernel_rfl) (by kernel_rfl) (by kernel_rfl) ?_)
  rw [alloc_row]
  have T1 := T.al rfl 31 (lT eT (some ⟨g, 0, none⟩) 2 cap)
  obtain ⟨G, hG⟩ : ∃ G, w2.heap.size = G := ⟨_, rfl⟩
  rw [hG] at T1 ⊢
  obtain ⟨w3, hw3⟩ : ∃ w3, w2.alloc (.cells (lT eT (some ⟨g, 0, none⟩) 2 cap).toArray 31) = w3 := ⟨_, rfl⟩
  rw [hw3] at T1 ⊢
  clear hw3 T hG
  have HA : Hid (Calls Tryd.prog 12 #[.agg (lT eT (some ⟨g, 0, none⟩) 2 cap).toArray] w3 (AllEnd w3 eT 2 ([⟨1, 1, 19, 7, 0, 7, 1, false, false, false, 0, false, 0, true, 0⟩, ⟨2, 0, 19, 7, 0, 7, 2, false, false, false, 0, false, 0, false, 0⟩], [eO]))) := by
    have := sall_is eT (some ⟨g, 0, none⟩) 2 cap eP (Lib.hid rfl) (by decide) (Lib.hid eTB) (Lib.hid (by unfold eT; dsimp only; decide)) (Lib.hid ePB) HZ w3 (HD.out.below (HB1.out.trans (T1.old.mono HB1.out.size)) (Nat.le_refl _)) (Lib.hid T1.ports)
    rw [eR_is] at this
    exact Lib.hid this
  have hx := T1.hs.bk 0 rfl
  go_wp2_with (with_reducible refine wpList_load_row rfl 31 (.tmp 1) rfl G (by kernel_rfl) _ _ (0, 0) _ hx Tryd.underlying31 rfl (by kernel_rfl) ?_)
  (with_reducible refine HA.out.mono ?_); rintro e w4 ⟨D, cap2, v, rfl, hz2, hP, hO, b4⟩
  have HB4 := Lib.hid (HB1.out.trans ((T1.old.trans (b4.mono T1.old.size)).mono HB1.out.size))
  clear HA hx T1 HZ hz2 b4
  obtain ⟨A, capo, rfl⟩ := hO.shape
  go_upto_region 3 with (refine wpList_store_row rfl 31 _ _ rfl _ _ rfl rfl _ _ (heap_alloc_new _ _) (by kernel_rfl) (by kernel_rfl) (by kernel_rfl) ?_)
  rw [alloc_row]
  have bN := new_below w4 (.cells (lT eT D 2 cap2).toArray 31)
  have S5 := (Hs.nil w4).al rfl 31 (lT eT D 2 cap2)
  have hO5 := hO.below bN
  have hP5 := hP.below bN (Nat.le_refl _)
  have HB5 := Lib.hid (HB4.out.trans (bN.mono HB4.out.size))
  obtain ⟨G2, hG2⟩ : ∃ G, w4.heap.size = G := ⟨_, rfl⟩
  rw [hG2] at S5 hP5 ⊢
  obtain ⟨w5, hw5⟩ : ∃ v, w4.alloc (.cells (lT eT D 2 cap2).toArray 31) = v := ⟨_, rfl⟩
  rw [hw5] at S5 hO5 hP5 HB5 ⊢
  clear hw5 hG2 bN hO hP
  obtain ⟨c, go, hco, rfl, -, hcl, -⟩ := hO5.at (k := 0) rfl
  have o0 : w5.cell? ⟨go, 0, none⟩ = some (.int .i64 0) := by
    have := hcl 0 _ rfl
    rw [hco] at this
    exact this
  have o4 : w5.cell? ⟨go, 1 + 3, none⟩ = some (.slice (some ⟨c.g, 0, none⟩) 38 c.cap) := by
    have := hcl 4 _ rfl
    rw [hco] at this
    exact this
  obtain ⟨ad, rfl, -, -, p0⟩ := hP5.cells (k := 0) rfl
  have p13 : w5.cell? ⟨ad.block, ad.off + 13, none⟩ = some (.bool true) := by
    have := p0 12 _ rfl
    simpa [Addr.add] using this
  have c18 := S5.cell 0 18 rfl rfl
  clear p0 hcl hO5 hP5 S5 hco
  go_wp2_with fail
  (with_reducible refine (limit_is _).mono ?_); rintro e w6 ⟨rfl, rfl⟩
  go_wp2
  go_ret
  exact ⟨rfl, HB5.out⟩

end Go.Proofs.YtcamakkicmapcaaDoor

/- All designated ports tell: port by port; what goes out, in the order of the ports; told again at once. No program. -/
namespace Go.Proofs.YtcamakkicmapcaaDoor
set_option maxRecDepth 100000
open Go.ChangeShapes Go.WideShapes Go.ChangeAt Go.RowKit
set_option linter.unusedVariables false

/-- What becomes of a port, where what is told is of the age a. -/
def stepP (t : Th) (a : Int) (p : Po) : Po := if tellsB t p = true then (if p.ho = true then owingP p else if t.n1 ≤ a then p else sentP p) else p
theorem stepP_av (t : Th) (a : Int) (p : Po) : (stepP t a p).av = p.av := by
  unfold stepP
  split
  · split
    · rfl
    · split <;> rfl
  · rfl
theorem stepP_tells (t : Th) (a : Int) (p : Po) : tellsB t (stepP t a p) = tellsB t p := by
  unfold stepP
  split
  · split
    · rfl
    · split <;> rfl
  · rfl
theorem toldI_av {t : Th} {L L' : List Po} (h : ∀ j : Nat, (L'[j]?).map Po.av = (L[j]?).map Po.av) : toldI t L' = toldI t L := by
  unfold toldI
  split
  · rfl
  · split
    · have e := h t.rp.toNat
      cases h1 : L[t.rp.toNat]? with
      | none => cases h2 : L'[t.rp.toNat]? with
        | none => rfl
        | some y => rw [h1, h2] at e; cases e
      | some x => cases h2 : L'[t.rp.toNat]? with
        | none => rw [h1, h2] at e; cases e
        | some y =>
          rw [h1, h2] at e
          have e' : y.av = x.av := Option.some.inj e
          show olderI y.av = olderI x.av
          rw [e']
    · rfl
theorem mixL_av (t : Th) (a : Int) (k : Nat) (L : List Po) (j : Nat) : ((mixL (fun _ p => stepP t a p) k L)[j]?).map Po.av = (L[j]?).map Po.av := by
  rw [mixL_get]
  cases L[j]? with
  | none => rfl
  | some x =>
    show some _ = some _
    dsimp only
    split
    · rw [stepP_av]
    · rfl
theorem allR_fst (t : Th) (L : List Po) : ∀ k, (allR t L k).1 = mixL (fun _ p => stepP t (toldI t L) p) k L
  | 0 => (mixL_zero _ _).symm
  | k + 1 => by
    have ih := allR_fst t L k
    show (allStep t (allR t L k) k).1 = _
    cases hk : L[k]? with
    | none =>
      have e : (allR t L k).1[k]? = none := by rw [ih, mixL_get, hk]; rfl
      unfold allStep
      rw [e]
      show (allR t L k).1 = _
      rw [ih]
      apply List.ext_getElem?
      intro j
      rw [mixL_get, mixL_get]
      by_cases hj : j = k
      · subst hj; rw [hk]; rfl
      · by_cases hl : j < k
        · simp only [hl, show j < k + 1 by omega]
        · simp only [hl, show ¬ j < k + 1 by omega]
    | some p =>
      have e : (allR t L k).1[k]? = some p := by rw [ih]; exact mixL_at hk
      cases ht : tellsB t p with
      | false =>
        rw [allStep_no e ht, ih]
        exact mixL_same hk (by unfold stepP; rw [ht]; rfl)
      | true =>
        rw [allStep_yes e ht]
        show (confR t (allR t L k).1 k).1 = _
        have ha : toldI t (allR t L k).1 = toldI t L := toldI_av (by rw [ih]; exact mixL_av t _ k L)
        rw [confR_at e, ha]
        by_cases h1 : p.ho = true
        · have hf : stepP t (toldI t L) p = owingP p := by unfold stepP; rw [if_pos ht, if_pos h1]
          rw [if_pos h1, ← mixL_set hk, ih, hf]
        · rw [if_neg h1]
          by_cases h2 : t.n1 ≤ toldI t L
          · have hf : stepP t (toldI t L) p = p := by unfold stepP; rw [if_pos ht, if_neg h1, if_pos h2]
            rw [if_pos h2, ih]
            exact mixL_same hk hf
          · have hf : stepP t (toldI t L) p = sentP p := by unfold stepP; rw [if_pos ht, if_neg h1, if_neg h2]
            rw [if_neg h2, ← mixL_set hk, ih, hf]
theorem allR_told (t : Th) (L : List Po) (k : Nat) : toldI t (allR t L k).1 = toldI t L := toldI_av (by rw [allR_fst]; exact mixL_av t _ k L)
/-- What goes out. -/
theorem allR_mem (t : Th) (L : List Po) : ∀ k o, o ∈ (allR t L k).2 → ∃ (j : Nat) (p : Po), j < k ∧ L[j]? = some p ∧ tellsB t p = true ∧ p.ho = false ∧ ¬ t.n1 ≤ toldI t L ∧ o = ⟨j, t.ow % 281474976710656, confQ t (toldI t L) p⟩
  | 0, o, h => by cases h
  | k + 1, o, h => by
    have ih := allR_mem t L k o
    have up : o ∈ (allR t L k).2 → ∃ (j : Nat) (p : Po), j < k + 1 ∧ L[j]? = some p ∧ tellsB t p = true ∧ p.ho = false ∧ ¬ t.n1 ≤ toldI t L ∧ o = ⟨j, t.ow % 281474976710656, confQ t (toldI t L) p⟩ := fun q => by
      obtain ⟨j, p, h1, h2⟩ := ih q
      exact ⟨j, p, by omega, h2⟩
    change o ∈ (allStep t (allR t L k) k).2 at h
    cases hk : L[k]? with
    | none =>
      have e : (allR t L k).1[k]? = none := by rw [allR_fst, mixL_get, hk]; rfl
      unfold allStep at h
      rw [e] at h
      exact up h
    | some p =>
      have e : (allR t L k).1[k]? = some p := by rw [allR_fst]; exact mixL_at hk
      cases ht : tellsB t p with
      | false => rw [allStep_no e ht] at h; exact up h
      | true =>
        rw [allStep_yes e ht] at h
        rcases List.mem_append.1 h with q | q
        · exact up q
        · rw [confR_at e, allR_told] at q
          by_cases h1 : p.ho = true
          · rw [if_pos h1] at q; cases q
          · rw [if_neg h1] at q
            by_cases h2 : t.n1 ≤ toldI t L
            · rw [if_pos h2] at q; cases q
            · rw [if_neg h2] at q
              obtain rfl := List.mem_singleton.1 q
              exact ⟨k, p, Nat.lt_succ_self _, hk, ht, by simpa using h1, h2, rfl⟩
/-- One behind the other. -/
theorem allR_rise (t : Th) (L : List Po) : ∀ k, List.Pairwise (fun a b : Ou => a.i < b.i) (allR t L k).2
  | 0 => List.Pairwise.nil
  | k + 1 => by
    have ih := allR_rise t L k
    show List.Pairwise _ (allStep t (allR t L k) k).2
    cases hk : L[k]? with
    | none =>
      have e : (allR t L k).1[k]? = none := by rw [allR_fst, mixL_get, hk]; rfl
      unfold allStep
      rw [e]
      exact ih
    | some p =>
      have e : (allR t L k).1[k]? = some p := by rw [allR_fst]; exact mixL_at hk
      cases ht : tellsB t p with
      | false => rw [allStep_no e ht]; exact ih
      | true =>
        rw [allStep_yes e ht]
        refine List.pairwise_append.2 ⟨ih, ?_, fun a ha b hb => ?_⟩
        · rw [confR_at e]
          split
          · exact List.Pairwise.nil
          · split
            · exact List.Pairwise.nil
            · exact List.pairwise_singleton _ _
        · obtain ⟨j, q, h1, -, -, -, -, rfl⟩ := allR_mem t L k a ha
          rw [confR_at e] at hb
          split at hb
          · cases hb
          · split at hb
            · cases hb
            · obtain rfl := List.mem_singleton.1 hb
              show (j : Int) < (k : Int)
              omega
theorem allR_before {t : Th} {L : List Po} {k i : Nat} {o o' : Ou} (h : (allR t L k).2[i]? = some o) (h' : (allR t L k).2[i + 1]? = some o') : o.i < o'.i := by
  have hp := allR_rise t L k
  have h1 := (List.getElem?_eq_some_iff.1 h)
  have h2 := (List.getElem?_eq_some_iff.1 h')
  obtain ⟨b1, e1⟩ := h1
  obtain ⟨b2, e2⟩ := h2
  have := List.pairwise_iff_getElem.1 hp i (i + 1) b1 b2 (by omega)
  rw [e1, e2] at this
  exact this
/-- Told again at once: nothing. -/
theorem once_none (t : Th) (L : List Po) (n : Nat) (hn : L.length = n) : (allR t (allR t L n).1 n).2 = [] := by
  cases h : (allR t (allR t L n).1 n).2 with
  | nil => rfl
  | cons o r =>
    obtain ⟨j, p, hj, hp, ht, hh, hq, -⟩ := allR_mem t (allR t L n).1 n o (by rw [h]; exact List.mem_cons_self ..)
    rw [allR_told] at hq
    rw [allR_fst, mixL_get] at hp
    cases hx : L[j]? with
    | none => rw [hx] at hp; cases hp
    | some x =>
      rw [hx] at hp
      have e : stepP t (toldI t L) x = p := by
        have := Option.some.inj hp
        simpa [hj] using this
      rw [← e, stepP_tells] at ht
      rw [← e] at hh
      unfold stepP at hh
      rw [if_pos ht] at hh
      by_cases h1 : x.ho = true
      · rw [if_pos h1] at hh
        have : x.ho = false := hh
        rw [h1] at this; cases this
      · rw [if_neg h1, if_neg hq] at hh
        cases hh
/-- Each owes it then. -/
theorem once_owes {t : Th} {L : List Po} {n : Nat} (hn : L.length = n) {o : Ou} (ho : o ∈ (allR t L n).2) : ∃ (j : Nat) (x : Po), o.i = j ∧ j < n ∧ (allR t (allR t L n).1 n).1[j]? = some x ∧ x.pe = true ∧ x.ho = true := by
  obtain ⟨j, p, hj, hp, ht, hh, hq, rfl⟩ := allR_mem t L n o ho
  refine ⟨j, owingP (sentP p), rfl, hj, ?_, rfl, rfl⟩
  have h1 : stepP t (toldI t L) p = sentP p := by unfold stepP; rw [if_pos ht, if_neg (by rw [hh]; decide), if_neg hq]
  have h2 : stepP t (toldI t L) (sentP p) = owingP (sentP p) := by
    unfold stepP
    rw [if_pos (show tellsB t (sentP p) = true from ht), if_pos (show (sentP p).ho = true from rfl)]
  rw [allR_fst, allR_told, mixL_get, allR_fst, mixL_get, hp]
  simp only [Option.map_some, hj, if_true, h1, h2]

end Go.Proofs.YtcamakkicmapcaaDoor

/- The document's Fit: what it tells if it says yes. -/
namespace Go.Proofs.YtcamakkicmapcaaDoor
set_option maxRecDepth 100000
open Go.ChangeShapes Go.WideShapes Go.ChangeAt Go.RowKit
set_option linter.unusedVariables false

/-- What fits, and Fit, hand out. -/
def FitsEnd (w : World) (e : Ending) (w' : World) : Prop := ∃ q : Bool, e = .returned (.bool q) ∧ Below w.heap.size w w'
def FitEnd (w : World) (n : Nat) (L : List Po) (e : Ending) (w' : World) : Prop := ∃ q : Bool, e = .returned (.bool q) ∧ (q = true → n ≤ 12 ∧ Unlike L) ∧ Below w.heap.size w w'

theorem fits_tm (o : Bool) (v : Int) (w : World) :
    Calls Tryd.prog 29 #[.agg #[.bool o, .int .i64 v]] w (FitsEnd w) := by
  by_cases h0 : v < 0
  · go_enter Tryd.func29, Tryd.ntmps29
    go_wp2
    go_ret
    exact ⟨_, rfl, (Below.refl _ _).alloc (Nat.le_refl _) _⟩
  by_cases h1 : 1073741824 < v
  · go_enter Tryd.func29, Tryd.ntmps29
    go_wp2
    go_ret
    exact ⟨_, rfl, (Below.refl _ _).alloc (Nat.le_refl _) _⟩
  cases o with
  | true =>
    go_enter Tryd.func29, Tryd.ntmps29
    go_wp2
    go_ret
    exact ⟨_, rfl, (Below.refl _ _).alloc (Nat.le_refl _) _⟩
  | false =>
    go_enter Tryd.func29, Tryd.ntmps29
    go_wp2
    go_ret
    exact ⟨_, rfl, (Below.refl _ _).alloc (Nat.le_refl _) _⟩

/-- The first i ports have unlike numbers. -/
def UnlikeTo (L : List Po) (i : Nat) : Prop := ∀ (a b : Nat) (p q : Po), a < i → b < a → L[a]? = some p → L[b]? = some q → p.id ≠ q.id
theorem unlike_of {L : List Po} {n : Nat} (hL : L.length = n) (h : UnlikeTo L n) : Unlike L := by
  intro i j p q hi hj e
  have h1 := po_lt hi
  have h2 := po_lt hj
  rcases Nat.lt_or_ge j i with k | k
  · exact h i j p q (by omega) k hi hj
  · exact fun e' => h j i q p (by omega) (by omega) hj hi e'.symm
theorem unlike_step {L : List Po} {i : Nat} {x : Po} (h : UnlikeTo L i) (hx : L[i]? = some x) (hi : ∀ (b : Nat) (q : Po), b < i → L[b]? = some q → q.id ≠ x.id) : UnlikeTo L (i + 1) := by
  intro a b p q ha hb hp hq
  by_cases e : a = i
  · subst e
    rw [hx] at hp
    cases hp
    exact fun e' => hi b q hb hq e'.symm
  · exact h a b p q (by omega) hb hp hq

set_option maxRecDepth 100000 in
set_option maxHeartbeats 2000000 in
theorem fit_is (t : Th) (A : Option Addr) (n cap : Nat) (L : List Po) (hL : Hid (L.length = n)) (hn : n ≤ 9223372036854775807) (w : World) (hp : Hid (PoAt w A w.heap.size L)) :
    Calls Tryd.prog 9 #[.agg (lT t A n cap).toArray] w (FitEnd w n L) := by
  obtain ⟨wb, hwb, S⟩ := hs_one w 31 (lT t A n cap)
  go_enter Tryd.func9, Tryd.ntmps9
  go_upto_region 1 with fail
  clear hwb
  obtain ⟨X, hX⟩ : ∃ X, w.heap.size = X := ⟨_, rfl⟩
  rw [hX] at S
  rw [hX]
  have HX := Lib.hid hX
  clear hX
  have c18 := S.cell 0 18 rfl rfl
  by_cases h12 : 12 < n
  · have h12' : (12 : Int) < (n : Int) := by omega
    go_wp2
    go_ret
    exact ⟨false, rfl, (fun e => by cases e), HX.out ▸ S.old⟩
  have h12' : ¬ (12 : Int) < (n : Int) := by omega
  have HN := Lib.hid (show n ≤ 12 by omega)
  clear h12 hn
  have c12 := S.cell 0 12 rfl rfl
  have c13 := S.cell 0 13 rfl rfl
  go_wp2_with fail
  (with_reducible refine (fits_tm _ _ _).mono ?_); rintro e w1 ⟨q1, rfl, b1⟩
  have S1 := S.below b1
  clear S b1 c18 c12 c13
  cases q1 with
  | false =>
    go_wp2
    go_ret
    exact ⟨false, rfl, (fun e => by cases e), HX.out ▸ S1.old⟩
  | true =>
  have c14 := S1.cell 0 14 rfl rfl
  have c15 := S1.cell 0 15 rfl rfl
  go_wp2_with fail
  (with_reducible refine (fits_tm _ _ _).mono ?_); rintro e w2 ⟨q2, rfl, b2⟩
  have S2 := S1.below b2
  clear S1 b2 c14 c15
  cases q2 with
  | false =>
    go_wp2
    go_ret
    exact ⟨false, rfl, (fun e => by cases e), HX.out ▸ S2.old⟩
  | true =>
  have c16 := S2.cell 0 16 rfl rfl
  have c17 := S2.cell 0 17 rfl rfl
  go_wp2_with fail
  (with_reducible refine (fits_tm _ _ _).mono ?_); rintro e w3 ⟨q3, rfl, b3⟩
  have S3 := S2.below b3
  clear S2 b3 c16 c17
  cases q3 with
  | false =>
    go_wp2
    go_ret
    exact ⟨false, rfl, (fun e => by cases e), HX.out ▸ S3.old⟩
  | true =>
  clear h12'
  go_wp2
  go_loopw [3] (fun i wr => ∃ k : Nat, k ≤ n ∧ i = .int .i64 k ∧ Hid (UnlikeTo L k) ∧ Hs w [(X, 31, lT t A n cap)] wr) (fun i _ => n - (intOf i).toNat)
  case atStart => exact ⟨0, Nat.zero_le _, rfl, Lib.hid (fun a b p q h => by omega), S3⟩
  case round =>
    clear S3
    obtain ⟨k, hk, rfl, hu, S⟩ := hrel
    have x18 := S.cell 0 18 rfl rfl
    by_cases hkn : k < n
    · obtain ⟨x, hx⟩ := po_at hL.out hkn
      have hki : (k : Int) < (n : Int) := by omega
      have hkz : ¬ (n : Int) ≤ (k : Int) := by omega
      have HP := Lib.hid ((hp.out.below S.old (Nat.le_refl _)).wide S.old.size)
      obtain ⟨ad, hA, hab, h0, h1⟩ := HP.out.cells hx
      have HX2 := Lib.hid hx
      have HA := Lib.hid hA
      have k9 : wr.cell? ⟨(ad.add (k * 15)).block, (ad.add (k * 15)).off + 9, none⟩ = some (.bool x.ao) := h1 8 _ rfl
      have k10 : wr.cell? ⟨(ad.add (k * 15)).block, (ad.add (k * 15)).off + 9 + 1, none⟩ = some (.int .i64 x.av) := h1 9 _ rfl
      have k11 : wr.cell? ⟨(ad.add (k * 15)).block, (ad.add (k * 15)).off + 11, none⟩ = some (.bool x.yo) := h1 10 _ rfl
      have k12 : wr.cell? ⟨(ad.add (k * 15)).block, (ad.add (k * 15)).off + 11 + 1, none⟩ = some (.int .i64 x.yv) := h1 11 _ rfl
      have k13 : wr.cell? ⟨(ad.add (k * 15)).block, (ad.add (k * 15)).off + 13, none⟩ = some (.bool x.ho) := h1 12 _ rfl
      have k14 : wr.cell? ⟨(ad.add (k * 15)).block, (ad.add (k * 15)).off + 13 + 1, none⟩ = some (.int .i64 x.hv) := h1 13 _ rfl
      rw [hA] at x18
      clear hx h0 h1
      go_wp2_with fail
      (with_reducible refine (fits_tm _ _ _).mono ?_); rintro e v1 ⟨q1, rfl, b1⟩
      have T1 := S.below b1
      have j11 : v1.cell? ⟨(ad.add (k * 15)).block, (ad.add (k * 15)).off + 11, none⟩ = some (.bool x.yo) := (b1.cell (by rw [Go.Proofs.YtcamakkicmapcaaDoor.add_block]; exact Nat.lt_of_lt_of_le hab (Nat.le_refl _))).trans k11
      have j12 : v1.cell? ⟨(ad.add (k * 15)).block, (ad.add (k * 15)).off + 11 + 1, none⟩ = some (.int .i64 x.yv) := (b1.cell (by rw [Go.Proofs.YtcamakkicmapcaaDoor.add_block]; exact hab)).trans k12
      have j13 : v1.cell? ⟨(ad.add (k * 15)).block, (ad.add (k * 15)).off + 13, none⟩ = some (.bool x.ho) := (b1.cell (by rw [Go.Proofs.YtcamakkicmapcaaDoor.add_block]; exact hab)).trans k13
      have j14 : v1.cell? ⟨(ad.add (k * 15)).block, (ad.add (k * 15)).off + 13 + 1, none⟩ = some (.int .i64 x.hv) := (b1.cell (by rw [Go.Proofs.YtcamakkicmapcaaDoor.add_block]; exact hab)).trans k14
      have hab1 := Nat.lt_of_lt_of_le hab b1.size
      clear k9 k10 k11 k12 k13 k14 x18 S b1 hab
      cases q1 with
      | false =>
        go_wp2
        go_ret
        exact ⟨false, rfl, (fun e => by cases e), HX.out ▸ T1.old⟩
      | true =>
      have x18 := T1.cell 0 18 rfl rfl
      rw [HA.out] at x18
      go_wp2_with fail
      (with_reducible refine (fits_tm _ _ _).mono ?_); rintro e v2 ⟨q2, rfl, b2⟩
      have T2 := T1.below b2
      have i13 : v2.cell? ⟨(ad.add (k * 15)).block, (ad.add (k * 15)).off + 13, none⟩ = some (.bool x.ho) := (b2.cell (by rw [Go.Proofs.YtcamakkicmapcaaDoor.add_block]; exact hab1)).trans j13
      have i14 : v2.cell? ⟨(ad.add (k * 15)).block, (ad.add (k * 15)).off + 13 + 1, none⟩ = some (.int .i64 x.hv) := (b2.cell (by rw [Go.Proofs.YtcamakkicmapcaaDoor.add_block]; exact hab1)).trans j14
      clear j11 j12 j13 j14 x18 T1 b2 hab1
      cases q2 with
      | false =>
        go_wp2
        go_ret
        exact ⟨false, rfl, (fun e => by cases e), HX.out ▸ T2.old⟩
      | true =>
      have x18 := T2.cell 0 18 rfl rfl
      rw [HA.out] at x18
      go_wp2_with fail
      (with_reducible refine (fits_tm _ _ _).mono ?_); rintro e v3 ⟨q3, rfl, b3⟩
      have T3 := T2.below b3
      clear i13 i14 x18 T2 b3 HP
      cases q3 with
      | false =>
        go_wp2
        go_ret
        exact ⟨false, rfl, (fun e => by cases e), HX.out ▸ T3.old⟩
      | true =>
      go_wp2
      clear hki hkz
      go_loopw [4] (fun i wr => ∃ j : Nat, j ≤ k ∧ i = .int .i64 j ∧ Hid (∀ (b : Nat) (q : Po), b < j → L[b]? = some q → q.id ≠ x.id) ∧ Hs w [(X, 31, lT t A n cap)] wr) (fun i _ => k - (intOf i).toNat)
      case atStart => exact ⟨0, Nat.zero_le _, rfl, Lib.hid (fun b q h => by omega), T3⟩
      case round =>
        clear T3
        obtain ⟨j, hj, rfl, hs, S⟩ := hrel
        by_cases hjk : j < k
        · have hji : (j : Int) < (k : Int) := by omega
          have hjn : (j : Int) < (n : Int) := by omega
          have hjz : ¬ (n : Int) ≤ (j : Int) := by omega
          have hkn' : (k : Int) < (n : Int) := by omega
          have hkz : ¬ (n : Int) ≤ (k : Int) := by omega
          obtain ⟨y, hy⟩ := po_at hL.out (show j < n by omega)
          have HY := Lib.hid hy
          have HP := Lib.hid ((hp.out.below S.old (Nat.le_refl _)).wide S.old.size)
          obtain ⟨a1, e1, hab, h0, -⟩ := HP.out.cells HX2.out
          obtain rfl : ad = a1 := Option.some.inj (HA.out.symm.trans e1)
          obtain ⟨a2, e2, -, g0, -⟩ := HP.out.cells hy
          obtain rfl : ad = a2 := Option.some.inj (HA.out.symm.trans e2)
          have x18 := S.cell 0 18 rfl rfl
          rw [HA.out] at x18
          obtain ⟨p, hp1⟩ : ∃ p, (y.id == x.id) = p := ⟨_, rfl⟩
          have HPP := Lib.hid hp1
          clear hy e1 e2
          cases p with
          | true =>
            go_upto_region 11 with fail
            go_quiet (fail)
            go_wp2
            go_ret
            exact ⟨false, rfl, (fun e => by cases e), HX.out ▸ (S.old.trans ⟨rfl, rfl, rfl, Nat.le_refl _, fun _ _ => rfl⟩ : Below w.heap.size w (wr.drewN nq))⟩
          | false =>
            go_upto_region 11 with fail
            go_quiet (fail)
            have S4 := S.below (show Below wr.heap.size wr (wr.drewN nq) from ⟨rfl, rfl, rfl, Nat.le_refl _, fun _ _ => rfl⟩)
            generalize wr.drewN nq = w4 at S4 ⊢
            clear S h0 g0 x18 HP
            have hN := HN.out
            go_wp2
            exact ⟨⟨j + 1, hjk, by go_num, Lib.hid (fun b q hb hq => by
              by_cases e : b = j
              · subst e
                rw [HY.out] at hq
                cases hq
                simpa using HPP.out
              · exact hs.out b q (by omega) hq), S4⟩, by simp [intOf]; omega⟩
        · have hjz : ¬ (j : Int) < (k : Int) := by omega
          have hje : j = k := by omega
          have hN := HN.out
          go_wp2
          rw [← HA.out]
          go_roundw
          case rel => exact ⟨k + 1, by omega, by go_num, Lib.hid (unlike_step hu.out HX2.out (fun b q hb hq => hs.out b q (by omega) hq)), S⟩
          case measure => simp [intOf]; omega
    · have hkz : ¬ (k : Int) < (n : Int) := by omega
      have hke : k = n := by omega
      go_wp2
      go_ret
      exact ⟨true, rfl, (fun _ => ⟨HN.out, unlike_of hL.out (hke ▸ hu.out)⟩), HX.out ▸ S.old⟩

end Go.Proofs.YtcamakkicmapcaaDoor
