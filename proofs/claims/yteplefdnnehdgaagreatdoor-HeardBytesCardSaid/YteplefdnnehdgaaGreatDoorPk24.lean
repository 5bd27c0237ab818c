/- Several texts in one, one behind the other: SendRefAll. -/
import Derived.Test.YteplefdnnehdgaaGreatDoorPk09
import Derived.Test.YteplefdnnehdgaaGreatDoorPk23
import Derived.Test.YteplefdnnehdgaaGreatDoorPk02
import Derived.Deep.DeepCutAuto
import Derived.LoopTactic

/- The document's All: contract. -/
namespace Go.Proofs.YteplefdnnehdgaaGreatDoor
set_option maxRecDepth 100000
open Go.ChangeShapes Go.WideShapes Go.ChangeAt Go.RowKit
set_option linter.unusedVariables false
set_option linter.unusedSimpArgs false

/-- Ports handed in, while a box of the call's own changes, or Outs grow. -/
theorem PoAt.rowB {w : World} {B g : Nat} {D : Option Addr} {L : List Po} {cs : Array Value} (q : PoAt w D B L) (hg : B ≤ g) : PoAt (w.setRow g cs) D B L := fun k x hx => by
  obtain ⟨ad, e, hB, hc⟩ := q k x hx
  refine ⟨ad, e, hB, fun i v hv => ?_⟩
  rw [← hc i v hv]
  exact World.cell?_of_block (setRow_other w g _ _ (by rw [Go.Proofs.YteplefdnnehdgaaGreatDoor.add_block, Go.Proofs.YteplefdnnehdgaaGreatDoor.add_block]; omega))
theorem PoAt.grownO {w w' : World} {B base n : Nat} {D : Option Addr} {L : List Po} {v : Value} {xs : List Value} (q : PoAt w D B L) (hown : w.ownsRow base 60 5 v n xs) (hB : B ≤ base) (hs : B ≤ w.heap.size) (gr : w.grownBy w' v.ownBlock) : PoAt w' D B L := fun k x hx => by
  obtain ⟨ad, e, hb, hc⟩ := q k x hx
  refine ⟨ad, e, hb, fun i u hu => ?_⟩
  rw [← hc i u hu]
  refine World.cell?_of_block (gr.block _ (by rw [Go.Proofs.YteplefdnnehdgaaGreatDoor.add_block, Go.Proofs.YteplefdnnehdgaaGreatDoor.add_block]; omega) ?_)
  rw [Go.Proofs.YteplefdnnehdgaaGreatDoor.add_block, Go.Proofs.YteplefdnnehdgaaGreatDoor.add_block]
  intro e'
  have := (World.ownsRow.lt hown _ e'.symm).1
  omega
theorem RowT.grownO {w w' : World} {base n : Nat} {D : Option Addr} {L : List Po} {v : Value} {xs : List Value} (q : RowT w D L) (hown : w.ownsRow base 60 5 v n xs) (gr : w.grownBy w' v.ownBlock) : RowT w' D L :=
  q.imp id (fun ⟨g, r, e, k⟩ => ⟨g, r, e, by
    have hne : some g ≠ v.ownBlock := by
      intro e'
      rcases hown.2 with ⟨rfl, _⟩ | ⟨g', cap, cur, rfl, _, hh, _⟩
      · cases e'
      · have e'' : g = g' := Option.some.inj e'
        subst e''
        unfold Bk at k
        rw [k] at hh
        injection hh with q
        injection q with _ q
        cases q
    exact (gr.block g k.lt hne).trans k⟩)
/-- A view's ports: those handed in, or a row of the call's own. -/
def PV2 (A : Option Addr) (L0 : List Po) (w : World) (B : Nat) (D : Option Addr) (L : List Po) : Prop := (PoAt w D B L ∧ D = A ∧ L = L0) ∨ RowT w D L
section
variable {A : Option Addr} {L0 : List Po}
theorem PV2.ports {w : World} {B : Nat} {D : Option Addr} {L : List Po} (h : PV2 A L0 w B D L) (hB : B ≤ w.heap.size) : PoAt w D w.heap.size L := h.elim (fun q => q.1.wide hB) (fun q => q.ports)
theorem PV2.below {w w' : World} {B : Nat} {D : Option Addr} {L : List Po} (h : PV2 A L0 w B D L) (b : Below w.heap.size w w') (hB : B ≤ w.heap.size) : PV2 A L0 w' B D L := h.imp (fun q => ⟨q.1.below b hB, q.2⟩) (fun q => q.below b)
theorem PV2.row {w : World} {B g : Nat} {D : Option Addr} {L : List Po} {cs cs' : List Value} (h : PV2 A L0 w B D L) (hb : Bk w g 31 cs') (hg : B ≤ g) : PV2 A L0 (w.setRow g cs.toArray) B D L :=
  h.imp (fun q => ⟨q.1.rowB hg, q.2⟩) (fun q => q.row hb)
theorem PV2.grown {w w' : World} {B base n : Nat} {D : Option Addr} {L : List Po} {v : Value} {xs : List Value} (h : PV2 A L0 w B D L) (hown : w.ownsRow base 60 5 v n xs) (hB : B ≤ base) (hs : B ≤ w.heap.size) (gr : w.grownBy w' v.ownBlock) : PV2 A L0 w' B D L :=
  h.imp (fun q => ⟨q.1.grownO hown hB hs gr, q.2⟩) (fun q => q.grownO hown gr)
theorem PV2.same {w : World} {B : Nat} {D : Option Addr} {L : List Po} (h : PV2 A L0 w B D L) : (D = A ∧ L = L0) ∨ RowT w D L := h.imp (fun q => q.2) id
end
/-- What telling all hands out: the ports as they were handed in, or a row of the call's own. -/
def AllEnd2 (w : World) (t : Th) (A : Option Addr) (n : Nat) (L : List Po) (R : List Po × List Ou) (e : Ending) (w' : World) : Prop :=
  ∃ D cap v, e = .returned (.tuple #[.agg (lT t D n cap).toArray, v]) ∧ (D = none → cap = 0) ∧ ((D = A ∧ R.1 = L) ∨ RowT w' D R.1) ∧ OutsR w' w.heap.size v R.2 ∧ Below w.heap.size w w'

set_option maxHeartbeats 4000000 in
theorem rall2_is (t : Th) (A : Option Addr) (n cap : Nat) (L : List Po) (hL : Hid (L.length = n)) (hf : n ≤ 200) (ht : Hid (ThB t)) (hn : Hid (-9223372036854775808 ≤ t.n1 ∧ t.n1 ≤ 9223372036854775807 ∧ -9223372036854775808 ≤ t.n2 ∧ t.n2 ≤ 9223372036854775807 ∧ -9223372036854775808 ≤ t.n3 ∧ t.n3 ≤ 9223372036854775807)) (hb : Hid (∀ x ∈ L, PoB x)) (hc : Hid (A = none → cap = 0)) (w : World) (hp : Hid (PoAt w A w.heap.size L)) :
    Calls Tryz.prog 44 #[.agg (lT t A n cap).toArray] w (AllEnd2 w t A n L (allR t L n)) := by
  obtain ⟨wb, hwb, S⟩ := hs_two w 31 31 (lT t A n cap) [.int .u64 0, .int .u64 0, .int .u32 0, .int .i64 0, .int .i64 0, .int .i64 0, .int .i64 0, .int .i64 0, .int .i64 0, .int .i64 0, .bool false, .bool false, .bool false, .int .i64 0, .bool false, .int .i64 0, .bool false, .int .i64 0, .slice none 0 0]
  go_enter Tryz.func44, Tryz.ntmps44
  go_upto_region 1 with fail
  clear hwb
  obtain ⟨X, hX⟩ : ∃ X, w.heap.size = X := ⟨_, rfl⟩
  rw [hX] at S
  obtain ⟨Y, hY⟩ : ∃ Y, X + 1 = Y := ⟨_, rfl⟩
  rw [hY] at S
  rw [hX]
  rw [hY]
  have HXX := Lib.hid hX
  clear hX hY
  obtain ⟨base, hbs⟩ : ∃ b, wb.heap.size = b := ⟨_, rfl⟩
  have hlow : ∀ cs ds : List Value, ∀ y ∈ ([(Y, 31, cs), (X, 31, ds)] : List (Nat × TypeId × List Value)), y.1 < base := fun cs ds => by
    rw [← hbs]
    exact List.forall_mem_cons.2 ⟨S.lt 0 rfl, List.forall_mem_cons.2 ⟨S.lt 1 rfl, fun y hy => by cases hy⟩⟩
  have HLOW := Lib.hid hlow
  have hwbase : w.heap.size ≤ base := by rw [← hbs]; exact S.old.size
  have HWB := Lib.hid hwbase
  have P0 : PV2 A L wb w.heap.size A L := .inl ⟨hp.out.below S.old (Nat.le_refl _), rfl, rfl⟩
  have hbw : base ≤ wb.heap.size := Nat.le_of_eq hbs.symm
  clear hlow hwbase hbs
  go_wp2
  go_loopw [4, 5] (fun v i wr => ∃ (k : Nat) (D : Option Addr) (cap' : Nat), k ≤ n ∧ i = .int .i64 k ∧ Hid (D = none → cap' = 0) ∧ Hs w [(Y, 31, [.int .u64 0, .int .u64 0, .int .u32 0, .int .i64 0, .int .i64 0, .int .i64 0, .int .i64 0, .int .i64 0, .int .i64 0, .int .i64 0, .bool false, .bool false, .bool false, .int .i64 0, .bool false, .int .i64 0, .bool false, .int .i64 0, .slice none 0 0]), (X, 31, lT t D n cap')] wr ∧ base ≤ wr.heap.size ∧ Hid (PV2 A L wr w.heap.size D (allR t L k).1) ∧ Hid (OutsR wr base v (allR t L k).2)) (fun v i _ => n - (intOf i).toNat)
  case atStart => exact ⟨0, A, cap, Nat.zero_le _, rfl, hc, S, hbw, Lib.hid P0, Lib.hid (OutsR.nil _ _)⟩
  case round =>
    clear S P0 hbw
    obtain ⟨k, D, cap', hk, rfl, HZ, S, hbw, HPV, HO⟩ := hrel
    have c18 := S.cell 1 18 rfl rfl
    have HBD := Lib.hid (allR_bd (t := t) hb.out k)
    have HLN := Lib.hid (show (allR t L k).1.length = n by rw [HBD.out.1, hL.out])
    by_cases hkn : k < n
    · have hki : (k : Int) < (n : Int) := by omega
      have hkz : ¬ (n : Int) ≤ (k : Int) := by omega
      obtain ⟨x, hx⟩ := po_at HLN.out hkn
      have HX := Lib.hid hx
      have HPA := Lib.hid (HPV.out.ports (Nat.le_trans HWB.out hbw))
      obtain ⟨ad, rfl, -⟩ := HPA.out.cells hx
      clear hx
      obtain ⟨b1, hb1⟩ : ∃ b, (x.hb == t.ow) = b := ⟨_, rfl⟩
      obtain ⟨b2, hb2⟩ : ∃ b, (x.hp == x.id) = b := ⟨_, rfl⟩
      obtain ⟨b3, hb3⟩ : ∃ b, (x.st != 0) = b := ⟨_, rfl⟩
      have HTL := Lib.hid (show tellsB t x = (b1 && (b2 && b3)) by rw [← hb1, ← hb2, ← hb3]; unfold tellsB; congr 1)
      go_upto_region 5 with fail
      clear c18
      go_cut [49] (fun u wx => u = .bool (b1 && (b2 && b3)) ∧ Below wr.heap.size wr wx)
      case first =>
        have c18 : ∀ q : LaterW wr, q.w'.cell? ⟨X, 18, none⟩ = some (.slice (some ad) n cap') := fun q => (S.below q.h).cell 1 18 rfl rfl
        have c0 := fun q : LaterW wr => (S.below q.h).cell 1 0 rfl rfl
        have hpc := fun q : LaterW wr => (HPA.out.below q.h (Nat.le_refl _)).cells HX.out
        have p0 : ∀ q : LaterW wr, q.w'.cell? (ad.add (k * 15)) = some (.int .u16 x.id) := fun q => by obtain ⟨a', e, -, h0, -⟩ := hpc q; obtain rfl : ad = a' := Option.some.inj e; exact h0
        have p1 : ∀ q : LaterW wr, q.w'.cell? ⟨(ad.add (k * 15)).block, (ad.add (k * 15)).off + 1, none⟩ = some (.int .i64 x.st) := fun q => by obtain ⟨a', e, -, -, h1⟩ := hpc q; obtain rfl : ad = a' := Option.some.inj e; exact h1 0 _ rfl
        have p5 : ∀ q : LaterW wr, q.w'.cell? ⟨(ad.add (k * 15)).block, (ad.add (k * 15)).off + 3 + 2, none⟩ = some (.int .u64 x.hb) := fun q => by obtain ⟨a', e, -, -, h1⟩ := hpc q; obtain rfl : ad = a' := Option.some.inj e; exact h1 4 _ rfl
        have p6 : ∀ q : LaterW wr, q.w'.cell? ⟨(ad.add (k * 15)).block, (ad.add (k * 15)).off + 3 + 3, none⟩ = some (.int .u16 x.hp) := fun q => by obtain ⟨a', e, -, -, h1⟩ := hpc q; obtain rfl : ad = a' := Option.some.inj e; exact h1 5 _ rfl
        clear hpc
        cases b1
        all_goals cases b2
        all_goals cases b3
        all_goals
          refine region_later mixedL (by kernel_rfl) ?_
          repeat (go_big_quiet_step (fail))
          refine wpQuiet_nil ?_
          intro v hv
          obtain ⟨r, rfl⟩ := hv
          go_wp2_with fail
          go_meet
          exact ⟨rfl, r.h⟩
      case rest =>
        clear hb1 hb2 hb3
        obtain ⟨rfl, B1⟩ := hcut
        have S1 := S.below B1
        have HPV1 := Lib.hid (HPV.out.below B1 (Nat.le_trans HWB.out hbw))
        have HO1 := Lib.hid (HO.out.below B1)
        have hbw1 : base ≤ wc.heap.size := Nat.le_trans hbw B1.size
        clear S HPV HO HPA hbw B1
        obtain ⟨tl, htl⟩ : ∃ b, (b1 && (b2 && b3)) = b := ⟨_, rfl⟩
        rw [htl] at HTL ⊢
        clear htl
        cases tl with
        | false =>
          go_wp2
          go_roundw
          case rel => exact ⟨k + 1, some ad, cap', by omega, by go_num, HZ, S1, hbw1, Lib.hid (by rw [allR, allStep_no HX.out HTL.out]; exact HPV1.out), Lib.hid (by rw [allR, allStep_no HX.out HTL.out]; exact HO1.out)⟩
          case measure => simp [intOf]; omega
        | true =>
          go_upto_region 6 with fail
          have HCF := Lib.hid (rconf_is t (some ad) n cap' (allR t L k).1 k HLN hf ht hn (Lib.hid HBD.out.2.2) (by omega) HZ wc (Lib.hid (HPV1.out.ports (Nat.le_trans HWB.out hbw1))))
          have hx := S1.bk 1 rfl
          go_wp2_with (with_reducible refine wpList_load_row rfl 31 (.tmp 1) rfl X (by kernel_rfl) _ _ (0, 0) _ hx Tryz.underlying31 rfl (by kernel_rfl) ?_)
          (with_reducible refine HCF.out.mono ?_); rintro e w2 ⟨D2, cap2, v2, rfl, hz2, k2, hO2⟩
          have S2 := S1.below k2.old
          have HOa := HO1.out.below k2.old
          have RT2 := k2.rowT
          have hbw2 : base ≤ w2.heap.size := Nat.le_trans hbw1 k2.old.size
          have HZ2 := Lib.hid hz2
          clear S1 hx HCF HPV1 HO1 k2 hz2
          go_upto_region 7 with (refine wpList_store_row rfl 31 _ _ rfl _ _ rfl rfl _ _ (heap_alloc_new _ _) (by kernel_rfl) (by kernel_rfl) (by kernel_rfl) ?_)
          rw [alloc_row]
          have hB := new_below w2 (.cells (lT t D2 n cap2).toArray 31)
          have S3 := S2.al rfl 31 (lT t D2 n cap2)
          have RT3 := RT2.below hB
          have HOb := HOa.below hB
          have hO3 := hO2.below hB
          have hbw3 := Nat.le_trans hbw2 hB.size
          obtain ⟨Z, hZ⟩ : ∃ Z, w2.heap.size = Z := ⟨_, rfl⟩
          rw [hZ] at S3 ⊢
          obtain ⟨w3, hw3⟩ : ∃ w3, w2.alloc (.cells (lT t D2 n cap2).toArray 31) = w3 := ⟨_, rfl⟩
          rw [hw3] at S3 RT3 HOb hO3 hbw3 ⊢
          clear hw3 hZ hB S2 RT2 HOa hO2 hbw2
          have hz := S3.bk 0 rfl
          have hx := S3.bk 2 rfl
          go_upto_region 8 with (first | (with_reducible refine wpList_load_row rfl 31 (.tmp 6) rfl Z (by kernel_rfl) _ _ (0, 0) _ hz Tryz.underlying31 rfl (by kernel_rfl) ?_) | (refine wpList_store_row rfl 31 _ _ rfl X _ rfl rfl _ _ hx (by kernel_rfl) (by kernel_rfl) (by kernel_rfl) ?_))
          have hXb : X < base := HLOW.out [] [] (X, 31, []) (by simp)
          have S4 := (S3.row 2 rfl (lT t D2 n cap2)).tail
          have RT4 := RT3.row (cs := lT t D2 n cap2) (S3.1 2 _ _ _ rfl).1
          have HOc := HOb.heap (w' := w3.setRow X (lT t D2 n cap2).toArray) (fun b hb => setRow_other w3 X b _ (by omega))
          have hO4 := hO3.heap (w' := w3.setRow X (lT t D2 n cap2).toArray) (fun b hb => setRow_other w3 X b _ (by omega))
          have hbw4 : base ≤ (w3.setRow X (lT t D2 n cap2).toArray).heap.size := Nat.le_trans hbw3 (by simp [World.setRow])
          obtain ⟨w4, hw4⟩ : ∃ w4, w3.setRow X (lT t D2 n cap2).toArray = w4 := ⟨_, rfl⟩
          rw [hw4] at S4 RT4 HOc hO4 hbw4 ⊢
          clear hw4 S3 RT3 HOb hO3 hbw3 hz hx
          have HOC := HOc
          obtain ⟨C, -, hown, -⟩ := HOC
          have hln : (allR t L k).2.length + (confR t (allR t L k).1 k).2.length ≤ 100000 := by
            have h1 := HBD.out.2.1
            have h2 := confR_few t (allR t L k).1 k
            omega
          go_wp2_with (at_builtin; refine append_outs _ rfl (.tmp 57) (.tmp 58) rfl base wc.heap.size u4 v2 (allR t L k).2 (confR t (allR t L k).1 k).2 rfl rfl HOc hO4 hbw1 hln hbw4 w4 (Below.refl _ _) ?_; intro v' w5 hO5 hb5 gr5; have S5 := S4.grow gr5 (fun b hb => (World.ownsRow.lt hown b hb).1) (HLOW.out _ _) HWB.out; have PV5 : PV2 A L w5 w.heap.size D2 (confR t (allR t L k).1 k).1 := PV2.grown (.inr RT4) hown HWB.out (Nat.le_trans HWB.out hbw4) gr5; have hbw5 : base ≤ w5.heap.size := Nat.le_trans hbw4 gr5.size; clear S4 RT4 HOc hO4 hown hln hb5 gr5)
          go_roundw
          case rel => exact ⟨k + 1, D2, cap2, by omega, by go_num, HZ2, S5, hbw5, Lib.hid (by rw [allR, allStep_yes HX.out HTL.out]; exact PV5), Lib.hid (by rw [allR, allStep_yes HX.out HTL.out]; exact hO5)⟩
          case measure => simp [intOf]; omega
    · have hki : ¬ (k : Int) < (n : Int) := by omega
      have hke : k = n := by omega
      subst hke
      go_upto_region 9 with fail
      clear c18
      have hx := S.bk 1 rfl
      have hy := S.bk 0 rfl
      have S2 := S.row 0 rfl (lT t D k cap')
      have hYb : Y < base := HLOW.out [] [] (Y, 31, []) (by simp)
      have hYw : w.heap.size ≤ Y := (S.1 0 _ _ _ rfl).2
      have hO := Lib.hid ((HO.out.heap (w' := wr.setRow Y (lT t D k cap').toArray) (fun b hb => setRow_other wr Y b _ (by omega))).mono HWB.out)
      have hPV : PV2 A L (wr.setRow Y (lT t D k cap').toArray) w.heap.size D (allR t L k).1 := PV2.row HPV.out (S.1 0 _ _ _ rfl).1 hYw
      have hPA := Lib.hid hPV.same
      have hyF := setRow_heap wr Y _ (lT t D k cap').toArray _ _ hy
      clear hPV hYb hYw
      go_wp2_with (first | (refine wpList_load_row rfl 31 _ rfl X rfl _ _ (0, 0) _ hx Tryz.underlying31 rfl (by kernel_rfl) ?_) | (refine wpList_store_row rfl 31 _ _ rfl Y _ rfl rfl _ _ hy (by kernel_rfl) (by kernel_rfl) (by kernel_rfl) ?_))
      exact bodyPost_ret (v := .tuple #[.agg (lT t D k cap').toArray, u4]) (results_two rfl _ _ Y _ _ _ _ rfl _ rfl hyF Tryz.underlying31 rfl (by kernel_rfl)) rfl ⟨D, cap', _, rfl, HZ.out, hPA.out, hO.out, S2.old⟩

theorem rall_is (t : Th) (A : Option Addr) (n cap : Nat) (L : List Po) (hL : Hid (L.length = n)) (hf : n ≤ 200) (ht : Hid (ThB t)) (hn : Hid (-9223372036854775808 ≤ t.n1 ∧ t.n1 ≤ 9223372036854775807 ∧ -9223372036854775808 ≤ t.n2 ∧ t.n2 ≤ 9223372036854775807 ∧ -9223372036854775808 ≤ t.n3 ∧ t.n3 ≤ 9223372036854775807)) (hb : Hid (∀ x ∈ L, PoB x)) (hc : Hid (A = none → cap = 0)) (w : World) (hp : Hid (PoAt w A w.heap.size L)) :
    Calls Tryz.prog 44 #[.agg (lT t A n cap).toArray] w (AllEnd w t n (allR t L n)) :=
  (rall2_is t A n cap L hL hf ht hn hb hc w hp).mono fun e w' ⟨D, cap', v, he, hz, hT, hO, hB⟩ => ⟨D, cap', v, he, hz, (hT.elim (fun ⟨e1, e2⟩ => by rw [e1, e2]; exact (hp.out.below hB (Nat.le_refl _)).wide hB.size) (fun q => q.ports)), hO, hB⟩

end Go.Proofs.YteplefdnnehdgaaGreatDoor
