/- Several texts in one, one behind the other: SendRefAll, TickRefLead, TreeRef, PortAwake. -/
import Derived.Test.YtnmnihlhcokjpaaGreatDoorPk08
import Derived.Test.YtnmnihlhcokjpaaGreatDoorPk24
import Derived.Test.YtnmnihlhcokjpaaGreatDoorPk09
import Derived.Test.YtnmnihlhcokjpaaGreatDoorPk02
import Derived.Deep.DeepCutAuto
import Derived.LoopTactic
import Derived.Test.YtnmnihlhcokjpaaGreatDoorPk14
import Derived.Test.YtnmnihlhcokjpaaGreatDoorPk12
import Derived.Test.YtnmnihlhcokjpaaGreatDoorPk04
import Derived.Test.YtnmnihlhcokjpaaGreatDoorPk01
import Derived.Laws.StructEq

/- The document's All: contract. -/
namespace Go.Proofs.YtnmnihlhcokjpaaGreatDoor
set_option maxRecDepth 100000
open Go.ChangeShapes Go.WideShapes Go.ChangeAt Go.RowKit
set_option linter.unusedVariables false
set_option linter.unusedSimpArgs false

/-- Ports handed in, while a box of the call's own changes, or Outs grow. -/
theorem PoAt.rowB {w : World} {B g : Nat} {D : Option Addr} {L : List Po} {cs : Array Value} (q : PoAt w D B L) (hg : B ≤ g) : PoAt (w.setRow g cs) D B L := fun k x hx => by
  obtain ⟨ad, e, hB, hc⟩ := q k x hx
  refine ⟨ad, e, hB, fun i v hv => ?_⟩
  rw [← hc i v hv]
  exact World.cell?_of_block (setRow_other w g _ _ (by rw [Go.Proofs.YtnmnihlhcokjpaaGreatDoor.add_block, Go.Proofs.YtnmnihlhcokjpaaGreatDoor.add_block]; omega))
theorem PoAt.grownO {w w' : World} {B base n : Nat} {D : Option Addr} {L : List Po} {v : Value} {xs : List Value} (q : PoAt w D B L) (hown : w.ownsRow base 83 5 v n xs) (hB : B ≤ base) (hs : B ≤ w.heap.size) (gr : w.grownBy w' v.ownBlock) : PoAt w' D B L := fun k x hx => by
  obtain ⟨ad, e, hb, hc⟩ := q k x hx
  refine ⟨ad, e, hb, fun i u hu => ?_⟩
  rw [← hc i u hu]
  refine World.cell?_of_block (gr.block _ (by rw [Go.Proofs.YtnmnihlhcokjpaaGreatDoor.add_block, Go.Proofs.YtnmnihlhcokjpaaGreatDoor.add_block]; omega) ?_)
  rw [Go.Proofs.YtnmnihlhcokjpaaGreatDoor.add_block, Go.Proofs.YtnmnihlhcokjpaaGreatDoor.add_block]
  intro e'
  have := (World.ownsRow.lt hown _ e'.symm).1
  omega
theorem RowT.grownO {w w' : World} {base n : Nat} {D : Option Addr} {L : List Po} {v : Value} {xs : List Value} (q : RowT w D L) (hown : w.ownsRow base 83 5 v n xs) (gr : w.grownBy w' v.ownBlock) : RowT w' D L :=
  q.imp id (fun ⟨g, r, e, k⟩ => ⟨g, r, e, by
    have hne : some g ≠ v.ownBlock := by
      intro e'
      rcases hown.2 with ⟨rfl, _⟩ | ⟨g', cap, cur, rfl, _, hh, _⟩
      · cases e'
      · have e'' : g = g' := Option.some.inj e'
        subst e''
        unfold Bk at k
        rw [k] at hh
        injection hh with q
        injection q with _ q
        cases q
    exact (gr.block g k.lt hne).trans k⟩)
/-- A view's ports: those handed in, or a row of the call's own. -/
def PV2 (A : Option Addr) (L0 : List Po) (w : World) (B : Nat) (D : Option Addr) (L : List Po) : Prop := (PoAt w D B L ∧ D = A ∧ L = L0) ∨ RowT w D L
section
variable {A : Option Addr} {L0 : List Po}
theorem PV2.ports {w : World} {B : Nat} {D : Option Addr} {L : List Po} (h : PV2 A L0 w B D L) (hB : B ≤ w.heap.size) : PoAt w D w.heap.size L := h.elim (fun q => q.1.wide hB) (fun q => q.ports)
theorem PV2.below {w w' : World} {B : Nat} {D : Option Addr} {L : List Po} (h : PV2 A L0 w B D L) (b : Below w.heap.size w w') (hB : B ≤ w.heap.size) : PV2 A L0 w' B D L := h.imp (fun q => ⟨q.1.below b hB, q.2⟩) (fun q => q.below b)
theorem PV2.row {w : World} {B g : Nat} {D : Option Addr} {L : List Po} {cs cs' : List Value} (h : PV2 A L0 w B D L) (hb : Bk w g 31 cs') (hg : B ≤ g) : PV2 A L0 (w.setRow g cs.toArray) B D L :=
  h.imp (fun q => ⟨q.1.rowB hg, q.2⟩) (fun q => q.row hb)
theorem PV2.grown {w w' : World} {B base n : Nat} {D : Option Addr} {L : List Po} {v : Value} {xs : List Value} (h : PV2 A L0 w B D L) (hown : w.ownsRow base 83 5 v n xs) (hB : B ≤ base) (hs : B ≤ w.heap.size) (gr : w.grownBy w' v.ownBlock) : PV2 A L0 w' B D L :=
  h.imp (fun q => ⟨q.1.grownO hown hB hs gr, q.2⟩) (fun q => q.grownO hown gr)
theorem PV2.same {w : World} {B : Nat} {D : Option Addr} {L : List Po} (h : PV2 A L0 w B D L) : (D = A ∧ L = L0) ∨ RowT w D L := h.imp (fun q => q.2) id
end
/-- What telling all hands out: the ports as they were handed in, or a row of the call's own. -/
def AllEnd2 (w : World) (t : Th) (A : Option Addr) (n : Nat) (L : List Po) (R : List Po × List Ou) (e : Ending) (w' : World) : Prop :=
  ∃ D cap v, e = .returned (.tuple #[.agg (lT t D n cap).toArray, v]) ∧ (D = none → cap = 0) ∧ ((D = A ∧ R.1 = L) ∨ RowT w' D R.1) ∧ OutsR w' w.heap.size v R.2 ∧ Below w.heap.size w w'

set_option maxHeartbeats 4000000 in
theorem rall2_is (t : Th) (A : Option Addr) (n cap : Nat) (L : List Po) (hL : Hid (L.length = n)) (hf : n ≤ 200) (ht : Hid (ThB t)) (hn : Hid (-9223372036854775808 ≤ t.n1 ∧ t.n1 ≤ 9223372036854775807 ∧ -9223372036854775808 ≤ t.n2 ∧ t.n2 ≤ 9223372036854775807 ∧ -9223372036854775808 ≤ t.n3 ∧ t.n3 ≤ 9223372036854775807)) (hb : Hid (∀ x ∈ L, PoB x)) (hc : Hid (A = none → cap = 0)) (w : World) (hp : Hid (PoAt w A w.heap.size L)) :
    Calls Tryz.prog 22 #[.agg (lT t A n cap).toArray] w (AllEnd2 w t A n L (allR t L n)) := by
  obtain ⟨wb, hwb, S⟩ := hs_two w 31 31 (lT t A n cap) [.int .u64 0, .int .u64 0, .int .u32 0, .int .i64 0, .int .i64 0, .int .i64 0, .int .i64 0, .int .i64 0, .int .i64 0, .int .i64 0, .bool false, .bool false, .bool false, .int .i64 0, .bool false, .int .i64 0, .bool false, .int .i64 0, .slice none 0 0]
  go_enter Tryz.func22, Tryz.ntmps22
  go_upto_region 1 with fail
  clear hwb
  obtain ⟨X, hX⟩ : ∃ X, w.heap.size = X := ⟨_, rfl⟩
  rw [hX] at S
  obtain ⟨Y, hY⟩ : ∃ Y, X + 1 = Y := ⟨_, rfl⟩
  rw [hY] at S
  rw [hX]
  rw [hY]
  have HXX := Lib.hid hX
  clear hX hY
  obtain ⟨base, hbs⟩ : ∃ b, wb.heap.size = b := ⟨_, rfl⟩
  have hlow : ∀ cs ds : List Value, ∀ y ∈ ([(Y, 31, cs), (X, 31, ds)] : List (Nat × TypeId × List Value)), y.1 < base := fun cs ds => by
    rw [← hbs]
    exact List.forall_mem_cons.2 ⟨S.lt 0 rfl, List.forall_mem_cons.2 ⟨S.lt 1 rfl, fun y hy => by cases hy⟩⟩
  have HLOW := Lib.hid hlow
  have hwbase : w.heap.size ≤ base := by rw [← hbs]; exact S.old.size
  have HWB := Lib.hid hwbase
  have P0 : PV2 A L wb w.heap.size A L := .inl ⟨hp.out.below S.old (Nat.le_refl _), rfl, rfl⟩
  have hbw : base ≤ wb.heap.size := Nat.le_of_eq hbs.symm
  clear hlow hwbase hbs
  go_wp2
  go_loopw [4, 5] (fun v i wr => ∃ (k : Nat) (D : Option Addr) (cap' : Nat), k ≤ n ∧ i = .int .i64 k ∧ Hid (D = none → cap' = 0) ∧ Hs w [(Y, 31, [.int .u64 0, .int .u64 0, .int .u32 0, .int .i64 0, .int .i64 0, .int .i64 0, .int .i64 0, .int .i64 0, .int .i64 0, .int .i64 0, .bool false, .bool false, .bool false, .int .i64 0, .bool false, .int .i64 0, .bool false, .int .i64 0, .slice none 0 0]), (X, 31, lT t D n cap')] wr ∧ base ≤ wr.heap.size ∧ Hid (PV2 A L wr w.heap.size D (allR t L k).1) ∧ Hid (OutsR wr base v (allR t L k).2)) (fun v i _ => n - (intOf i).toNat)
  case atStart => exact ⟨0, A, cap, Nat.zero_le _, rfl, hc, S, hbw, Lib.hid P0, Lib.hid (OutsR.nil _ _)⟩
  case round =>
    clear S P0 hbw
    obtain ⟨k, D, cap', hk, rfl, HZ, S, hbw, HPV, HO⟩ := hrel
    have c18 := S.cell 1 18 rfl rfl
    have HBD := Lib.hid (allR_bd (t := t) hb.out k)
    have HLN := Lib.hid (show (allR t L k).1.length = n by rw [HBD.out.1, hL.out])
    by_cases hkn : k < n
    · have hki : (k : Int) < (n : Int) := by omega
      have hkz : ¬ (n : Int) ≤ (k : Int) := by omega
      obtain ⟨x, hx⟩ := po_at HLN.out hkn
      have HX := Lib.hid hx
      have HPA := Lib.hid (HPV.out.ports (Nat.le_trans HWB.out hbw))
      obtain ⟨ad, rfl, -⟩ := HPA.out.cells hx
      clear hx
      obtain ⟨b1, hb1⟩ : ∃ b, (x.hb == t.ow) = b := ⟨_, rfl⟩
      obtain ⟨b2, hb2⟩ : ∃ b, (x.hp == x.id) = b := ⟨_, rfl⟩
      obtain ⟨b3, hb3⟩ : ∃ b, (x.st != 0) = b := ⟨_, rfl⟩
      have HTL := Lib.hid (show tellsB t x = (b1 && (b2 && b3)) by rw [← hb1, ← hb2, ← hb3]; unfold tellsB; congr 1)
      go_upto_region 5 with fail
      clear c18
      go_cut [49] (fun u wx => u = .bool (b1 && (b2 && b3)) ∧ Below wr.heap.size wr wx)
      case first =>
        have c18 : ∀ q : LaterW wr, q.w'.cell? ⟨X, 18, none⟩ = some (.slice (some ad) n cap') := fun q => (S.below q.h).cell 1 18 rfl rfl
        have c0 := fun q : LaterW wr => (S.below q.h).cell 1 0 rfl rfl
        have hpc := fun q : LaterW wr => (HPA.out.below q.h (Nat.le_refl _)).cells HX.out
        have p0 : ∀ q : LaterW wr, q.w'.cell? (ad.add (k * 15)) = some (.int .u16 x.id) := fun q => by obtain ⟨a', e, -, h0, -⟩ := hpc q; obtain rfl : ad = a' := Option.some.inj e; exact h0
        have p1 : ∀ q : LaterW wr, q.w'.cell? ⟨(ad.add (k * 15)).block, (ad.add (k * 15)).off + 1, none⟩ = some (.int .i64 x.st) := fun q => by obtain ⟨a', e, -, -, h1⟩ := hpc q; obtain rfl : ad = a' := Option.some.inj e; exact h1 0 _ rfl
        have p5 : ∀ q : LaterW wr, q.w'.cell? ⟨(ad.add (k * 15)).block, (ad.add (k * 15)).off + 3 + 2, none⟩ = some (.int .u64 x.hb) := fun q => by obtain ⟨a', e, -, -, h1⟩ := hpc q; obtain rfl : ad = a' := Option.some.inj e; exact h1 4 _ rfl
        have p6 : ∀ q : LaterW wr, q.w'.cell? ⟨(ad.add (k * 15)).block, (ad.add (k * 15)).off + 3 + 3, none⟩ = some (.int .u16 x.hp) := fun q => by obtain ⟨a', e, -, -, h1⟩ := hpc q; obtain rfl : ad = a' := Option.some.inj e; exact h1 5 _ rfl
        clear hpc
        cases b1
        all_goals cases b2
        all_goals cases b3
        all_goals
          refine region_later mixedL (by kernel_rfl) ?_
          repeat (go_big_quiet_step (fail))
          refine wpQuiet_nil ?_
          intro v hv
          obtain ⟨r, rfl⟩ := hv
          go_wp2_with fail
          go_meet
          exact ⟨rfl, r.h⟩
      case rest =>
        clear hb1 hb2 hb3
        obtain ⟨rfl, B1⟩ := hcut
        have S1 := S.below B1
        have HPV1 := Lib.hid (HPV.out.below B1 (Nat.le_trans HWB.out hbw))
        have HO1 := Lib.hid (HO.out.below B1)
        have hbw1 : base ≤ wc.heap.size := Nat.le_trans hbw B1.size
        clear S HPV HO HPA hbw B1
        obtain ⟨tl, htl⟩ : ∃ b, (b1 && (b2 && b3)) = b := ⟨_, rfl⟩
        rw [htl] at HTL ⊢
        clear htl
        cases tl with
        | false =>
          go_wp2
          go_roundw
          case rel => exact ⟨k + 1, some ad, cap', by omega, by go_num, HZ, S1, hbw1, Lib.hid (by rw [allR, allStep_no HX.out HTL.out]; exact HPV1.out), Lib.hid (by rw [allR, allStep_no HX.out HTL.out]; exact HO1.out)⟩
          case measure => simp [intOf]; omega
        | true =>
          go_upto_region 6 with fail
          have HCF := Lib.hid (rconf_is t (some ad) n cap' (allR t L k).1 k HLN hf ht hn (Lib.hid HBD.out.2.2) (by omega) HZ wc (Lib.hid (HPV1.out.ports (Nat.le_trans HWB.out hbw1))))
          have hx := S1.bk 1 rfl
          go_wp2_with (with_reducible refine wpList_load_row rfl 31 (.tmp 1) rfl X (by kernel_rfl) _ _ (0, 0) _ hx Tryz.underlying31 rfl (by kernel_rfl) ?_)
          (with_reducible refine HCF.out.mono ?_); rintro e w2 ⟨D2, cap2, v2, rfl, hz2, k2, hO2⟩
          have S2 := S1.below k2.old
          have HOa := HO1.out.below k2.old
          have RT2 := k2.rowT
          have hbw2 : base ≤ w2.heap.size := Nat.le_trans hbw1 k2.old.size
          have HZ2 := Lib.hid hz2
          clear S1 hx HCF HPV1 HO1 k2 hz2
          go_upto_region 7 with (refine wpList_store_row rfl 31 _ _ rfl _ _ rfl rfl _ _ (heap_alloc_new _ _) (by kernel_rfl) (by kernel_rfl) (by kernel_rfl) ?_)
          rw [alloc_row]
          have hB := new_below w2 (.cells (lT t D2 n cap2).toArray 31)
          have S3 := S2.al rfl 31 (lT t D2 n cap2)
          have RT3 := RT2.below hB
          have HOb := HOa.below hB
          have hO3 := hO2.below hB
          have hbw3 := Nat.le_trans hbw2 hB.size
          obtain ⟨Z, hZ⟩ : ∃ Z, w2.heap.size = Z := ⟨_, rfl⟩
          rw [hZ] at S3 ⊢
          obtain ⟨w3, hw3⟩ : ∃ w3, w2.alloc (.cells (lT t D2 n cap2).toArray 31) = w3 := ⟨_, rfl⟩
          rw [hw3] at S3 RT3 HOb hO3 hbw3 ⊢
          clear hw3 hZ hB S2 RT2 HOa hO2 hbw2
          have hz := S3.bk 0 rfl
          have hx := S3.bk 2 rfl
          go_upto_region 8 with (first | (with_reducible refine wpList_load_row rfl 31 (.tmp 6) rfl Z (by kernel_rfl) _ _ (0, 0) _ hz Tryz.underlying31 rfl (by kernel_rfl) ?_) | (refine wpList_store_row rfl 31 _ _ rfl X _ rfl rfl _ _ hx (by kernel_rfl) (by kernel_rfl) (by kernel_rfl) ?_))
          have hXb : X < base := HLOW.out [] [] (X, 31, []) (by simp)
          have S4 := (S3.row 2 rfl (lT t D2 n cap2)).tail
          have RT4 := RT3.row (cs := lT t D2 n cap2) (S3.1 2 _ _ _ rfl).1
          have HOc := HOb.heap (w' := w3.setRow X (lT t D2 n cap2).toArray) (fun b hb => setRow_other w3 X b _ (by omega))
          have hO4 := hO3.heap (w' := w3.setRow X (lT t D2 n cap2).toArray) (fun b hb => setRow_other w3 X b _ (by omega))
          have hbw4 : base ≤ (w3.setRow X (lT t D2 n cap2).toArray).heap.size := Nat.le_trans hbw3 (by simp [World.setRow])
          obtain ⟨w4, hw4⟩ : ∃ w4, w3.setRow X (lT t D2 n cap2).toArray = w4 := ⟨_, rfl⟩
          rw [hw4] at S4 RT4 HOc hO4 hbw4 ⊢
          clear hw4 S3 RT3 HOb hO3 hbw3 hz hx
          have HOC := HOc
          obtain ⟨C, -, hown, -⟩ := HOC
          have hln : (allR t L k).2.length + (confR t (allR t L k).1 k).2.length ≤ 100000 := by
            have h1 := HBD.out.2.1
            have h2 := confR_few t (allR t L k).1 k
            omega
          go_wp2_with (at_builtin; refine append_outs _ rfl (.tmp 57) (.tmp 58) rfl base wc.heap.size u4 v2 (allR t L k).2 (confR t (allR t L k).1 k).2 rfl rfl HOc hO4 hbw1 hln hbw4 w4 (Below.refl _ _) ?_; intro v' w5 hO5 hb5 gr5; have S5 := S4.grow gr5 (fun b hb => (World.ownsRow.lt hown b hb).1) (HLOW.out _ _) HWB.out; have PV5 : PV2 A L w5 w.heap.size D2 (confR t (allR t L k).1 k).1 := PV2.grown (.inr RT4) hown HWB.out (Nat.le_trans HWB.out hbw4) gr5; have hbw5 : base ≤ w5.heap.size := Nat.le_trans hbw4 gr5.size; clear S4 RT4 HOc hO4 hown hln hb5 gr5)
          go_roundw
          case rel => exact ⟨k + 1, D2, cap2, by omega, by go_num, HZ2, S5, hbw5, Lib.hid (by rw [allR, allStep_yes HX.out HTL.out]; exact PV5), Lib.hid (by rw [allR, allStep_yes HX.out HTL.out]; exact hO5)⟩
          case measure => simp [intOf]; omega
    · have hki : ¬ (k : Int) < (n : Int) := by omega
      have hke : k = n := by omega
      subst hke
      go_upto_region 9 with fail
      clear c18
      have hx := S.bk 1 rfl
      have hy := S.bk 0 rfl
      have S2 := S.row 0 rfl (lT t D k cap')
      have hYb : Y < base := HLOW.out [] [] (Y, 31, []) (by simp)
      have hYw : w.heap.size ≤ Y := (S.1 0 _ _ _ rfl).2
      have hO := Lib.hid ((HO.out.heap (w' := wr.setRow Y (lT t D k cap').toArray) (fun b hb => setRow_other wr Y b _ (by omega))).mono HWB.out)
      have hPV : PV2 A L (wr.setRow Y (lT t D k cap').toArray) w.heap.size D (allR t L k).1 := PV2.row HPV.out (S.1 0 _ _ _ rfl).1 hYw
      have hPA := Lib.hid hPV.same
      have hyF := setRow_heap wr Y _ (lT t D k cap').toArray _ _ hy
      clear hPV hYb hYw
      go_wp2_with (first | (refine wpList_load_row rfl 31 _ rfl X rfl _ _ (0, 0) _ hx Tryz.underlying31 rfl (by kernel_rfl) ?_) | (refine wpList_store_row rfl 31 _ _ rfl Y _ rfl rfl _ _ hy (by kernel_rfl) (by kernel_rfl) (by kernel_rfl) ?_))
      exact bodyPost_ret (v := .tuple #[.agg (lT t D k cap').toArray, u4]) (results_two rfl _ _ Y _ _ _ _ rfl _ rfl hyF Tryz.underlying31 rfl (by kernel_rfl)) rfl ⟨D, cap', _, rfl, HZ.out, hPA.out, hO.out, S2.old⟩

end Go.Proofs.YtnmnihlhcokjpaaGreatDoor

/- The document's Lead: contract. -/
namespace Go.Proofs.YtnmnihlhcokjpaaGreatDoor
set_option maxRecDepth 100000
open Go.ChangeShapes Go.WideShapes Go.ChangeAt Go.RowKit
set_option linter.unusedVariables false
set_option linter.unusedSimpArgs false

set_option maxHeartbeats 4000000 in
theorem rlead_is (t : Th) (A : Option Addr) (n cap : Nat) (L : List Po) (hL : Hid (L.length = n)) (hf : n ≤ 200) (ht : Hid (ThB t)) (hm : Hid (-9223372036854775808 ≤ t.m1 ∧ t.m1 ≤ 9223372036854775807 ∧ -9223372036854775808 ≤ t.m2 ∧ t.m2 ≤ 9223372036854775807 ∧ -9223372036854775808 ≤ t.m3 ∧ t.m3 ≤ 9223372036854775807)) (hb : Hid (∀ x ∈ L, PoB x)) (hc : Hid (A = none → cap = 0)) (w : World) (hp : Hid (PoAt w A w.heap.size L)) :
    Calls Tryz.prog 27 #[.agg (lT t A n cap).toArray] w (AllEnd2 w (leadT2 t) A n L (allR (leadT t) L n)) := by
  have HTB := Lib.hid (show ThB ({ t with n1 := t.m1, n2 := t.m2, n3 := t.m3 } : Th) from ht.out)
  have HTL := Lib.hid (lead_bd ht.out)
  have HNL := Lib.hid (lead_nb hm.out)
  obtain ⟨R, hR⟩ : ∃ R, allR (leadT t) L n = R := ⟨_, rfl⟩
  rw [hR]
  have HRR := Lib.hid hR
  clear hR
  obtain ⟨wb, hwb, S⟩ := hs_two w 31 31 (lT t A n cap) [.int .u64 0, .int .u64 0, .int .u32 0, .int .i64 0, .int .i64 0, .int .i64 0, .int .i64 0, .int .i64 0, .int .i64 0, .int .i64 0, .bool false, .bool false, .bool false, .int .i64 0, .bool false, .int .i64 0, .bool false, .int .i64 0, .slice none 0 0]
  go_enter Tryz.func27, Tryz.ntmps27
  go_upto_region 1 with fail
  clear hwb
  obtain ⟨X, hX⟩ : ∃ q, w.heap.size = q := ⟨_, rfl⟩
  rw [hX] at S
  obtain ⟨Y, hY⟩ : ∃ q, X + 1 = q := ⟨_, rfl⟩
  rw [hY] at S
  rw [hX]
  rw [hY]
  clear hX hY
  have c7 := S.cell 1 7 rfl rfl
  have c8 := S.cell 1 8 rfl rfl
  have c9 := S.cell 1 9 rfl rfl
  have c4 := S.cell 1 4 rfl rfl
  have f4 := S.thaw 1 4 rfl
  have c5 := S.cell 1 5 rfl rfl
  have f5 := S.thaw 1 5 rfl
  have c6 := S.cell 1 6 rfl rfl
  have f6 := S.thaw 1 6 rfl
  go_upto_region 2 with fail
  have S1 : Hs w [(Y, 31, [.int .u64 0, .int .u64 0, .int .u32 0, .int .i64 0, .int .i64 0, .int .i64 0, .int .i64 0, .int .i64 0, .int .i64 0, .int .i64 0, .bool false, .bool false, .bool false, .int .i64 0, .bool false, .int .i64 0, .bool false, .int .i64 0, .slice none 0 0]), (X, 31, lT ({ t with n1 := t.m1, n2 := t.m2, n3 := t.m3 } : Th) A n cap)] (((wb.setCell ⟨X, 4, none⟩ (.int .i64 t.m1)).setCell ⟨X, 5, none⟩ (.int .i64 t.m2)).setCell ⟨X, 6, none⟩ (.int .i64 t.m3)) := (((S).set 1 rfl 4 (.int .i64 t.m1)).set 1 rfl 5 (.int .i64 t.m2)).set 1 rfl 6 (.int .i64 t.m3)
  generalize ((wb.setCell ⟨X, 4, none⟩ (.int .i64 t.m1)).setCell ⟨X, 5, none⟩ (.int .i64 t.m2)).setCell ⟨X, 6, none⟩ (.int .i64 t.m3) = w1 at S1 ⊢
  clear S  c4 f4 c5 f5 c6 f6 c7 c8 c9
  have HC := Lib.hid (rdetect_is ({ t with n1 := t.m1, n2 := t.m2, n3 := t.m3 } : Th) A n cap HTB w1)
  unfold DetEnd at HC
  have hx := S1.bk 1 rfl
  go_wp2_with (with_reducible refine wpList_load_row rfl 31 (.tmp 1) rfl X (by kernel_rfl) _ _ (0, 0) _ hx Tryz.underlying31 rfl (by kernel_rfl) ?_)
  (with_reducible refine HC.out.mono ?_); rintro e w2 ⟨v, rfl, -, b2⟩
  have S2 := S1.below b2
  clear S1 hx HC b2
  go_upto_region 3 with (refine wpList_store_row rfl 31 _ _ rfl _ _ rfl rfl _ _ (heap_alloc_new _ _) (by kernel_rfl) (by kernel_rfl) (by kernel_rfl) ?_)
  rw [alloc_row]
  have S3 := S2.al rfl 31 (lT (detT ({ t with n1 := t.m1, n2 := t.m2, n3 := t.m3 } : Th)) A n cap)
  obtain ⟨U, hU⟩ : ∃ q, w2.heap.size = q := ⟨_, rfl⟩
  rw [hU] at S3 ⊢
  obtain ⟨w3, hw3⟩ : ∃ y, w2.alloc (.cells (lT (detT ({ t with n1 := t.m1, n2 := t.m2, n3 := t.m3 } : Th)) A n cap).toArray 31) = y := ⟨_, rfl⟩
  rw [hw3] at S3 ⊢
  clear hw3 hU S2
  have c14 := S3.cell 0 14 rfl rfl
  have f14 := S3.thaw 0 14 rfl
  have c15 := S3.cell 0 15 rfl rfl
  have f15 := S3.thaw 0 15 rfl
  go_upto_region 4 with fail
  have S4 : Hs w [(U, 31, lT (leadT t) A n cap), (Y, 31, [.int .u64 0, .int .u64 0, .int .u32 0, .int .i64 0, .int .i64 0, .int .i64 0, .int .i64 0, .int .i64 0, .int .i64 0, .int .i64 0, .bool false, .bool false, .bool false, .int .i64 0, .bool false, .int .i64 0, .bool false, .int .i64 0, .slice none 0 0]), (X, 31, lT ({ t with n1 := t.m1, n2 := t.m2, n3 := t.m3 } : Th) A n cap)] ((w3.setCell ⟨U, 14, none⟩ (.bool false)).setCell ⟨U, 15, none⟩ (.int .i64 0)) := ((S3).set 0 rfl 14 (.bool false)).set 0 rfl 15 (.int .i64 0)
  generalize (w3.setCell ⟨U, 14, none⟩ (.bool false)).setCell ⟨U, 15, none⟩ (.int .i64 0) = w4 at S4 ⊢
  clear S3  c14 f14 c15 f15 
  have HC := Lib.hid (rall2_is (leadT t) A n cap L hL hf HTL HNL hb hc w4 (Lib.hid ((hp.out.below S4.old (Nat.le_refl _)).wide S4.old.size)))
  rw [HRR.out] at HC
  have hx := S4.bk 0 rfl
  go_wp2_with (with_reducible refine wpList_load_row rfl 31 (.tmp 4) rfl U (by kernel_rfl) _ _ (0, 0) _ hx Tryz.underlying31 rfl (by kernel_rfl) ?_)
  (with_reducible refine HC.out.mono ?_); rintro e w5 ⟨D, c2, v3, rfl, hz, hP, hO, b5⟩
  have S5 := S4.below b5
  have hO5 := hO.mono S4.old.size
  have HZ := Lib.hid hz
  clear S4 hx HC hz hO b5
  go_upto_region 5 with (refine wpList_store_row rfl 31 _ _ rfl _ _ rfl rfl _ _ (heap_alloc_new _ _) (by kernel_rfl) (by kernel_rfl) (by kernel_rfl) ?_)
  rw [alloc_row]
  have bN := new_below w5 (.cells (lT (leadT t) D n c2).toArray 31)
  have S6 := S5.al rfl 31 (lT (leadT t) D n c2)
  have hO6 := hO5.below bN
  have RT6 : (D = A ∧ R.1 = L) ∨ RowT _ D R.1 := hP.imp id (fun q => q.below bN)
  obtain ⟨V, hV⟩ : ∃ q, w5.heap.size = q := ⟨_, rfl⟩
  rw [hV] at S6 ⊢
  obtain ⟨w6, hw6⟩ : ∃ y, w5.alloc (.cells (lT (leadT t) D n c2).toArray 31) = y := ⟨_, rfl⟩
  rw [hw6] at S6 hO6 RT6 ⊢
  clear hw6 hV bN S5 hO5 hP
  have RT7 : (D = A ∧ R.1 = L) ∨ RowT ((w6.setCell ⟨V, 12, none⟩ (.bool true)).setCell ⟨V, 13, none⟩ (.int .i64 0)) D R.1 := RT6.imp id (fun q => q.but (S6.1 0 _ _ _ rfl).1 (by decide) (fun b hb => (Below.heap_setCell _ ⟨V, 13, none⟩ _ b hb).trans (Below.heap_setCell _ ⟨V, 12, none⟩ _ b hb)))
  have c12 := S6.cell 0 12 rfl rfl
  have f12 := S6.thaw 0 12 rfl
  have c13 := S6.cell 0 13 rfl rfl
  have f13 := S6.thaw 0 13 rfl
  go_upto_region 6 with fail
  have S7 : Hs w [(V, 31, lT (leadT2 t) D n c2), (U, 31, lT (leadT t) A n cap), (Y, 31, [.int .u64 0, .int .u64 0, .int .u32 0, .int .i64 0, .int .i64 0, .int .i64 0, .int .i64 0, .int .i64 0, .int .i64 0, .int .i64 0, .bool false, .bool false, .bool false, .int .i64 0, .bool false, .int .i64 0, .bool false, .int .i64 0, .slice none 0 0]), (X, 31, lT ({ t with n1 := t.m1, n2 := t.m2, n3 := t.m3 } : Th) A n cap)] ((w6.setCell ⟨V, 12, none⟩ (.bool true)).setCell ⟨V, 13, none⟩ (.int .i64 0)) := ((S6).set 0 rfl 12 (.bool true)).set 0 rfl 13 (.int .i64 0)
  have hO7 := hO6.but (w' := (w6.setCell ⟨V, 12, none⟩ (.bool true)).setCell ⟨V, 13, none⟩ (.int .i64 0)) (S6.1 0 _ _ _ rfl).1 (by decide) (by decide) (fun b hb => (Below.heap_setCell _ ⟨V, 13, none⟩ _ b hb).trans (Below.heap_setCell _ ⟨V, 12, none⟩ _ b hb))
  generalize (w6.setCell ⟨V, 12, none⟩ (.bool true)).setCell ⟨V, 13, none⟩ (.int .i64 0) = w7 at S7 hO7 RT7 ⊢
  clear S6 hO6 c12 f12 c13 f13 
  clear RT6
  have hx := S7.bk 0 rfl
  have hy := S7.bk 2 rfl
  have SF := S7.row 2 rfl (lT (leadT2 t) D n c2)
  have hyF := SF.bk 2 rfl
  have hOF := hO7.store S7 2 rfl (lT (leadT2 t) D n c2).toArray
  have RTF := RT7.imp id (fun q => q.row (cs := lT (leadT2 t) D n c2) (S7.1 2 _ _ _ rfl).1)
  go_wp2_with (first | (with_reducible refine wpList_load_row rfl 31 (.tmp 6) rfl V (by kernel_rfl) _ _ (0, 0) _ hx Tryz.underlying31 rfl (by kernel_rfl) ?_) | (refine wpList_store_row rfl 31 _ _ rfl Y _ rfl rfl _ _ hy (by kernel_rfl) (by kernel_rfl) (by kernel_rfl) ?_))
  exact bodyPost_ret (v := .tuple #[.agg (lT (leadT2 t) D n c2).toArray, v3]) (results_two rfl _ _ Y _ _ _ _ rfl _ rfl hyF Tryz.underlying31 rfl (by kernel_rfl)) rfl ⟨D, c2, _, rfl, HZ.out, RTF, hOF, SF.old⟩

end Go.Proofs.YtnmnihlhcokjpaaGreatDoor

/- The document's plain, via, designated, may: contracts. -/
namespace Go.Proofs.YtnmnihlhcokjpaaGreatDoor
set_option maxRecDepth 100000
open Go.ChangeShapes Go.WideShapes Go.ChangeAt Go.RowKit
set_option linter.unusedVariables false

theorem plain_v (x : Vec) (w : World) :
    Calls Tryz.prog 94 #[.agg #[.int .u64 x.r, .int .u32 x.c, .int .u64 x.b, .int .u16 x.p]] w fun e w' => e = .returned (.agg #[.int .u64 x.r, .int .u32 x.c, .int .u64 x.b, .int .u16 x.p]) ∧ Below w.heap.size w w' := by
  go_enter Tryz.func94, Tryz.ntmps94
  go_wp2
  exact bodyPost_ret (v := .agg #[.int .u64 x.r, .int .u32 x.c, .int .u64 x.b, .int .u16 x.p]) (by simp [results, Tryz.results94, go_sem]) rfl ⟨rfl, ((Below.refl _ _).alloc (Nat.le_refl _) _).alloc (by simp) _⟩

set_option maxHeartbeats 1000000 in
theorem via_r (p : Po) (hb : PoB p) (w : World) :
    Calls Tryz.prog 96 #[.agg (lP p).toArray] w fun e w' => e = .returned (.agg #[.int .u64 (thruV p).r, .int .u32 (thruV p).c, .int .u64 (thruV p).b, .int .u16 (thruV p).p]) ∧ Below w.heap.size w w' := by
  have HP := fun W => Lib.hid (plain_v ⟨p.hr, p.hc, p.hb, p.hp⟩ W)
  dsimp only at HP
  have HF := fun W => Lib.hid (rfar_is p.hc p.co (by unfold PoB at hb; omega) (by unfold PoB at hb; omega) (by unfold PoB at hb; omega) (by unfold PoB at hb; omega) W)
  clear hb
  obtain ⟨wb, hwb, S⟩ := hs_two w 63 130 (lP p) [.int .u64 0, .int .u32 0, .int .u64 0, .int .u16 0]
  go_enter Tryz.func96, Tryz.ntmps96
  go_upto_region 1 with fail
  clear hwb
  obtain ⟨X, hX⟩ : ∃ X, w.heap.size = X := ⟨_, rfl⟩
  rw [hX] at S ⊢
  obtain ⟨Y, hY⟩ : ∃ Y, X + 1 = Y := ⟨_, rfl⟩
  rw [hY] at S ⊢
  have c3 := S.cell 1 3 rfl rfl
  have c4 := S.cell 1 4 rfl rfl
  have c5 := S.cell 1 5 rfl rfl
  have c6 := S.cell 1 6 rfl rfl
  go_wp2_with fail
  (with_reducible refine (HP _).out.mono ?_); rintro e w1 ⟨rfl, b1⟩
  have S1 := S.below b1
  clear S HP c3 c4 c5 c6 b1
  go_upto_region 2 with (refine wpList_store_row rfl 130 _ _ rfl _ _ rfl rfl _ _ (heap_alloc_new _ _) (by kernel_rfl) (by kernel_rfl) (by kernel_rfl) ?_)
  rw [alloc_row]
  have S2 := S1.al rfl 130 [.int .u64 p.hr, .int .u32 p.hc, .int .u64 p.hb, .int .u16 p.hp]
  obtain ⟨V, hV⟩ : ∃ V, w1.heap.size = V := ⟨_, rfl⟩
  rw [hV] at S2 ⊢
  generalize w1.alloc (.cells #[.int .u64 p.hr, .int .u32 p.hc, .int .u64 p.hb, .int .u16 p.hp] 130) = w2 at S2 ⊢
  clear S1 hV
  have v1 := S2.cell 0 1 rfl rfl
  have c2 := S2.cell 2 2 rfl rfl
  have f1 := S2.thaw 0 1 rfl
  go_wp2_with fail
  (with_reducible refine (HF _).out.mono ?_); rintro e w3 ⟨rfl, rfl⟩
  go_upto_region 3 with fail
  have S3 := S2.set 0 rfl 1 (.int .u32 (farI p.hc p.co))
  simp only [List.set] at S3
  generalize w2.setCell ⟨V, 1, none⟩ (.int .u32 (farI p.hc p.co)) = w4 at S3 ⊢
  clear S2 v1 c2 f1
  have hv := S3.bk 0 rfl
  have hy := S3.bk 1 rfl
  go_wp2_with (first | (refine wpList_load_row rfl 130 _ rfl V rfl _ _ (0, 0) _ hv Tryz.underlying130 rfl (by kernel_rfl) ?_) | (refine wpList_store_row rfl 130 _ _ rfl Y _ rfl rfl _ _ hy (by kernel_rfl) (by kernel_rfl) (by kernel_rfl) ?_))
  exact bodyPost_ret (v := .agg #[.int .u64 (thruV p).r, .int .u32 (thruV p).c, .int .u64 (thruV p).b, .int .u16 (thruV p).p]) (results_cell_row rfl _ _ Y _ _ _ _ rfl (setRow_heap _ _ _ _ _ _ hy) Tryz.underlying130 rfl (by kernel_rfl)) rfl ⟨rfl, (S3.row 1 rfl [.int .u64 (thruV p).r, .int .u32 (thruV p).c, .int .u64 (thruV p).b, .int .u16 (thruV p).p]).old⟩

set_option maxHeartbeats 1000000 in
theorem rdes_is (t : Th) (A : Option Addr) (n cap : Nat) (L : List Po) (hL : Hid (L.length = n)) (k : Nat) (x : Po) (hx : Hid (L[k]? = some x)) (q : Bool) (hq : Hid (desB x t.ow = q)) (w : World) (hp : Hid (PoAt w A w.heap.size L)) :
    Calls Tryz.prog 90 #[.agg (lT t A n cap).toArray, .int .i64 k] w fun e w' => e = .returned (.bool q) ∧ Below w.heap.size w w' := by
  obtain ⟨wb, hwb, S⟩ := hs_one w 31 (lT t A n cap)
  have HP := Lib.hid ((hp.out.below S.old (Nat.le_refl _)).wide S.old.size)
  obtain ⟨ad, hA, hab, h0, h1⟩ := HP.out.cells hx.out
  subst hA
  go_enter Tryz.func90, Tryz.ntmps90
  go_upto_region 1 with fail
  clear hwb
  have c0 := S.cell 0 0 rfl rfl
  have c18 := S.cell 0 18 rfl rfl
  have hkn : k < n := by have := po_lt hx.out; have := hL.out; omega
  have hki : (k : Int) < (n : Int) := by omega
  have hkz : ¬ (n : Int) ≤ (k : Int) := by omega
  have h5 : wb.cell? ⟨(ad.add (k * 15)).block, (ad.add (k * 15)).off + 3 + 2, none⟩ = some (.int .u64 x.hb) := h1 4 _ rfl
  have h6 : wb.cell? ⟨(ad.add (k * 15)).block, (ad.add (k * 15)).off + 3 + 3, none⟩ = some (.int .u16 x.hp) := h1 5 _ rfl
  clear h1 hkn
  obtain ⟨p1, e1⟩ : ∃ p, (x.hb == t.ow) = p := ⟨_, rfl⟩
  obtain ⟨p2, e2⟩ : ∃ p, (x.hp == x.id) = p := ⟨_, rfl⟩
  have HE := Lib.hid (show (p1 && p2) = q by rw [← e1, ← e2, ← hq.out]; unfold desB; rw [Bool.eq_iff_iff]; simp)
  clear hq
  cases p1 with
  | false =>
    go_quiet (fail)
    go_wp2
    go_ret
    exact ⟨ret_bool (by rw [← HE.out]; rfl), S.old.trans ⟨rfl, rfl, rfl, Nat.le_refl _, fun _ _ => rfl⟩⟩
  | true =>
    go_quiet (fail)
    go_wp2
    go_ret
    exact ⟨ret_bool (by rw [← HE.out]; simp), S.old.trans ⟨rfl, rfl, rfl, Nat.le_refl _, fun _ _ => rfl⟩⟩

set_option maxRecDepth 100000 in
set_option maxHeartbeats 1000000 in
theorem rmay_is (t : Th) (A : Option Addr) (n cap : Nat) (L : List Po) (hL : Hid (L.length = n)) (k : Nat) (x : Po) (hx : Hid (L[k]? = some x)) (q : Bool) (hq : Hid (mayB x t.ow = q)) (w : World) (hp : Hid (PoAt w A w.heap.size L)) :
    Calls Tryz.prog 95 #[.agg (lT t A n cap).toArray, .int .i64 k] w fun e w' => e = .returned (.bool q) ∧ Below w.heap.size w w' := by
  obtain ⟨wb, hwb, S⟩ := hs_one w 31 (lT t A n cap)
  have HP := Lib.hid ((hp.out.below S.old (Nat.le_refl _)).wide S.old.size)
  obtain ⟨ad, hA, hab, h0, h1⟩ := HP.out.cells hx.out
  subst hA
  go_enter Tryz.func95, Tryz.ntmps95
  go_upto_region 1 with fail
  clear hwb
  obtain ⟨X, hX⟩ : ∃ X, w.heap.size = X := ⟨_, rfl⟩
  rw [hX] at S
  rw [hX]
  have HX := Lib.hid hX
  clear hX
  have c0 := fun q : LaterW wb => (S.below q.h).cell 0 0 rfl rfl
  have c18 := fun q : LaterW wb => (S.below q.h).cell 0 18 rfl rfl
  have hkn : k < n := by have := po_lt hx.out; have := hL.out; omega
  have hki : (k : Int) < (n : Int) := by omega
  have hkz : ¬ (n : Int) ≤ (k : Int) := by omega
  have h1q : ∀ q : LaterW wb, q.w'.cell? ⟨(ad.add (k * 15)).block, (ad.add (k * 15)).off + 1, none⟩ = some (.int .i64 x.st) := fun q => (q.h.cell (by rw [Go.Proofs.YtnmnihlhcokjpaaGreatDoor.add_block]; exact hab)).trans (h1 0 _ rfl)
  have h3q : ∀ q : LaterW wb, q.w'.cell? ⟨(ad.add (k * 15)).block, (ad.add (k * 15)).off + 3, none⟩ = some (.int .u64 x.hr) := fun q => (q.h.cell (by rw [Go.Proofs.YtnmnihlhcokjpaaGreatDoor.add_block]; exact hab)).trans (h1 2 _ rfl)
  obtain ⟨d, hd⟩ : ∃ d, desB x t.ow = d := ⟨_, rfl⟩
  have HD := fun q : LaterW wb => Lib.hid (rdes_is t (some ad) n cap L hL k x hx d (Lib.hid hd) q.w' (Lib.hid ((HP.out.below q.h (Nat.le_refl _)).wide q.h.size)))
  obtain ⟨p1, e1⟩ : ∃ p, (x.st != 0) = p := ⟨_, rfl⟩
  obtain ⟨p2, e2⟩ : ∃ p, decide (x.hr < t.ow) = p := ⟨_, rfl⟩
  have HE := Lib.hid (show (!d && (p1 && p2)) = q by rw [← e1, ← e2, ← hq.out, ← hd]; unfold mayB; rw [Bool.eq_iff_iff]; simp)
  clear hq h1 h0 hkn hd
  cases d with
  | true =>
    refine region_later mixedL (by kernel_rfl) ?_
    (refine BigFrame.wpQuiet_want (by kernel_rfl) (fun K hK => ?_); refine quiet_load_row 31 _ rfl X (by kernel_rfl) _ _ (0, 0) _ (S.bkq 0 rfl) Tryz.underlying31 rfl (by kernel_rfl) ?_; refine hK _ ?_; clear hK; go_simp)
    go_big_quiet_step (fail)
    go_big_quiet_step ((go_at_call 90; with_reducible exact Calls.later (HD _).out))
    repeat (go_big_quiet_step (fail))
    refine wpQuiet_nil ?_
    intro r
    have S2 := S.below r.h
    generalize r.w' = w2 at S2 ⊢
    go_wp2
    go_ret
    exact ⟨ret_bool (by rw [← HE.out]; rfl), HX.out ▸ S2.old⟩
  | false =>
    cases p1 with
    | false =>
      refine region_later mixedL (by kernel_rfl) ?_
      (refine BigFrame.wpQuiet_want (by kernel_rfl) (fun K hK => ?_); refine quiet_load_row 31 _ rfl X (by kernel_rfl) _ _ (0, 0) _ (S.bkq 0 rfl) Tryz.underlying31 rfl (by kernel_rfl) ?_; refine hK _ ?_; clear hK; go_simp)
      go_big_quiet_step (fail)
      go_big_quiet_step ((go_at_call 90; with_reducible exact Calls.later (HD _).out))
      repeat (go_big_quiet_step (fail))
      refine wpQuiet_nil ?_
      intro r
      have S2 := S.below r.h
      generalize r.w' = w2 at S2 ⊢
      go_wp2
      go_ret
      exact ⟨ret_bool (by rw [← HE.out]; rfl), HX.out ▸ S2.old⟩
    | true =>
      refine region_later mixedL (by kernel_rfl) ?_
      (refine BigFrame.wpQuiet_want (by kernel_rfl) (fun K hK => ?_); refine quiet_load_row 31 _ rfl X (by kernel_rfl) _ _ (0, 0) _ (S.bkq 0 rfl) Tryz.underlying31 rfl (by kernel_rfl) ?_; refine hK _ ?_; clear hK; go_simp)
      go_big_quiet_step (fail)
      go_big_quiet_step ((go_at_call 90; with_reducible exact Calls.later (HD _).out))
      repeat (go_big_quiet_step (fail))
      refine wpQuiet_nil ?_
      intro r
      have S2 := S.below r.h
      generalize r.w' = w2 at S2 ⊢
      go_wp2
      go_ret
      exact ⟨ret_bool (by rw [← HE.out]; simp), HX.out ▸ S2.old⟩

end Go.Proofs.YtnmnihlhcokjpaaGreatDoor

/- The law's example; '==' of ports that are alike; the document's Rise, Block and Next. -/
namespace Go.Proofs.YtnmnihlhcokjpaaGreatDoor
set_option maxRecDepth 100000
open Go.ChangeShapes Go.WideShapes Go.ChangeAt Go.RowKit
set_option linter.unusedVariables false

/-- The document's answers, of a state. -/
def rriseI (s : Int) : Int × Int := if s = 1 then (2, 1) else (s, 0)
def rblockI (s : Int) : Int × Int × Int := if s = 0 ∨ s = 1 then (s, 0, 0) else if s = 3 ∨ s = 4 then (1, 1, 1) else (1, 1, 0)
def rnextI (s : Int) : Int × Int × Int := if s = 2 then (3, 1, 0) else if s = 3 then (4, 0, 1) else (s, 0, 0)

theorem rrise_is (s a b : Int) (h : Hid (rriseI s = (a, b))) (w : World) :
    Calls Tryz.prog 91 #[.int .i64 s] w fun e w' => e = .returned (.tuple #[.int .i64 a, .int .i64 b]) ∧ w = w' := by
  have h := h.out
  unfold rriseI at h
  by_cases c : s = 1
  · rw [if_pos c] at h
    cases h
    subst c
    go_enter Tryz.func91, Tryz.ntmps91
    go_wp2
    exact bodyPost_ret (v := .tuple #[.int .i64 2, .int .i64 1]) (by simp [results, Tryz.results91, go_sem]) rfl ⟨rfl, rfl⟩
  · rw [if_neg c] at h
    cases h
    have hb : (s == 1) = false := by simpa using c
    go_enter Tryz.func91, Tryz.ntmps91
    go_wp2
    exact bodyPost_ret (v := .tuple #[.int .i64 s, .int .i64 0]) (by simp [results, Tryz.results91, go_sem]) rfl ⟨rfl, rfl⟩

theorem rnext_is (s a b d : Int) (h : Hid (rnextI s = (a, b, d))) (w : World) :
    Calls Tryz.prog 24 #[.int .i64 s] w fun e w' => e = .returned (.tuple #[.int .i64 a, .int .i64 b, .int .i64 d]) ∧ w = w' := by
  have h := h.out
  unfold rnextI at h
  by_cases c : s = 2
  · rw [if_pos c] at h
    cases h
    subst c
    go_enter Tryz.func24, Tryz.ntmps24
    go_wp2
    exact bodyPost_ret (v := .tuple #[.int .i64 3, .int .i64 1, .int .i64 0]) (by simp [results, Tryz.results24, go_sem]) rfl ⟨rfl, rfl⟩
  · rw [if_neg c] at h
    have hb : (s == 2) = false := by simpa using c
    by_cases k : s = 3
    · rw [if_pos k] at h
      cases h
      subst k
      go_enter Tryz.func24, Tryz.ntmps24
      go_wp2
      exact bodyPost_ret (v := .tuple #[.int .i64 4, .int .i64 0, .int .i64 1]) (by simp [results, Tryz.results24, go_sem]) rfl ⟨rfl, rfl⟩
    · rw [if_neg k] at h
      cases h
      have hk : (s == 3) = false := by simpa using k
      go_enter Tryz.func24, Tryz.ntmps24
      go_wp2
      exact bodyPost_ret (v := .tuple #[.int .i64 s, .int .i64 0, .int .i64 0]) (by simp [results, Tryz.results24, go_sem]) rfl ⟨rfl, rfl⟩

theorem rblock_is (s a b d : Int) (h : Hid (rblockI s = (a, b, d))) (w : World) :
    Calls Tryz.prog 92 #[.int .i64 s] w fun e w' => e = .returned (.tuple #[.int .i64 a, .int .i64 b, .int .i64 d]) ∧ w = w' := by
  have h := h.out
  unfold rblockI at h
  by_cases c0 : s = 0
  · subst c0
    cases h
    go_enter Tryz.func92, Tryz.ntmps92
    go_wp2
    exact bodyPost_ret (v := .tuple #[.int .i64 0, .int .i64 0, .int .i64 0]) (by simp [results, Tryz.results92, go_sem]) rfl ⟨rfl, rfl⟩
  by_cases c1 : s = 1
  · subst c1
    cases h
    go_enter Tryz.func92, Tryz.ntmps92
    go_wp2
    exact bodyPost_ret (v := .tuple #[.int .i64 1, .int .i64 0, .int .i64 0]) (by simp [results, Tryz.results92, go_sem]) rfl ⟨rfl, rfl⟩
  by_cases c3 : s = 3
  · subst c3
    cases h
    go_enter Tryz.func92, Tryz.ntmps92
    go_wp2
    exact bodyPost_ret (v := .tuple #[.int .i64 1, .int .i64 1, .int .i64 1]) (by simp [results, Tryz.results92, go_sem]) rfl ⟨rfl, rfl⟩
  by_cases c4 : s = 4
  · subst c4
    cases h
    go_enter Tryz.func92, Tryz.ntmps92
    go_wp2
    exact bodyPost_ret (v := .tuple #[.int .i64 1, .int .i64 1, .int .i64 1]) (by simp [results, Tryz.results92, go_sem]) rfl ⟨rfl, rfl⟩
  rw [if_neg (fun e => e.elim c0 c1), if_neg (fun e => e.elim c3 c4)] at h
  cases h
  have b0 : (s == 0) = false := by simpa using c0
  have b1 : (s == 1) = false := by simpa using c1
  have b3 : (s == 3) = false := by simpa using c3
  have b4 : (s == 4) = false := by simpa using c4
  go_enter Tryz.func92, Tryz.ntmps92
  go_wp2
  exact bodyPost_ret (v := .tuple #[.int .i64 1, .int .i64 1, .int .i64 0]) (by simp [results, Tryz.results92, go_sem]) rfl ⟨rfl, rfl⟩

end Go.Proofs.YtnmnihlhcokjpaaGreatDoor
