/- Several texts in one, one behind the other: FrameWrap, IdsRight, IdsNum, SendSmall, SendConfig, SendHeld. -/
import Derived.Test.YtnmnihlhcokjpaaGreatDoorPk01
import Derived.LoopTactic
import Derived.Deep.DeepCutAuto
import Derived.Test.YtnmnihlhcokjpaaGreatDoorPk06
import Derived.Test.YtnmnihlhcokjpaaGreatDoorPk08
import Derived.Test.YtnmnihlhcokjpaaGreatDoorPk04

/- Wrap: the frame of a Bpdu's bytes. -/
namespace Go.Proofs.YtnmnihlhcokjpaaGreatDoor
set_option maxRecDepth 100000
open Go.ChangeShapes Go.WideShapes Go.ChangeAt Go.RowKit
set_option linter.unusedVariables false

def WrapEnd (a : Int) (l : List UInt8) (M : Nat) (w : World) (e : Ending) (w' : World) : Prop :=
  ∃ g, e = .returned (.agg #[.int .u64 1652522221568, .int .u64 a, .int .u16 (M : Int), .slice (some ⟨g, 0, none⟩) M M]) ∧ w.heap.size ≤ g ∧ Bk w' g 5 ((66 :: 66 :: 3 :: l).map bc) ∧ Below w.heap.size w w'

theorem rep3 (m : Nat) : List.replicate (3 + m) (Value.int .u8 0) = .int .u8 0 :: .int .u8 0 :: .int .u8 0 :: List.replicate m (.int .u8 0) := by
  rw [Nat.add_comm]; rfl

/-- The row behind 'j' rounds. -/
def hrow (m : Nat) : Nat → List Value
  | 0 => .int .u8 0 :: .int .u8 0 :: .int .u8 0 :: List.replicate m (.int .u8 0)
  | 1 => .int .u8 66 :: .int .u8 0 :: .int .u8 0 :: List.replicate m (.int .u8 0)
  | 2 => .int .u8 66 :: .int .u8 66 :: .int .u8 0 :: List.replicate m (.int .u8 0)
  | _ => .int .u8 66 :: .int .u8 66 :: .int .u8 3 :: List.replicate m (.int .u8 0)

def WR (w : World) (m j : Nat) (wr : World) : Prop := Bk wr (w.heap.size + 1) 5 (hrow m j) ∧ FB wr w.heap.size 0 0 0 none 0 0 ∧ Below w.heap.size w wr

theorem splice3 (l : List UInt8) (m : Nat) (h : l.length = m) : splice (hrow m 3) 3 (l.map bc) = (66 :: 66 :: 3 :: l).map bc := by
  have e : (3 + (l.map bc).length) = m + 3 := by simp [h]; omega
  unfold splice
  rw [e]
  simp only [hrow, List.take_succ_cons, List.take_zero, List.drop_succ_cons, List.drop_replicate, Nat.sub_self, List.replicate_zero, List.append_nil, List.cons_append, List.nil_append, List.map_cons]
  rfl

theorem wrap_any (a : Int) (B : Option Addr) (m d : Nat) (l : List UInt8) (M : Nat) (hM : Hid (M = 3 + m)) (hl : Hid (l.length = m)) (hm : m ≤ 1497) (w : World) (hd : Hd w) (hr : RB w B 0 w.heap.size l) :
    Calls Tryz.prog 111 #[.int .u64 a, .slice B m d] w (WrapEnd a l M w) := by
  have hMi : (3 : Int) + (m : Int) = (M : Int) := by rw [hM.out]; omega
  have hM3 : 3 ≤ M := by have := hM.out; omega
  have hMu : M ≤ 1500 := by have := hM.out; omega
  have hmk := make_bytes M (by omega)
  have hwk : IntKind.u16.wrap (M : Int) = (M : Int) := by rw [show IntKind.u16.wrap (M : Int) = (M : Int) % 65536 by simp [IntKind.wrap, IntKind.bits, IntKind.signed]]; omega
  have s3 : ∀ (g : Nat) (w : World), (Instr.sliceAt 79 (.slice (some ⟨g, 0, none⟩) M M) (some (.int .i64 3)) none none).run Tryz.prog w = .ok (.slice (cutA (some ⟨g, 0, none⟩) 3 M) (M - 3) (M - 3)) w := fun g => scut_any _ M M 3 hM3
  go_enter Tryz.func111, Tryz.ntmps111
  go_upto_region 2 with fail
  obtain ⟨w0, hB0, hb0, hs0, hw0⟩ := boxed w 0 0 0 none 0 0
  rw [← hw0]
  have hsz0 : w0.heap.size = w.heap.size + 1 := by rw [hw0]; simp
  clear hw0 hmk
  obtain ⟨w1, hw1⟩ : ∃ w1, w1 = w0.alloc (.cells (Array.replicate M (Value.int .u8 0)) 5) := ⟨_, rfl⟩
  rw [← hw1]
  have hb1 : Below w0.heap.size w0 w1 := by rw [hw1]; exact below_new (Nat.le_refl _)
  have hP1 : Bk w1 (w.heap.size + 1) 5 (.int .u8 0 :: .int .u8 0 :: .int .u8 0 :: List.replicate m (.int .u8 0)) := by rw [hw1, ← hsz0, hM.out, ← rep3, ← List.toArray_replicate]; exact heap_alloc_new w0 _
  clear hw1
  have hB1 := hB0.below hb1 hs0
  have hbw1 : Below w.heap.size w w1 := below_two hb0 hb1 hb0.size
  have hd1 : Hd w1 := hd.below hbw1 (Nat.le_refl _)
  obtain ⟨y0, y1, y2, y3⟩ := hd1
  have k0 : (0 : Int) < (M : Int) := by omega
  have k1 : (1 : Int) < (M : Int) := by omega
  have k2 : (2 : Int) < (M : Int) := by omega
  have k0' : 0 < M := by omega
  have k1' : 1 < M := by omega
  have k2' : 2 < M := by omega
  have i0 : ∀ w : World, (Instr.index 158 (.agg #[.int .u8 66, .int .u8 66, .int .u8 3]) (.int .i64 0)).run Tryz.prog w = .ok (.int .u8 66) w := fun _ => by kernel_rfl
  have i1 : ∀ w : World, (Instr.index 158 (.agg #[.int .u8 66, .int .u8 66, .int .u8 3]) (.int .i64 1)).run Tryz.prog w = .ok (.int .u8 66) w := fun _ => by kernel_rfl
  have i2 : ∀ w : World, (Instr.index 158 (.agg #[.int .u8 66, .int .u8 66, .int .u8 3]) (.int .i64 2)).run Tryz.prog w = .ok (.int .u8 3) w := fun _ => by kernel_rfl
  clear hB0 hb0 hs0 hb1 hsz0
  go_wp2_with fail
  clear y0 y1 y2 y3
  go_loopw [13] (fun i wr => ∃ j : Nat, j ≤ 3 ∧ i = .int .i64 j ∧ WR w m j wr) (fun i _ => 3 - (intOf i).toNat)
  case atStart => exact ⟨0, by omega, rfl, hP1, hB1, hbw1⟩
  case round =>
    obtain ⟨j, hj, rfl, hP, hB, hbr⟩ := hrel
    clear hP1 hB1 hbw1
    match j, hj with
    | 0, _ =>
      have x0 := hP.cell 0
      have f0 := hP.thaw 0
      simp only [hrow, List.getElem?_cons_zero] at x0
      go_wp2
      go_roundw
      case rel => exact ⟨1, by omega, by go_num, hP.set 0 _, hB.far (p := ⟨w.heap.size + 1, 0, none⟩) (Nat.succ_ne_self _) _, hbr.setCell (Nat.le_succ _) _⟩
      case measure => simp [intOf]
    | 1, _ =>
      have x1 := hP.cell 1
      have f1 := hP.thaw 1
      simp only [hrow, List.getElem?_cons_zero, List.getElem?_cons_succ] at x1
      go_wp2
      go_roundw
      case rel => exact ⟨2, by omega, by go_num, hP.set 1 _, hB.far (p := ⟨w.heap.size + 1, 1, none⟩) (Nat.succ_ne_self _) _, hbr.setCell (Nat.le_succ _) _⟩
      case measure => simp [intOf]
    | 2, _ =>
      have x2 := hP.cell 2
      have f2 := hP.thaw 2
      simp only [hrow, List.getElem?_cons_zero, List.getElem?_cons_succ] at x2
      go_wp2
      go_roundw
      case rel => exact ⟨3, by omega, by go_num, hP.set 2 _, hB.far (p := ⟨w.heap.size + 1, 2, none⟩) (Nat.succ_ne_self _) _, hbr.setCell (Nat.le_succ _) _⟩
      case measure => simp [intOf]
    | 3, _ =>
      have hsrc : Hid (0 < (l.map bc).length → cutA (some ⟨w.heap.size + 1, 0, none⟩) 3 M = some ⟨w.heap.size + 1, 3, none⟩ ∧ ∃ ad, B = some ad ∧ ∀ (j : Nat) v, (l.map bc)[j]? = some v → wr.cell? (ad.add j) = some v) := by
        intro h
        refine ⟨?_, (copy_src hr hbr (some ⟨0, 0, none⟩) h).2⟩
        unfold cutA
        rw [if_neg (by have := hM.out; simp [hl.out] at h; omega)]
        simp [addr_add]
      have hlm : Hid ((l.map bc).length = Nat.min m (M - 3)) := by show _ = _; rw [List.length_map, hl.out, show M - 3 = m by have := hM.out; omega]; exact (Nat.min_self m).symm
      have hlf : Hid (3 + (l.map bc).length ≤ (hrow m 3).length) := by show _ ≤ _; simp [hrow, hl.out]; omega
      have hg : Hid (wr.heap[w.heap.size + 1]? = some (.cells (hrow m 3).toArray 5 (0, 0))) := hP
      have hbrr : Below (w.heap.size + 1) wr wr := Below.refl _ _
      go_wp2_with (with_reducible refine wpList_copy_splice rfl (.tmp 23) (.tmp 24) 79 79 rfl 5 Tryz.underlying79 Tryz.sizeByte _ _ _ _ _ _ rfl rfl (w.heap.size + 1) 3 (hrow m 3) 5 hg.out (l.map bc) hlm.out hsrc.out hlf.out (one_bcs l) (w.heap.size + 1) wr hbrr (Nat.le_refl _) ?_; intro w2 hg2 hb2; have hB2 := hB.below hb2 (Nat.lt_succ_self _); obtain ⟨c0, c1, c2, c3⟩ := hB2.cells; obtain ⟨z0, z1, z2, z3⟩ := hB2.thaws)
      have hP2 : Bk w2 (w.heap.size + 1) 5 ((66 :: 66 :: 3 :: l).map bc) := by
        have := hg2.out
        rw [splice3 l m hl.out] at this
        exact this
      have hbw2 : Below w.heap.size w w2 := hbr.trans (hb2.mono (Nat.le_succ _))
      have hne : w.heap.size ≠ w.heap.size + 1 := (Nat.succ_ne_self _).symm
      refine bodyPost_ret (v := .agg #[.int .u64 1652522221568, .int .u64 a, .int .u16 (M : Int), .slice (some ⟨w.heap.size + 1, 0, none⟩) M M]) (by simp [results, Tryz.results111, go_sem, c0, c1, c2, c3]) rfl ⟨w.heap.size + 1, rfl, Nat.le_succ _, ?_, ?_⟩
      · exact (((hP2.far hne _).far hne _).far hne _).far hne _
      · exact (((hbw2.setCell (Nat.le_refl _) _).setCell (Nat.le_refl _) _).setCell (Nat.le_refl _) _).setCell (Nat.le_refl _) _

end Go.Proofs.YtnmnihlhcokjpaaGreatDoor

/- Which addresses may be one's: contracts of Group and Right, the program's and the document's. -/
namespace Go.Proofs.YtnmnihlhcokjpaaGreatDoor
set_option maxRecDepth 100000
open Go.ChangeShapes Go.WideShapes Go.ChangeAt Go.RowKit
set_option linter.unusedVariables false

def groupB (a : Int) : Bool := a / 1099511627776 % 2 == 1
end Go.Proofs.YtnmnihlhcokjpaaGreatDoor

/- The numbers of bridges and ports, and what is told of addresses: contracts of the functions, for every argument. -/
namespace Go.Proofs.YtnmnihlhcokjpaaGreatDoor
set_option maxRecDepth 100000
open Go.ChangeShapes Go.WideShapes Go.ChangeAt Go.RowKit
set_option linter.unusedVariables false

def resB (a : Int) : Bool := a / 16 == 103282638848


theorem split_any (a : Int) (ha0 : 0 ≤ a) (ha1 : a ≤ 18446744073709551615) (w : World) :
    Calls Tryz.prog 110 #[.int .u64 a] w fun e w' => e = .returned (.tuple #[.int .u16 (a / 281474976710656), .int .u64 (a % 281474976710656)]) ∧ w = w' := by
  go_enter Tryz.func110, Tryz.ntmps110
  go_wp2
  go_ret2
  exact ⟨ret_int2 rfl (and48 a ha0 ha1), rfl⟩

end Go.Proofs.YtnmnihlhcokjpaaGreatDoor

/- there, Limit, age, goesOut: contracts. -/
namespace Go.Proofs.YtnmnihlhcokjpaaGreatDoor
set_option maxRecDepth 100000
open Go.ChangeShapes Go.WideShapes Go.ChangeAt Go.RowKit
set_option linter.unusedVariables false
set_option linter.unusedSimpArgs false

theorem limit_is (w : World) : Calls Tryz.prog 51 #[] w fun e w' => e = .returned (.int .i64 256) ∧ w = w' := by
  go_enter Tryz.func51, Tryz.ntmps51
  go_wp2
  go_ret
  exact ⟨rfl, rfl⟩

theorem there_is (t : Th) (A : Option Addr) (n cap : Nat) (i : Int) (q : Bool) (hq : Hid ((decide (0 ≤ i) && decide (i < (n : Int))) = q)) (w : World) :
    Calls Tryz.prog 71 #[.agg (lT t A n cap).toArray, .int .i64 i] w fun e w' => e = .returned (.bool q) ∧ Below w.heap.size w w' := by
  obtain ⟨wb, hwb, S⟩ := hs_one w 31 (lT t A n cap)
  go_enter Tryz.func71, Tryz.ntmps71
  go_upto_region 1 with fail
  clear hwb
  have c18 := S.cell 0 18 rfl rfl
  by_cases i0 : 0 ≤ i
  · by_cases i1 : i < (n : Int)
    · go_wp2
      go_ret
      exact ⟨ret_bool (by rw [← hq.out]; simp [i0, i1]), S.old⟩
    · go_wp2
      go_ret
      exact ⟨ret_bool (by rw [← hq.out, show decide (i < (n : Int)) = false from decide_eq_false (by omega), Bool.and_false]), S.old⟩
  · go_wp2
    go_ret
    exact ⟨ret_bool (by rw [← hq.out, show decide (0 ≤ i) = false from decide_eq_false (by omega), Bool.false_and]), S.old⟩

set_option maxHeartbeats 1000000 in
theorem age_is (t : Th) (A : Option Addr) (n cap : Nat) (L : List Po) (a : Int) (ha : Hid (toldI t L = a)) (hL : Hid (L.length = n)) (hf : n ≤ 200) (hb : Hid (∀ x ∈ L, PoB x)) (w : World) (hp : Hid (PoAt w A w.heap.size L)) :
    Calls Tryz.prog 100 #[.agg (lT t A n cap).toArray] w fun e w' => e = .returned (.int .i64 a) ∧ Below w.heap.size w w' := by
  have hA := ha.out
  unfold toldI at hA
  obtain ⟨q, hq⟩ : ∃ q, decide (t.ro = t.ow) = q := ⟨_, rfl⟩
  obtain ⟨r, hr⟩ : ∃ r, (decide (0 ≤ t.rp) && decide (t.rp < (n : Int))) = r := ⟨_, rfl⟩
  have HI := fun W => Lib.hid (isroot_is t A n cap q (Lib.hid hq) W)
  have HT := fun W => Lib.hid (there_is t A n cap t.rp r (Lib.hid hr) W)
  obtain ⟨wb, hwb, S⟩ := hs_one w 31 (lT t A n cap)
  go_enter Tryz.func100, Tryz.ntmps100
  go_upto_region 1 with fail
  clear hwb
  obtain ⟨X, hX⟩ : ∃ X, w.heap.size = X := ⟨_, rfl⟩
  rw [hX] at S ⊢
  have HX := Lib.hid hX
  clear hX
  cases q with
  | true =>
    obtain rfl : 0 = a := by rw [← hA, if_pos (of_decide_eq_true hq)]
    clear hA hq hr
    have hx := S.bk 0 rfl
    go_wp2_with (with_reducible refine wpList_load_rowG (by kernel_rfl) 31 (.tmp 1) rfl X (by kernel_rfl) _ _ (0, 0) _ hx Tryz.underlying31 rfl (by kernel_rfl) ?_)
    (with_reducible refine (HI _).out.mono ?_); rintro e w1 ⟨rfl, b1⟩
    have S1 := S.below b1
    clear S hx b1
    go_wp2
    go_ret
    exact ⟨rfl, S1.old⟩
  | false =>
    have q1 : ¬ t.ro = t.ow := of_decide_eq_false hq
    rw [if_neg q1] at hA
    have HAA := Lib.hid hA
    have HRR := Lib.hid hr
    clear hA hq hr q1
    have hx := S.bk 0 rfl
    go_wp2_with (with_reducible refine wpList_load_rowG (by kernel_rfl) 31 (.tmp 1) rfl X (by kernel_rfl) _ _ (0, 0) _ hx Tryz.underlying31 rfl (by kernel_rfl) ?_)
    (with_reducible refine (HI _).out.mono ?_); rintro e w1 ⟨rfl, b1⟩
    have S1 := S.below b1
    clear S hx b1 HI
    have hx := S1.bk 0 rfl
    have c3 := S1.cell 0 3 rfl rfl
    cases r with
    | false =>
      obtain rfl : 0 = a := by
        rw [← HAA.out]
        have h := HRR.out
        simp only [Bool.and_eq_false_iff, decide_eq_false_iff_not] at h
        split
        · rw [List.getElem?_eq_none (by have := hL.out; omega)]
        · rfl
      go_wp2_with (with_reducible refine wpList_load_rowG (by kernel_rfl) 31 (.tmp 1) rfl X (by kernel_rfl) _ _ (0, 0) _ hx Tryz.underlying31 rfl (by kernel_rfl) ?_)
      (with_reducible refine (HT _).out.mono ?_); rintro e w2 ⟨rfl, b2⟩
      have S2 := S1.below b2
      clear S1 hx b2 c3
      go_wp2
      go_ret
      exact ⟨rfl, S2.old⟩
    | true =>
      have h := HRR.out
      simp only [Bool.and_eq_true, decide_eq_true_eq] at h
      obtain ⟨r2, r3⟩ := h
      obtain ⟨j, hj⟩ : ∃ j : Nat, t.rp = j := ⟨t.rp.toNat, by omega⟩
      have hjn : j < n := by omega
      obtain ⟨y, hy⟩ := po_at hL.out hjn
      have hA := HAA.out
      rw [if_pos r2, hj, Int.toNat_natCast, hy] at hA
      simp only at hA
      have hPy := hb.out y (List.mem_of_getElem? hy)
      have HO := fun W => Lib.hid (older_any y.av (by unfold PoB at hPy; omega) (by unfold PoB at hPy; omega) W)
      rw [hA] at HO
      have HY := Lib.hid hy
      have HJ := Lib.hid hj
      clear r2 r3 hj hPy hA hy
      go_wp2_with (with_reducible refine wpList_load_rowG (by kernel_rfl) 31 (.tmp 1) rfl X (by kernel_rfl) _ _ (0, 0) _ hx Tryz.underlying31 rfl (by kernel_rfl) ?_)
      (with_reducible refine (HT _).out.mono ?_); rintro e w2 ⟨rfl, b2⟩
      have S2 := S1.below b2
      clear S1 hx b2 c3 HT
      have c18 := S2.cell 0 18 rfl rfl
      have c3 := S2.cell 0 3 rfl rfl
      have hji : (j : Int) < (n : Int) := by omega
      have hjz : ¬ (n : Int) ≤ (j : Int) := by omega
      obtain ⟨ad, rfl, -, -, p0⟩ := (hp.out.below S2.old (Nat.le_refl _)).cells HY.out
      have p10 := p0 9 _ rfl
      clear p0
      rw [HJ.out] at c3
      go_wp2_with fail
      (with_reducible refine (HO _).out.mono ?_); rintro e w3 ⟨rfl, rfl⟩
      go_wp2
      go_ret
      exact ⟨rfl, S2.old⟩

set_option maxHeartbeats 1000000 in
theorem goes_is (t : Th) (A : Option Addr) (n cap : Nat) (i : Int) (x : Bq) (hin : BqIn x) (ht : 0 ≤ t.ow ∧ t.ow ≤ 18446744073709551615) (w : World) (hd : Hd w) :
    Calls Tryz.prog 86 #[.agg (lT t A n cap).toArray, .int .i64 i, .agg (lB x).toArray] w (OutEnd w ⟨i, t.ow % 281474976710656, x⟩) := by
  have HP := fun W => Lib.hid (bq_put x hin W)
  have HS := fun W => Lib.hid (split_any t.ow ht.1 ht.2 W)
  have HD := Lib.hid hd
  clear hd hin ht
  obtain ⟨wb, hwb, S⟩ := hs_three w 31 46 83 (lT t A n cap) (lB x) [.int .i64 0, .int .u64 0, .int .u64 0, .int .u16 0, .slice none 0 0]
  go_enter Tryz.func86, Tryz.ntmps86
  go_upto_region 1 with fail
  clear hwb
  obtain ⟨X, hX⟩ : ∃ X, w.heap.size = X := ⟨_, rfl⟩
  rw [hX] at S ⊢
  obtain ⟨Y, hY⟩ : ∃ Y, X + 1 = Y := ⟨_, rfl⟩
  rw [hY] at S ⊢
  obtain ⟨Z, hZ⟩ : ∃ Z, Y + 1 = Z := ⟨_, rfl⟩
  rw [hZ] at S ⊢
  clear hY hZ
  have HX := Lib.hid hX
  clear hX
  have c0 := S.cell 2 0 rfl rfl
  go_wp2_with fail
  (with_reducible refine (HS _).out.mono ?_); rintro e v2 ⟨rfl, rfl⟩
  clear c0 HS
  have hy := S.bk 1 rfl
  go_wp2_with (with_reducible refine wpList_load_row rfl 46 (.tmp 5) rfl Y (by kernel_rfl) _ _ (0, 0) _ hy Tryz.underlying46 rfl (by kernel_rfl) ?_)
  (with_reducible refine (HP _).out.mono ?_); rintro e w2 ⟨g, rfl, hg, hk, hl, b2⟩
  have S2 := S.below b2
  have HD2 := HD.out.below S2.old (Nat.le_refl _)
  have hle := bqN_le x
  have HW := Lib.hid (wrap_any (t.ow % 281474976710656) (some ⟨g, 0, none⟩) (bqN x) (bqN x) (bqB x) (3 + bqN x) (Lib.hid rfl) (Lib.hid hl) (by omega) w2 HD2 (Row.rb (cap := bqN x) ⟨[], by rw [hl]; simp, by rw [hl]; exact Nat.le_refl _, by simpa using hk⟩ 0 _ (Nat.zero_le _) hk.lt))
  clear S hy HP hg hk b2 HD
  go_wp2_with fail
  (with_reducible refine HW.out.mono ?_); rintro e w3 ⟨g3, rfl, hg3, hk3, b3⟩
  have S3 := S2.below b3
  have HZ : Z < w2.heap.size := S2.lt 0 rfl
  have HXG : X ≤ w2.heap.size := by rw [← HX.out]; exact S2.old.size
  have hz := S3.bk 0 rfl
  clear S2 HW b3
  obtain ⟨M, hM⟩ : ∃ M, 3 + bqN x = M := ⟨_, rfl⟩
  rw [hM]
  have e2 : (lO ⟨⟨i, t.ow % 281474976710656, x⟩, g3, M⟩).toArray = #[.int .i64 i, .int .u64 1652522221568, .int .u64 (t.ow % 281474976710656), .int .u16 (M : Int), .slice (some ⟨g3, 0, none⟩) M M] := by rw [← hM]; rfl
  have S4 := S3.row 0 rfl (lO ⟨⟨i, t.ow % 281474976710656, x⟩, g3, M⟩)
  have hne : g3 ≠ Z := by omega
  have hln : (ouB ⟨i, t.ow % 281474976710656, x⟩).length = M := by rw [ouB_len, ← hM]; rfl
  have HHM := Lib.hid hM
  clear hM hle hl
  go_wp2_with (refine wpList_store_row rfl 83 _ _ rfl Z _ rfl rfl _ _ hz (by kernel_rfl) (by kernel_rfl) (by kernel_rfl) ?_)
  rw [← e2]
  refine bodyPost_ret (v := .agg (lO ⟨⟨i, t.ow % 281474976710656, x⟩, g3, M⟩).toArray) (results_cell_row rfl _ _ Z _ _ _ _ rfl (setRow_heap w3 Z _ (lO ⟨⟨i, t.ow % 281474976710656, x⟩, g3, M⟩).toArray _ _ hz) Tryz.underlying83 rfl (by kernel_rfl)) rfl ⟨g3, M, rfl, ⟨Nat.le_trans (by rw [HX.out]; exact HXG) hg3, ?_⟩, S4.old⟩
  refine ⟨[], by rw [hln]; simp, by rw [hln]; exact Nat.le_refl _, ?_⟩
  refine (setRow_other w3 Z g3 _ hne).trans ?_
  rw [List.append_nil]
  exact hk3

end Go.Proofs.YtnmnihlhcokjpaaGreatDoor

/- config: contract. -/
namespace Go.Proofs.YtnmnihlhcokjpaaGreatDoor
set_option maxRecDepth 100000
open Go.ChangeShapes Go.WideShapes Go.ChangeAt Go.RowKit
set_option linter.unusedVariables false
set_option linter.unusedSimpArgs false

set_option maxHeartbeats 4000000 in
theorem config_is (t : Th) (A : Option Addr) (n cap : Nat) (L : List Po) (p : Po) (a : Int) (ha : Hid (toldI t L = a)) (hL : Hid (L.length = n)) (hf : n ≤ 200) (hn : Hid (-9223372036854775808 ≤ t.n1 ∧ t.n1 ≤ 9223372036854775807 ∧ -9223372036854775808 ≤ t.n2 ∧ t.n2 ≤ 9223372036854775807 ∧ -9223372036854775808 ≤ t.n3 ∧ t.n3 ≤ 9223372036854775807)) (hb : Hid (∀ x ∈ L, PoB x)) (w : World) (hp : Hid (PoAt w A w.heap.size L)) :
    Calls Tryz.prog 101 #[.agg (lT t A n cap).toArray, .agg (lP p).toArray] w fun e w' => e = .returned (.agg (lB (confQ t a p)).toArray) ∧ Below w.heap.size w w' := by
  have HAG := fun W (h : Below w.heap.size w W) => Lib.hid (age_is t A n cap L a ha hL hf hb W (Lib.hid ((hp.out.below h (Nat.le_refl _)).wide h.size)))
  have hab := toldI_bd t L
  rw [ha.out] at hab
  have HN := hn.out
  have HF0 := fun W => Lib.hid (field_any a (by omega) (by omega) W)
  have HF1 := fun W => Lib.hid (field_any t.n1 (by omega) (by omega) W)
  have HF2 := fun W => Lib.hid (field_any t.n2 (by omega) (by omega) W)
  have HF3 := fun W => Lib.hid (field_any t.n3 (by omega) (by omega) W)
  clear HN hab
  obtain ⟨wb, hwb, S⟩ := hs_three w 31 63 46 (lT t A n cap) (lP p) [.bool false, .bool false, .bool false, .int .u64 0, .int .u32 0, .int .u64 0, .int .u16 0, .int .u16 0, .int .u16 0, .int .u16 0, .int .u16 0]
  go_enter Tryz.func101, Tryz.ntmps101
  go_upto_region 1 with fail
  clear hwb
  obtain ⟨X, hX⟩ : ∃ X, w.heap.size = X := ⟨_, rfl⟩
  rw [hX] at S
  obtain ⟨Y, hY⟩ : ∃ Y, X + 1 = Y := ⟨_, rfl⟩
  rw [hY] at S
  obtain ⟨Z, hZ⟩ : ∃ Z, Y + 1 = Z := ⟨_, rfl⟩
  rw [hZ] at S
  rw [hX]
  rw [hY]
  rw [hZ]
  clear hX hY hZ
  refine wp_region_held_drew (S := (fun w' => ∃ cs, Hs w [(Z, 46, cs), (Y, 63, lP p), (X, 31, lT t A n cap)] w')) (by kernel_rfl) (⟨_, S.drew⟩) (fun hHeld => ?_)
  have S1 := S.drew
  refine wpAnyH_take (i := 0) (v := ?_) rfl (by kernel_rfl) (by kernel_rfl) (by kernel_rfl) (fun _ _ _ h => h) (Or.inl ⟨by kernel_rfl, ?_⟩) (by assumption) ?_
  rotate_left
  · intro w' hSw; (try dsimp only at hSw); go_simp; with_reducible rfl
  try simp only [Act.put, List.getElem_toArray, List.getElem_cons_succ, List.getElem_cons_zero, List.setIfInBounds_toArray, List.set_cons_succ, List.set_cons_zero]
  refine wpAnyH_take (i := 1) (v := ?_) rfl (by kernel_rfl) (by kernel_rfl) (by kernel_rfl) (fun _ _ _ h => h) (Or.inl ⟨by kernel_rfl, ?_⟩) (by assumption) ?_
  rotate_left
  · intro w' hSw; (try dsimp only at hSw); have c0 := (hSw.choose_spec.cell 2 11 rfl rfl); go_simp; with_reducible rfl
  try simp only [Act.put, List.getElem_toArray, List.getElem_cons_succ, List.getElem_cons_zero, List.setIfInBounds_toArray, List.set_cons_succ, List.set_cons_zero]
  refine wpAnyH_take (i := 2) (v := ?_) rfl (by kernel_rfl) (by kernel_rfl) (by kernel_rfl) (fun _ _ _ h => h) (Or.inl ⟨by kernel_rfl, ?_⟩) (by assumption) ?_
  rotate_left
  · intro w' hSw; (try dsimp only at hSw); go_simp; with_reducible rfl
  try simp only [Act.put, List.getElem_toArray, List.getElem_cons_succ, List.getElem_cons_zero, List.setIfInBounds_toArray, List.set_cons_succ, List.set_cons_zero]
  refine wpAnyH_take (i := 3) (v := ?_) rfl (by kernel_rfl) (by kernel_rfl) (by kernel_rfl) (fun _ _ _ h => h) (Or.inl ⟨by kernel_rfl, ?_⟩) (by assumption) ?_
  rotate_left
  · intro w' hSw; (try dsimp only at hSw); have c0 := (hSw.choose_spec.cell 1 7 rfl rfl); go_simp; with_reducible rfl
  try simp only [Act.put, List.getElem_toArray, List.getElem_cons_succ, List.getElem_cons_zero, List.setIfInBounds_toArray, List.set_cons_succ, List.set_cons_zero]
  refine wpAnyH_take (i := 4) (v := ?_) rfl (by kernel_rfl) (by kernel_rfl) (by kernel_rfl) (fun _ _ _ h => h) (Or.inl ⟨by kernel_rfl, ?_⟩) (by assumption) ?_
  rotate_left
  · intro w' hSw; (try dsimp only at hSw); go_simp; with_reducible rfl
  try simp only [Act.put, List.getElem_toArray, List.getElem_cons_succ, List.getElem_cons_zero, List.setIfInBounds_toArray, List.set_cons_succ, List.set_cons_zero]
  refine wpAnyH_take (i := 5) (v := ?_) rfl (by kernel_rfl) (by kernel_rfl) (by kernel_rfl) (fun _ _ _ h => h) (Or.inl ⟨by kernel_rfl, ?_⟩) (by assumption) ?_
  rotate_left
  · intro w' hSw; (try dsimp only at hSw); have c0 := (hSw.choose_spec.cell 2 1 rfl rfl); go_simp; with_reducible rfl
  try simp only [Act.put, List.getElem_toArray, List.getElem_cons_succ, List.getElem_cons_zero, List.setIfInBounds_toArray, List.set_cons_succ, List.set_cons_zero]
  refine wpAnyH_take (i := 6) (v := ?_) rfl (by kernel_rfl) (by kernel_rfl) (by kernel_rfl) (fun _ _ _ h => h) (Or.inl ⟨by kernel_rfl, ?_⟩) (by assumption) ?_
  rotate_left
  · intro w' hSw; (try dsimp only at hSw); go_simp; with_reducible rfl
  try simp only [Act.put, List.getElem_toArray, List.getElem_cons_succ, List.getElem_cons_zero, List.setIfInBounds_toArray, List.set_cons_succ, List.set_cons_zero]
  refine wpAnyH_take (i := 7) (v := ?_) rfl (by kernel_rfl) (by kernel_rfl) (by kernel_rfl) (fun _ _ _ h => h) (Or.inl ⟨by kernel_rfl, ?_⟩) (by assumption) ?_
  rotate_left
  · intro w' hSw; (try dsimp only at hSw); have c0 := (hSw.choose_spec.cell 2 2 rfl rfl); go_simp; with_reducible rfl
  try simp only [Act.put, List.getElem_toArray, List.getElem_cons_succ, List.getElem_cons_zero, List.setIfInBounds_toArray, List.set_cons_succ, List.set_cons_zero]
  refine wpAnyH_take (i := 8) (v := ?_) rfl (by kernel_rfl) (by kernel_rfl) (by kernel_rfl) (fun _ _ _ h => h) (Or.inl ⟨by kernel_rfl, ?_⟩) (by assumption) ?_
  rotate_left
  · intro w' hSw; (try dsimp only at hSw); go_simp; with_reducible rfl
  try simp only [Act.put, List.getElem_toArray, List.getElem_cons_succ, List.getElem_cons_zero, List.setIfInBounds_toArray, List.set_cons_succ, List.set_cons_zero]
  refine wpAnyH_take (i := 9) (v := ?_) rfl (by kernel_rfl) (by kernel_rfl) (by kernel_rfl) (fun _ _ _ h => h) (Or.inl ⟨by kernel_rfl, ?_⟩) (by assumption) ?_
  rotate_left
  · intro w' hSw; (try dsimp only at hSw); have c0 := (hSw.choose_spec.cell 2 0 rfl rfl); go_simp; with_reducible rfl
  try simp only [Act.put, List.getElem_toArray, List.getElem_cons_succ, List.getElem_cons_zero, List.setIfInBounds_toArray, List.set_cons_succ, List.set_cons_zero]
  refine wpAnyH_take (i := 10) (v := ?_) rfl (by kernel_rfl) (by kernel_rfl) (by kernel_rfl) (fun _ _ _ h => h) (Or.inl ⟨by kernel_rfl, ?_⟩) (by assumption) ?_
  rotate_left
  · intro w' hSw; (try dsimp only at hSw); go_simp; with_reducible rfl
  try simp only [Act.put, List.getElem_toArray, List.getElem_cons_succ, List.getElem_cons_zero, List.setIfInBounds_toArray, List.set_cons_succ, List.set_cons_zero]
  refine wpAnyH_take (i := 11) (v := ?_) rfl (by kernel_rfl) (by kernel_rfl) (by kernel_rfl) (fun _ _ _ h => h) (Or.inl ⟨by kernel_rfl, ?_⟩) (by assumption) ?_
  rotate_left
  · intro w' hSw; (try dsimp only at hSw); have c0 := (hSw.choose_spec.cell 1 0 rfl rfl); go_simp; with_reducible rfl
  try simp only [Act.put, List.getElem_toArray, List.getElem_cons_succ, List.getElem_cons_zero, List.setIfInBounds_toArray, List.set_cons_succ, List.set_cons_zero]
  refine wpAnyH_take (i := 12) (v := _) rfl (by kernel_rfl) (by kernel_rfl) (by kernel_rfl) (fun _ _ _ h => h) (Or.inl ⟨by kernel_rfl, fun w' hSw => exec_load_row 31 _ rfl X (by kernel_rfl) _ _ (0, 0) _ (hSw.choose_spec.bk 2 rfl) Tryz.underlying31 rfl (by kernel_rfl)⟩) (by assumption) ?_
  try simp only [Act.put, List.getElem_toArray, List.getElem_cons_succ, List.getElem_cons_zero, List.setIfInBounds_toArray, List.set_cons_succ, List.set_cons_zero]
  refine wpAnyH_take (i := 15) (v := ?_) rfl (by kernel_rfl) (by kernel_rfl) (by kernel_rfl) (fun _ _ _ h => h) (Or.inl ⟨by kernel_rfl, ?_⟩) (by assumption) ?_
  rotate_left
  · intro w' hSw; (try dsimp only at hSw); go_simp; with_reducible rfl
  try simp only [Act.put, List.getElem_toArray, List.getElem_cons_succ, List.getElem_cons_zero, List.setIfInBounds_toArray, List.set_cons_succ, List.set_cons_zero]
  refine wpAnyH_take (i := 16) (v := ?_) rfl (by kernel_rfl) (by kernel_rfl) (by kernel_rfl) (fun _ _ _ h => h) (Or.inl ⟨by kernel_rfl, ?_⟩) (by assumption) ?_
  rotate_left
  · intro w' hSw; (try dsimp only at hSw); go_simp; with_reducible rfl
  try simp only [Act.put, List.getElem_toArray, List.getElem_cons_succ, List.getElem_cons_zero, List.setIfInBounds_toArray, List.set_cons_succ, List.set_cons_zero]
  refine wpAnyH_take (i := 17) (v := ?_) rfl (by kernel_rfl) (by kernel_rfl) (by kernel_rfl) (fun _ _ _ h => h) (Or.inl ⟨by kernel_rfl, ?_⟩) (by assumption) ?_
  rotate_left
  · intro w' hSw; (try dsimp only at hSw); have c0 := (show w'.cell? ⟨X, 4, none⟩ = _ from hSw.choose_spec.cell 2 4 rfl rfl); go_simp; with_reducible rfl
  try simp only [Act.put, List.getElem_toArray, List.getElem_cons_succ, List.getElem_cons_zero, List.setIfInBounds_toArray, List.set_cons_succ, List.set_cons_zero]
  refine wpAnyH_take (i := 19) (v := ?_) rfl (by kernel_rfl) (by kernel_rfl) (by kernel_rfl) (fun _ _ _ h => h) (Or.inl ⟨by kernel_rfl, ?_⟩) (by assumption) ?_
  rotate_left
  · intro w' hSw; (try dsimp only at hSw); go_simp; with_reducible rfl
  try simp only [Act.put, List.getElem_toArray, List.getElem_cons_succ, List.getElem_cons_zero, List.setIfInBounds_toArray, List.set_cons_succ, List.set_cons_zero]
  refine wpAnyH_take (i := 20) (v := ?_) rfl (by kernel_rfl) (by kernel_rfl) (by kernel_rfl) (fun _ _ _ h => h) (Or.inl ⟨by kernel_rfl, ?_⟩) (by assumption) ?_
  rotate_left
  · intro w' hSw; (try dsimp only at hSw); go_simp; with_reducible rfl
  try simp only [Act.put, List.getElem_toArray, List.getElem_cons_succ, List.getElem_cons_zero, List.setIfInBounds_toArray, List.set_cons_succ, List.set_cons_zero]
  refine wpAnyH_take (i := 21) (v := ?_) rfl (by kernel_rfl) (by kernel_rfl) (by kernel_rfl) (fun _ _ _ h => h) (Or.inl ⟨by kernel_rfl, ?_⟩) (by assumption) ?_
  rotate_left
  · intro w' hSw; (try dsimp only at hSw); have c0 := (show w'.cell? ⟨X, 4 + 1, none⟩ = _ from hSw.choose_spec.cell 2 5 rfl rfl); go_simp; with_reducible rfl
  try simp only [Act.put, List.getElem_toArray, List.getElem_cons_succ, List.getElem_cons_zero, List.setIfInBounds_toArray, List.set_cons_succ, List.set_cons_zero]
  refine wpAnyH_take (i := 23) (v := ?_) rfl (by kernel_rfl) (by kernel_rfl) (by kernel_rfl) (fun _ _ _ h => h) (Or.inl ⟨by kernel_rfl, ?_⟩) (by assumption) ?_
  rotate_left
  · intro w' hSw; (try dsimp only at hSw); go_simp; with_reducible rfl
  try simp only [Act.put, List.getElem_toArray, List.getElem_cons_succ, List.getElem_cons_zero, List.setIfInBounds_toArray, List.set_cons_succ, List.set_cons_zero]
  refine wpAnyH_take (i := 24) (v := ?_) rfl (by kernel_rfl) (by kernel_rfl) (by kernel_rfl) (fun _ _ _ h => h) (Or.inl ⟨by kernel_rfl, ?_⟩) (by assumption) ?_
  rotate_left
  · intro w' hSw; (try dsimp only at hSw); go_simp; with_reducible rfl
  try simp only [Act.put, List.getElem_toArray, List.getElem_cons_succ, List.getElem_cons_zero, List.setIfInBounds_toArray, List.set_cons_succ, List.set_cons_zero]
  refine wpAnyH_take (i := 25) (v := ?_) rfl (by kernel_rfl) (by kernel_rfl) (by kernel_rfl) (fun _ _ _ h => h) (Or.inl ⟨by kernel_rfl, ?_⟩) (by assumption) ?_
  rotate_left
  · intro w' hSw; (try dsimp only at hSw); have c0 := (show w'.cell? ⟨X, 4 + 2, none⟩ = _ from hSw.choose_spec.cell 2 6 rfl rfl); go_simp; with_reducible rfl
  try simp only [Act.put, List.getElem_toArray, List.getElem_cons_succ, List.getElem_cons_zero, List.setIfInBounds_toArray, List.set_cons_succ, List.set_cons_zero]
  refine wpAnyH_ready (rs := [13]) (by kernel_rfl) (by simp) ?_
  refine AllReadyH.cons rfl (fun K hK => ?_) AllReadyH.nil
  go_simp
  (with_reducible refine (HAG _ S1.old).out.mono ?_); rintro e w2 ⟨rfl, b2⟩
  have S2 := S1.below b2
  refine hK.out _ _ (⟨_, S2⟩) (fun hHeld => ?_)
  clear hK K
  try simp only [Act.put, List.getElem_toArray, List.getElem_cons_succ, List.getElem_cons_zero, List.setIfInBounds_toArray, List.set_cons_succ, List.set_cons_zero]
  refine wpAnyH_ready (rs := [14]) (by kernel_rfl) (by simp) ?_
  refine AllReadyH.cons rfl (fun K hK => ?_) AllReadyH.nil
  go_simp
  (with_reducible refine (HF0 _).out.mono ?_); rintro e v14 ⟨rfl, rfl⟩
  refine hK.out _ _ (⟨_, S2⟩) (fun hHeld => ?_)
  clear hK K
  try simp only [Act.put, List.getElem_toArray, List.getElem_cons_succ, List.getElem_cons_zero, List.setIfInBounds_toArray, List.set_cons_succ, List.set_cons_zero]
  refine wpAnyH_ready (rs := [18]) (by kernel_rfl) (by simp) ?_
  refine AllReadyH.cons rfl (fun K hK => ?_) AllReadyH.nil
  go_simp
  (with_reducible refine (HF1 _).out.mono ?_); rintro e v18 ⟨rfl, rfl⟩
  refine hK.out _ _ (⟨_, S2⟩) (fun hHeld => ?_)
  clear hK K
  try simp only [Act.put, List.getElem_toArray, List.getElem_cons_succ, List.getElem_cons_zero, List.setIfInBounds_toArray, List.set_cons_succ, List.set_cons_zero]
  refine wpAnyH_ready (rs := [22]) (by kernel_rfl) (by simp) ?_
  refine AllReadyH.cons rfl (fun K hK => ?_) AllReadyH.nil
  go_simp
  (with_reducible refine (HF2 _).out.mono ?_); rintro e v22 ⟨rfl, rfl⟩
  refine hK.out _ _ (⟨_, S2⟩) (fun hHeld => ?_)
  clear hK K
  try simp only [Act.put, List.getElem_toArray, List.getElem_cons_succ, List.getElem_cons_zero, List.setIfInBounds_toArray, List.set_cons_succ, List.set_cons_zero]
  refine wpAnyH_ready (rs := [26]) (by kernel_rfl) (by simp) ?_
  refine AllReadyH.cons rfl (fun K hK => ?_) AllReadyH.nil
  go_simp
  (with_reducible refine (HF3 _).out.mono ?_); rintro e v26 ⟨rfl, rfl⟩
  refine hK.out _ _ (⟨_, S2⟩) (fun hHeld => ?_)
  clear hK K
  try simp only [Act.put, List.getElem_toArray, List.getElem_cons_succ, List.getElem_cons_zero, List.setIfInBounds_toArray, List.set_cons_succ, List.set_cons_zero]
  refine wpAnyH_take (i := 27) (v := ?_) rfl (by kernel_rfl) (by kernel_rfl) (by kernel_rfl) (fun _ _ _ h => h) (Or.inl ⟨by kernel_rfl, ?_⟩) (by assumption) ?_
  rotate_left
  · intro w' hSw; (try dsimp only at hSw); go_simp; with_reducible rfl
  try simp only [Act.put, List.getElem_toArray, List.getElem_cons_succ, List.getElem_cons_zero, List.setIfInBounds_toArray, List.set_cons_succ, List.set_cons_zero]
  refine wpAnyH_ready (rs := [28]) (by kernel_rfl) (by simp) ?_
  refine AllReadyH.cons rfl (fun K hK => ?_) AllReadyH.nil
  have hz := S2.bk 0 rfl
  refine exec_if_store (by kernel_rfl) 46 (.tmp 4) (.tmp 32) rfl Z (lB (confQ t a p)).toArray (by kernel_rfl) (by kernel_rfl) _ _ hz (by kernel_rfl) (by kernel_rfl) (by kernel_rfl) ?_
  have S3 := S2.row 0 rfl (lB (confQ t a p))
  refine hK.out _ _ (⟨_, S3⟩) (fun hHeld => ?_)
  clear hK K
  try simp only [Act.put, List.getElem_toArray, List.getElem_cons_succ, List.getElem_cons_zero, List.setIfInBounds_toArray, List.set_cons_succ, List.set_cons_zero]
  refine wpAnyH_done (by kernel_rfl) ?_ _
  have hzF := S3.bk 0 rfl
  go_wp2
  exact bodyPost_ret (v := .agg (lB (confQ t a p)).toArray) (results_cell_row rfl _ _ Z _ _ _ _ rfl hzF Tryz.underlying46 rfl (by kernel_rfl)) rfl ⟨rfl, S3.old⟩

end Go.Proofs.YtnmnihlhcokjpaaGreatDoor

/- What lies in an Out's data while other blocks change; a configuration's bounds. -/
namespace Go.Proofs.YtnmnihlhcokjpaaGreatDoor
set_option maxRecDepth 100000
open Go.ChangeShapes Go.WideShapes Go.ChangeAt Go.RowKit
set_option linter.unusedVariables false

theorem OcAt.lower {w : World} {B B' : Nat} {c : Oc} (h : OcAt w B c) (hB : B' ≤ B) : OcAt w B' c := ⟨Nat.le_trans hB h.1, h.2⟩
theorem OcAt.row {w : World} {B g : Nat} {c : Oc} {cs : Array Value} (h : OcAt w B c) (hne : c.g ≠ g) : OcAt (w.setRow g cs) B c := by
  obtain ⟨h1, sp, h2, h3, h4⟩ := h
  exact ⟨h1, sp, h2, h3, (setRow_other w g c.g _ hne).trans h4⟩
theorem OcAt.cell {w : World} {B g o : Nat} {c : Oc} {v : Value} (h : OcAt w B c) (hne : c.g ≠ g) : OcAt (w.setCell ⟨g, o, none⟩ v) B c := by
  obtain ⟨h1, sp, h2, h3, h4⟩ := h
  exact ⟨h1, sp, h2, h3, (Below.heap_setCell w ⟨g, o, none⟩ v c.g hne).trans h4⟩
theorem OcAt.apart {w0 w : World} {B : Nat} {c : Oc} {l : List (Nat × TypeId × List Value)} (h : OcAt w B c) (S : Hs w0 l w) (i : Nat) {g : Nat} {T : TypeId} {cs : List Value} (hi : l[i]? = some (g, T, cs)) (hT : 5 ≠ T) : c.g ≠ g := by
  obtain ⟨_, sp, _, _, h4⟩ := h
  exact bk_ne h4 (S.1 i _ _ _ hi).1 hT
theorem confQ_in {t : Th} {a : Int} {p : Po} (ht : ThB t) (hp : PoB p) : BqIn (confQ t a p) := by
  have q0 := cutI_bd a
  have q1 := cutI_bd t.n1
  have q2 := cutI_bd t.n2
  have q3 := cutI_bd t.n3
  unfold ThB at ht
  unfold PoB at hp
  unfold BqIn BpIn confQ
  dsimp only
  omega

end Go.Proofs.YtnmnihlhcokjpaaGreatDoor
