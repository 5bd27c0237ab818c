/- Wrap: the frame of a Bpdu's bytes. -/
import Derived.Test.YtneofpgpinkamaaDoorFrameOpen
import Derived.LoopTactic
import Derived.Deep.DeepCutAuto
namespace Go.Proofs.YtneofpgpinkamaaDoor
open Go.ChangeShapes Go.WideShapes Go.ChangeAt Go.RowKit
set_option linter.unusedVariables false

def WrapEnd (a : Int) (l : List UInt8) (M : Nat) (w : World) (e : Ending) (w' : World) : Prop :=
  ∃ g, e = .returned (.agg #[.int .u64 1652522221568, .int .u64 a, .int .u16 (M : Int), .slice (some ⟨g, 0, none⟩) M M]) ∧ w.heap.size ≤ g ∧ Bk w' g 5 ((66 :: 66 :: 3 :: l).map bc) ∧ Below w.heap.size w w'

theorem rep3 (m : Nat) : List.replicate (3 + m) (Value.int .u8 0) = .int .u8 0 :: .int .u8 0 :: .int .u8 0 :: List.replicate m (.int .u8 0) := by
  rw [Nat.add_comm]; rfl

/-- The row behind 'j' rounds. -/
def hrow (m : Nat) : Nat → List Value
  | 0 => .int .u8 0 :: .int .u8 0 :: .int .u8 0 :: List.replicate m (.int .u8 0)
  | 1 => .int .u8 66 :: .int .u8 0 :: .int .u8 0 :: List.replicate m (.int .u8 0)
  | 2 => .int .u8 66 :: .int .u8 66 :: .int .u8 0 :: List.replicate m (.int .u8 0)
  | _ => .int .u8 66 :: .int .u8 66 :: .int .u8 3 :: List.replicate m (.int .u8 0)

def WR (w : World) (m j : Nat) (wr : World) : Prop := Bk wr (w.heap.size + 1) 5 (hrow m j) ∧ FB wr w.heap.size 0 0 0 none 0 0 ∧ Below w.heap.size w wr

theorem splice3 (l : List UInt8) (m : Nat) (h : l.length = m) : splice (hrow m 3) 3 (l.map bc) = (66 :: 66 :: 3 :: l).map bc := by
  have e : (3 + (l.map bc).length) = m + 3 := by simp [h]; omega
  unfold splice
  rw [e]
  simp only [hrow, List.take_succ_cons, List.take_zero, List.drop_succ_cons, List.drop_replicate, Nat.sub_self, List.replicate_zero, List.append_nil, List.cons_append, List.nil_append, List.map_cons]
  rfl

theorem wrap_any (a : Int) (B : Option Addr) (m d : Nat) (l : List UInt8) (M : Nat) (hM : Hid (M = 3 + m)) (hl : Hid (l.length = m)) (hm : m ≤ 1497) (w : World) (hd : Hd w) (hr : RB w B 0 w.heap.size l) :
    Calls Tryd.prog 7 #[.int .u64 a, .slice B m d] w (WrapEnd a l M w) := by
  have hMi : (3 : Int) + (m : Int) = (M : Int) := by rw [hM.out]; omega
  have hM3 : 3 ≤ M := by have := hM.out; omega
  have hMu : M ≤ 1500 := by have := hM.out; omega
  have hmk := make_bytes M (by omega)
  have hwk : IntKind.u16.wrap (M : Int) = (M : Int) := by rw [show IntKind.u16.wrap (M : Int) = (M : Int) % 65536 by simp [IntKind.wrap, IntKind.bits, IntKind.signed]]; omega
  have s3 : ∀ (g : Nat) (w : World), (Instr.sliceAt 25 (.slice (some ⟨g, 0, none⟩) M M) (some (.int .i64 3)) none none).run Tryd.prog w = .ok (.slice (cutA (some ⟨g, 0, none⟩) 3 M) (M - 3) (M - 3)) w := fun g => cut_any _ M M 3 hM3
  go_enter Tryd.func7, Tryd.ntmps7
  go_upto_region 2 with fail
  obtain ⟨w0, hB0, hb0, hs0, hw0⟩ := boxed w 0 0 0 none 0 0
  rw [← hw0]
  have hsz0 : w0.heap.size = w.heap.size + 1 := by rw [hw0]; simp
  clear hw0 hmk
  obtain ⟨w1, hw1⟩ : ∃ w1, w1 = w0.alloc (.cells (Array.replicate M (Value.int .u8 0)) 5) := ⟨_, rfl⟩
  rw [← hw1]
  have hb1 : Below w0.heap.size w0 w1 := by rw [hw1]; exact below_new (Nat.le_refl _)
  have hP1 : Bk w1 (w.heap.size + 1) 5 (.int .u8 0 :: .int .u8 0 :: .int .u8 0 :: List.replicate m (.int .u8 0)) := by rw [hw1, ← hsz0, hM.out, ← rep3, ← List.toArray_replicate]; exact heap_alloc_new w0 _
  clear hw1
  have hB1 := hB0.below hb1 hs0
  have hbw1 : Below w.heap.size w w1 := below_two hb0 hb1 hb0.size
  have hd1 : Hd w1 := hd.below hbw1 (Nat.le_refl _)
  obtain ⟨y0, y1, y2, y3⟩ := hd1
  have k0 : (0 : Int) < (M : Int) := by omega
  have k1 : (1 : Int) < (M : Int) := by omega
  have k2 : (2 : Int) < (M : Int) := by omega
  have k0' : 0 < M := by omega
  have k1' : 1 < M := by omega
  have k2' : 2 < M := by omega
  have i0 : ∀ w : World, (Instr.index 40 (.agg #[.int .u8 66, .int .u8 66, .int .u8 3]) (.int .i64 0)).run Tryd.prog w = .ok (.int .u8 66) w := fun _ => by kernel_rfl
  have i1 : ∀ w : World, (Instr.index 40 (.agg #[.int .u8 66, .int .u8 66, .int .u8 3]) (.int .i64 1)).run Tryd.prog w = .ok (.int .u8 66) w := fun _ => by kernel_rfl
  have i2 : ∀ w : World, (Instr.index 40 (.agg #[.int .u8 66, .int .u8 66, .int .u8 3]) (.int .i64 2)).run Tryd.prog w = .ok (.int .u8 3) w := fun _ => by kernel_rfl
  clear hB0 hb0 hs0 hb1 hsz0
  go_wp2_with fail
  clear y0 y1 y2 y3
  go_loopw [13] (fun i wr => ∃ j : Nat, j ≤ 3 ∧ i = .int .i64 j ∧ WR w m j wr) (fun i _ => 3 - (intOf i).toNat)
  case atStart => exact ⟨0, by omega, rfl, hP1, hB1, hbw1⟩
  case round =>
    obtain ⟨j, hj, rfl, hP, hB, hbr⟩ := hrel
    clear hP1 hB1 hbw1
    match j, hj with
    | 0, _ =>
      have x0 := hP.cell 0
      have f0 := hP.thaw 0
      simp only [hrow, List.getElem?_cons_zero] at x0
      go_wp2
      go_roundw
      case rel => exact ⟨1, by omega, by go_num, hP.set 0 _, hB.far (p := ⟨w.heap.size + 1, 0, none⟩) (Nat.succ_ne_self _) _, hbr.setCell (Nat.le_succ _) _⟩
      case measure => simp [intOf]
    | 1, _ =>
      have x1 := hP.cell 1
      have f1 := hP.thaw 1
      simp only [hrow, List.getElem?_cons_zero, List.getElem?_cons_succ] at x1
      go_wp2
      go_roundw
      case rel => exact ⟨2, by omega, by go_num, hP.set 1 _, hB.far (p := ⟨w.heap.size + 1, 1, none⟩) (Nat.succ_ne_self _) _, hbr.setCell (Nat.le_succ _) _⟩
      case measure => simp [intOf]
    | 2, _ =>
      have x2 := hP.cell 2
      have f2 := hP.thaw 2
      simp only [hrow, List.getElem?_cons_zero, List.getElem?_cons_succ] at x2
      go_wp2
      go_roundw
      case rel => exact ⟨3, by omega, by go_num, hP.set 2 _, hB.far (p := ⟨w.heap.size + 1, 2, none⟩) (Nat.succ_ne_self _) _, hbr.setCell (Nat.le_succ _) _⟩
      case measure => simp [intOf]
    | 3, _ =>
      have hsrc : Hid (0 < (l.map bc).length → cutA (some ⟨w.heap.size + 1, 0, none⟩) 3 M = some ⟨w.heap.size + 1, 3, none⟩ ∧ ∃ ad, B = some ad ∧ ∀ (j : Nat) v, (l.map bc)[j]? = some v → wr.cell? (ad.add j) = some v) := by
        intro h
        refine ⟨?_, (copy_src hr hbr (some ⟨0, 0, none⟩) h).2⟩
        unfold cutA
        rw [if_neg (by have := hM.out; simp [hl.out] at h; omega)]
        simp [addr_add]
      have hlm : Hid ((l.map bc).length = Nat.min m (M - 3)) := by show _ = _; rw [List.length_map, hl.out, show M - 3 = m by have := hM.out; omega]; exact (Nat.min_self m).symm
      have hlf : Hid (3 + (l.map bc).length ≤ (hrow m 3).length) := by show _ ≤ _; simp [hrow, hl.out]; omega
      have hg : Hid (wr.heap[w.heap.size + 1]? = some (.cells (hrow m 3).toArray 5 (0, 0))) := hP
      have hbrr : Below (w.heap.size + 1) wr wr := Below.refl _ _
      go_wp2_with (with_reducible refine wpList_copy_splice rfl (.tmp 23) (.tmp 24) 25 25 rfl 5 Tryd.underlying25 Tryd.sizeByte _ _ _ _ _ _ rfl rfl (w.heap.size + 1) 3 (hrow m 3) 5 hg.out (l.map bc) hlm.out hsrc.out hlf.out (one_bcs l) (w.heap.size + 1) wr hbrr (Nat.le_refl _) ?_; intro w2 hg2 hb2; have hB2 := hB.below hb2 (Nat.lt_succ_self _); obtain ⟨c0, c1, c2, c3⟩ := hB2.cells; obtain ⟨z0, z1, z2, z3⟩ := hB2.thaws)
      have hP2 : Bk w2 (w.heap.size + 1) 5 ((66 :: 66 :: 3 :: l).map bc) := by
        have := hg2.out
        rw [splice3 l m hl.out] at this
        exact this
      have hbw2 : Below w.heap.size w w2 := hbr.trans (hb2.mono (Nat.le_succ _))
      have hne : w.heap.size ≠ w.heap.size + 1 := (Nat.succ_ne_self _).symm
      refine bodyPost_ret (v := .agg #[.int .u64 1652522221568, .int .u64 a, .int .u16 (M : Int), .slice (some ⟨w.heap.size + 1, 0, none⟩) M M]) (by simp [results, Tryd.results7, go_sem, c0, c1, c2, c3]) rfl ⟨w.heap.size + 1, rfl, Nat.le_succ _, ?_, ?_⟩
      · exact (((hP2.far hne _).far hne _).far hne _).far hne _
      · exact (((hbw2.setCell (Nat.le_refl _) _).setCell (Nat.le_refl _) _).setCell (Nat.le_refl _) _).setCell (Nat.le_refl _) _

end Go.Proofs.YtneofpgpinkamaaDoor
