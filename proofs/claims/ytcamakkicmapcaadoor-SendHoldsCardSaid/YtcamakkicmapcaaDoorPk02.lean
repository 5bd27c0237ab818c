/- Several texts in one, one behind the other: FrameOpen, Held, RankMath, PortMem, PortSame, TimerOn, PortRise, PortSays, PortBlock, Later, PortCells. -/
import Derived.Test.YtcamakkicmapcaaDoorPk01
import Derived.RegionTactic
import Derived.Deep.RegionLaw
import Derived.Lib.Hide
import Derived.Laws.Rows
import Derived.Laws.Tables
import Derived.Test.YtcamakkicmapcaaDoorRows
import Derived.Laws.StructEq
import Derived.Lib.MinMax
import Derived.BigRegion
import Derived.Deep.DeepCutAuto
import Derived.Test.YtcamakkicmapcaaDoorProg
import Derived.BigQuiet
import Derived.Below

/- Open: a Bpdu's bytes of a frame; the document's; Wrap. The variable bpduHead holds its three bytes. -/
namespace Go.Proofs.YtcamakkicmapcaaDoor
set_option maxRecDepth 100000
open Go.ChangeShapes Go.WideShapes Go.ChangeAt Go.RowKit
set_option linter.unusedVariables false

/-- The variable bpduHead holds 42 42 3 (hexadecimal). -/
def Hd (w : World) : Prop := w.cell? ⟨0, 0, none⟩ = some (.int .u8 66) ∧ w.cell? ⟨0, 1, none⟩ = some (.int .u8 66) ∧ w.cell? ⟨0, 2, none⟩ = some (.int .u8 3) ∧ 0 < w.heap.size

theorem Hd.below {w w' : World} {B : Nat} (h : Hd w) (hb : Below B w w') (hB : w.heap.size ≤ B) : Hd w' := by
  obtain ⟨h0, h1, h2, h3⟩ := h
  have h4 : 0 < B := Nat.lt_of_lt_of_le h3 hB
  exact ⟨(hb.cell h4).trans h0, (hb.cell h4).trans h1, (hb.cell h4).trans h2, Nat.lt_of_lt_of_le h3 hb.size⟩

theorem Hd.below' {w w' : World} {B : Nat} (h : Hd w) (hb : Below B w w') (h4 : 0 < B) : Hd w' := by
  obtain ⟨h0, h1, h2, h3⟩ := h
  exact ⟨(hb.cell h4).trans h0, (hb.cell h4).trans h1, (hb.cell h4).trans h2, Nat.lt_of_lt_of_le h3 hb.size⟩

theorem three {w : World} {g : Nat} {b0 b1 b2 : UInt8} (h : w.heap[g]? = some (.cells (splice [Value.int .u8 0, .int .u8 0, .int .u8 0] 0 ([b0, b1, b2].map bc)).toArray 81 (0, 0))) :
    w.cell? ⟨g, 0, none⟩ = some (.int .u8 (b0.toNat : Int)) ∧ w.cell? ⟨g, 1, none⟩ = some (.int .u8 (b1.toNat : Int)) ∧ w.cell? ⟨g, 2, none⟩ = some (.int .u8 (b2.toNat : Int)) := by
  have hb : Bk w g 81 [bc b0, bc b1, bc b2] := h
  exact ⟨hb.cell 0, hb.cell 1, hb.cell 2⟩

theorem eq3 (a b c d e f : Int) (w : World) : (Op.equalIn 10000 81 (.agg #[.int .u8 a, .int .u8 b, .int .u8 c]) (.agg #[.int .u8 d, .int .u8 e, .int .u8 f])).run Tryd.prog w = .ok (a == d && b == e && c == f) w := by
  have u5 := Tryd.underlying5
  have a5 := Tryd.isAgg5
  have z5 := Tryd.sizeOf5
  rw [show (10000 : Nat) = 9999 + 1 from rfl, Op.equalIn]
  simp only [Sem.run_bind, run_underlying Tryd.underlying81, Result.andThen_ok]
  simp only [Std.Legacy.Range.forIn_eq_forIn_range', Std.Legacy.Range.size, Nat.sub_zero, Nat.add_sub_cancel, Nat.div_one, List.range'_succ, List.range'_zero, List.forIn_cons, List.forIn_nil]
  go_simp
  by_cases h1 : a = d <;> by_cases h2 : b = e <;> by_cases h3 : c = f <;> simp [h1, h2, h3]

theorem short3 (l : List UInt8) (h : l.length < 3) : (l.take 3 == [66, 66, 3]) = false := by
  rw [beq_eq_false_iff_ne]
  intro e
  have := congrArg List.length e
  simp at this
  omega

theorem first3 (b0 b1 b2 : UInt8) (tl : List UInt8) : ((b0 :: b1 :: b2 :: tl).take 3 == [66, 66, 3]) = ((b0.toNat : Int) == 66 && (b1.toNat : Int) == 66 && (b2.toNat : Int) == 3) := by
  have e : ∀ (b : UInt8) (m : Nat), m < 256 → (b == UInt8.ofNat m) = ((b.toNat : Int) == (m : Int)) := by
    intro b m hm
    rw [Bool.eq_iff_iff, beq_iff_eq, beq_iff_eq]
    constructor
    · intro h; rw [h]; simp; omega
    · intro h; apply UInt8.toNat_inj.1; simp; omega
  have e0 := e b0 66 (by omega)
  have e1 := e b1 66 (by omega)
  have e2 := e b2 3 (by omega)
  simp only [List.take_succ_cons, List.take_zero, List.cons_beq_cons]
  have f0 : (b0 == 66) = ((b0.toNat : Int) == 66) := e0
  have f1 : (b1 == 66) = ((b1.toNat : Int) == 66) := e1
  have f2 : (b2 == 3) = ((b2.toNat : Int) == 3) := e2
  rw [f0, f1, f2, Bool.and_assoc]
  simp

/-- A frame that bridges tell each other? -/
def openB (t k : Int) (l : List UInt8) : Bool := t == 1652522221568 && decide (k ≤ 1500) && (l.take 3 == [66, 66, 3])

def OpenYes (x : List UInt8) (m : Nat) (w : World) (e : Ending) (w' : World) : Prop :=
  ∃ D cap, e = .returned (.tuple #[.slice D m cap, .bool true]) ∧ RB w' D 0 w'.heap.size x ∧ Below w.heap.size w w'

def OpenNo (w : World) (e : Ending) (w' : World) : Prop := e = .returned (.tuple #[.slice none 0 0, .bool false]) ∧ Below w.heap.size w w'

/-- What 'Open' leaves. -/
def OpenEnd (t k : Int) (l : List UInt8) (n : Nat) (w : World) (e : Ending) (w' : World) : Prop :=
  (openB t k l = true ∧ OpenYes (l.drop 3) (n - 3) w e w') ∨ (openB t k l = false ∧ OpenNo w e w')

theorem isLen_yes (k : Int) (h : k ≤ 1500) (w : World) : Calls Tryd.prog 40 #[.int .u16 k] w fun e w' => e = .returned (.bool true) ∧ w = w' := by
  go_enter Tryd.func40, Tryd.ntmps40
  go_wp2
  go_ret
  exact ⟨rfl, rfl⟩

theorem isLen_no (k : Int) (h : decide (k ≤ 1500) = false) (w : World) : Calls Tryd.prog 40 #[.int .u16 k] w fun e w' => e = .returned (.bool false) ∧ w = w' := by
  go_enter Tryd.func40, Tryd.ntmps40
  go_wp2
  go_ret
  exact ⟨rfl, rfl⟩

theorem open_far (t f k : Int) (A : Option Addr) (n c : Nat) (h2 : 0 ≤ k) (h5 : k < 65536) (h : (t == 1652522221568) = false ∨ decide (k ≤ 1500) = false) (w : World) :
    Calls Tryd.prog 21 #[.agg #[.int .u64 t, .int .u64 f, .int .u16 k, .slice A n c]] w (OpenNo w) := by
  cases ht : t == 1652522221568
  · have ht' : (t != 1652522221568) = true := by simp [bne, ht]
    clear h ht
    go_enter Tryd.func21, Tryd.ntmps21
    go_wp2
    go_ret2
    exact ⟨rfl, below_new (Nat.le_refl _)⟩
  · have ht' : (t != 1652522221568) = false := by simp [bne, ht]
    have hk : decide (k ≤ 1500) = false := by
      rcases h with h | h
      · rw [ht] at h; cases h
      · exact h
    clear h ht
    go_enter Tryd.func21, Tryd.ntmps21
    go_wp2_with fail
    (with_reducible refine (isLen_no _ hk _).mono ?_); rintro e w' ⟨rfl, rfl⟩
    go_wp2
    go_ret2
    exact ⟨rfl, below_new (Nat.le_refl _)⟩

theorem min3 (l : List UInt8) (n : Nat) (h : l.length = n) : ((l.take 3).map bc).length = Nat.min n 3 := by
  simp [← h, Nat.min_comm]

theorem open_near (t f k : Int) (A : Option Addr) (n c : Nat) (l : List UInt8) (hl : Hid (l.length = n)) (hc : n ≤ c) (hnc : Hid (A = none → c = 0)) (hn : n ≤ 10000) (h2 : 0 ≤ k) (h5 : k ≤ 1500) (ht : (t == 1652522221568) = true) (w : World) (hd : Hd w) (hr : RB w A 0 w.heap.size l) :
    Calls Tryd.prog 21 #[.agg #[.int .u64 t, .int .u64 f, .int .u16 k, .slice A n c]] w (OpenEnd t k l n w) := by
  have ht' : (t != 1652522221568) = false := by simp [bne, ht]
  have hob : Hid (openB t k l = (l.take 3 == [66, 66, 3])) := by show _ = _; unfold openB; rw [ht]; simp [h5]
  clear ht
  go_enter Tryd.func21, Tryd.ntmps21
  go_wp2_with fail
  (with_reducible refine (isLen_yes _ h5 _).mono ?_); rintro e w' ⟨rfl, rfl⟩
  go_wp2_with fail
  obtain ⟨w0, hB0, hb0, hs0, hw0⟩ := boxed w t f k A n c
  rw [← hw0]
  have hsz0 : w0.heap.size = w.heap.size + 1 := by rw [hw0]; simp
  clear hw0
  obtain ⟨w1, hw1⟩ : ∃ w1, w1 = w0.alloc (.cells #[.int .u8 0, .int .u8 0, .int .u8 0] 81) := ⟨_, rfl⟩
  rw [← hw1]
  have hb1 : Below w0.heap.size w0 w1 := by rw [hw1]; exact below_new (Nat.le_refl _)
  have hH1 : Bk w1 (w.heap.size + 1) 81 [.int .u8 0, .int .u8 0, .int .u8 0] := by rw [hw1, ← hsz0]; exact heap_alloc_new w0 _
  have hs1 : w1.heap.size = w.heap.size + 2 := by rw [hw1]; simp [hsz0]
  clear hw1
  have hB1 := hB0.below hb1 hs0
  have hbw1 : Below w.heap.size w w1 := below_two hb0 hb1 hb0.size
  have hd1 : Hd w1 := hd.below hbw1 (Nat.le_refl _)
  have HS1 := Lib.hid hs1
  clear hB0 hb0 hb1 hs0 hsz0 hs1
  obtain ⟨c0, c1, c2, c3⟩ := hB1.cells
  obtain ⟨y0, y1, y2, y3⟩ := hd1
  have hg1 : Hid (w1.drew.heap[w.heap.size + 1]? = some (.cells [Value.int .u8 0, .int .u8 0, .int .u8 0].toArray 81 (0, 0))) := hH1
  have hbd : Below (w.heap.size + 1) w1 w1.drew := (Below.refl _ _).drew
  by_cases h3 : n < 3
  · have d3 : decide ((n : Int) < 3) = true := by simp; omega
    have hsrc : Hid (0 < (l.map bc).length → some (⟨w.heap.size + 1, 0, none⟩ : Addr) = some ⟨w.heap.size + 1, 0, none⟩ ∧ ∃ ad, A = some ad ∧ ∀ (j : Nat) v, (l.map bc)[j]? = some v → w1.drew.cell? (ad.add j) = some v) := copy_src hr (w' := w1.drew) hbw1.drew _
    have hlm : Hid ((l.map bc).length = Nat.min n 3) := by show _ = _; rw [List.length_map, hl.out]; exact (Nat.min_eq_left (by omega)).symm
    have hlf : Hid (0 + (l.map bc).length ≤ [Value.int .u8 0, .int .u8 0, .int .u8 0].length) := by show _ ≤ _; simp [hl.out]; omega
    have hln : Hid ((l.map bc).length = n) := by show _ = _; rw [List.length_map, hl.out]
    go_region_law (refine step_copy_splice rfl (.tmp 14) (.tmp 16) 50 50 rfl 5 Tryd.underlying50 Tryd.sizeByte (some ⟨w.heap.size + 1, 0, none⟩) A 3 3 n c (by simp [Act.eval]) (by simp [Act.eval]) (w.heap.size + 1) 0 [.int .u8 0, .int .u8 0, .int .u8 0] 81 hg1.out (l.map bc) hlm.out hsrc.out hlf.out (one_bcs l) (w.heap.size + 1) w1 hbd (Nat.le_refl _) ?_; intro w2 hg2 hb2; rw [hln.out])
    all_goals go_wp2
    all_goals go_ret2
    all_goals exact .inr ⟨by rw [hob.out]; exact short3 l (by rw [hl.out]; exact h3), rfl, hbw1.trans (hb2.mono (Nat.le_succ _))⟩
  · obtain ⟨b0, b1, b2, tl, rfl⟩ : ∃ b0 b1 b2 tl, l = b0 :: b1 :: b2 :: tl := by
      have := hl.out
      match l, this with
      | [], e => simp at e; omega
      | [_], e => simp at e; omega
      | [_, _], e => simp at e; omega
      | b0 :: b1 :: b2 :: tl, _ => exact ⟨b0, b1, b2, tl, rfl⟩
    have hsrc : Hid (0 < ([b0, b1, b2].map bc).length → some (⟨w.heap.size + 1, 0, none⟩ : Addr) = some ⟨w.heap.size + 1, 0, none⟩ ∧ ∃ ad, A = some ad ∧ ∀ (j : Nat) v, ([b0, b1, b2].map bc)[j]? = some v → w1.drew.cell? (ad.add j) = some v) := copy_src (hr.take 3) (w' := w1.drew) hbw1.drew _
    have hmn : Hid (3 = Nat.min n 3) := Lib.hid (Nat.min_eq_right (by omega)).symm
    have hd1 : Hd w1 := ⟨y0, y1, y2, y3⟩
    obtain ⟨E, hE⟩ : ∃ E, E = ((b0.toNat : Int) == 66 && (b1.toNat : Int) == 66 && (b2.toNat : Int) == 3) := ⟨_, rfl⟩
    have heq : ∀ w : World, (Op.equalIn 10000 81 (.agg #[.int .u8 (b0.toNat : Int), .int .u8 (b1.toNat : Int), .int .u8 (b2.toNat : Int)]) (.agg #[.int .u8 66, .int .u8 66, .int .u8 3])).run Tryd.prog w = .ok E w := by rw [hE]; exact eq3 _ _ _ _ _ _
    have hoE : Hid (openB t k (b0 :: b1 :: b2 :: tl) = E) := by show _ = _; rw [hob.out, hE]; exact first3 b0 b1 b2 tl
    have d3 : decide ((n : Int) < 3) = false := by simp; omega
    clear hE
    cases E
    · go_region_law (refine step_copy_splice rfl (.tmp 14) (.tmp 16) 50 50 rfl 5 Tryd.underlying50 Tryd.sizeByte (some ⟨w.heap.size + 1, 0, none⟩) A 3 3 n c (by simp [Act.eval]) (by simp [Act.eval]) (w.heap.size + 1) 0 [.int .u8 0, .int .u8 0, .int .u8 0] 81 hg1.out ([b0, b1, b2].map bc) hmn.out hsrc.out (by simp) (one_bcs _) (w.heap.size + 1) w1 hbd (Nat.le_refl _) ?_; intro w2 hg2 hb2; obtain ⟨x0, x1, x2⟩ := three hg2.out; obtain ⟨v0, v1, v2, v3⟩ := hd1.below' hb2 (Nat.lt_succ_of_lt hd.2.2.2); have hB2 := hB1.below hb2 (Nat.lt_succ_self _); obtain ⟨p0, p1, p2, p3⟩ := hB2.cells; have hbw2 := hbw1.trans (hb2.mono (Nat.le_succ _)))
      all_goals go_wp2
      all_goals go_ret2
      all_goals exact .inr ⟨hoE.out, rfl, hbw2⟩
    · have s3 : ∀ w : World, (Instr.sliceAt 50 (.slice A n c) (some (.int .i64 3)) none none).run Tryd.prog w = .ok (.slice (cutA A 3 c) (n - 3) (c - 3)) w := scut_any A n c 3 (by omega)
      have hr4 : RB w (cutA A 3 c) 0 w.heap.size tl := hr.drop 3 c (by rw [hl.out]; exact hc)
      have htl : Hid (tl.length = n - 3) := by show _ = _; have := hl.out; simp at this; omega
      have hc3 : Hid (cutA A 3 c = none → c - 3 = 0) := by
        intro e
        unfold cutA at e
        split at e
        · omega
        · cases A with
          | none => have := hnc.out rfl; omega
          | some ad => cases e
      go_region_law (refine step_copy_splice rfl (.tmp 14) (.tmp 16) 50 50 rfl 5 Tryd.underlying50 Tryd.sizeByte (some ⟨w.heap.size + 1, 0, none⟩) A 3 3 n c (by simp [Act.eval]) (by simp [Act.eval]) (w.heap.size + 1) 0 [.int .u8 0, .int .u8 0, .int .u8 0] 81 hg1.out ([b0, b1, b2].map bc) hmn.out hsrc.out (by simp) (one_bcs _) (w.heap.size + 1) w1 hbd (Nat.le_refl _) ?_; intro w2 hg2 hb2; obtain ⟨x0, x1, x2⟩ := three hg2.out; obtain ⟨v0, v1, v2, v3⟩ := hd1.below' hb2 (Nat.lt_succ_of_lt hd.2.2.2); have hB2 := hB1.below hb2 (Nat.lt_succ_self _); obtain ⟨p0, p1, p2, p3⟩ := hB2.cells; have hbw2 := hbw1.trans (hb2.mono (Nat.le_succ _)))
      all_goals go_wp2_with fail
      all_goals (with_reducible refine (clone_any (cutA A 3 c) (n - 3) (c - 3) tl htl hc3 (by omega) _ ((hr4.below hbw2 (Nat.le_refl _)).wide (Nat.le_refl _) hbw2.size)).mono ?_)
      all_goals (rintro e w3 ⟨D, cap, rfl, hD, r1, r2, hb3⟩)
      all_goals go_wp2
      all_goals go_ret2
      all_goals exact .inl ⟨hoE.out, D, cap, rfl, hD.rb.wide (Nat.zero_le _) (Nat.le_refl _), below_two hbw2 hb3 hbw2.size⟩

theorem open_any (t f k : Int) (A : Option Addr) (n c : Nat) (l : List UInt8) (hl : Hid (l.length = n)) (hc : n ≤ c) (hnc : Hid (A = none → c = 0)) (hn : n ≤ 10000) (h2 : 0 ≤ k) (h5 : k < 65536) (w : World) (hd : Hd w) (hr : RB w A 0 w.heap.size l) :
    Calls Tryd.prog 21 #[.agg #[.int .u64 t, .int .u64 f, .int .u16 k, .slice A n c]] w (OpenEnd t k l n w) := by
  cases ht : t == 1652522221568
  · exact (open_far t f k A n c h2 h5 (.inl ht) w).mono fun e w' h => .inr ⟨by unfold openB; rw [ht]; rfl, h⟩
  · cases hk : decide (k ≤ 1500)
    · exact (open_far t f k A n c h2 h5 (.inr hk) w).mono fun e w' h => .inr ⟨by unfold openB; rw [hk]; simp, h⟩
    · exact open_near t f k A n c l hl hc hnc hn h2 (by simpa using hk) ht w hd hr

end Go.Proofs.YtcamakkicmapcaaDoor

/- A list of blocks of the call's own, each known whole: what a walk holds of the world where structs of many cells lie in boxes. Over any program. -/
namespace Go.Proofs.YtcamakkicmapcaaDoor
set_option maxRecDepth 100000
open Go.ChangeShapes Go.WideShapes Go.ChangeAt Go.RowKit
set_option linter.unusedVariables false

/-- The blocks of the list lie as it says, each made since w; all that w had lies as it lay. -/
def Hs (w : World) (l : List (Nat × TypeId × List Value)) (wx : World) : Prop :=
  (∀ (k g : Nat) T cs, l[k]? = some (g, T, cs) → Bk wx g T cs ∧ w.heap.size ≤ g) ∧
  (∀ (j k : Nat) a b, j ≠ k → l[j]? = some a → l[k]? = some b → a.1 ≠ b.1) ∧ Below w.heap.size w wx

theorem Hs.nil (w : World) : Hs w [] w := ⟨fun k g T cs h => by simp at h, fun j k a b _ h => by simp at h, Below.refl _ _⟩
theorem Hs.old {w wx : World} {l : List (Nat × TypeId × List Value)} (h : Hs w l wx) : Below w.heap.size w wx := h.2.2
theorem Hs.bk {w wx : World} {l : List (Nat × TypeId × List Value)} (h : Hs w l wx) (k : Nat) {g : Nat} {T : TypeId} {cs : List Value} (hk : l[k]? = some (g, T, cs)) : wx.heap[g]? = some (.cells cs.toArray T (0, 0)) := (h.1 k g T cs hk).1
theorem Hs.lt {w wx : World} {l : List (Nat × TypeId × List Value)} (h : Hs w l wx) (k : Nat) {g : Nat} {T : TypeId} {cs : List Value} (hk : l[k]? = some (g, T, cs)) : g < wx.heap.size := Bk.lt (h.1 k g T cs hk).1
theorem Hs.cell {w wx : World} {l : List (Nat × TypeId × List Value)} (h : Hs w l wx) (k : Nat) {g : Nat} {T : TypeId} {cs : List Value} (i : Nat) {v : Value} (hk : l[k]? = some (g, T, cs)) (hv : cs[i]? = some v) : wx.cell? ⟨g, i, none⟩ = some v := by
  rw [Bk.cell (h.1 k g T cs hk).1 i, hv]
theorem Hs.thaw {w wx : World} {l : List (Nat × TypeId × List Value)} (h : Hs w l wx) (k : Nat) {g : Nat} {T : TypeId} {cs : List Value} (i : Nat) (hk : l[k]? = some (g, T, cs)) : wx.frozen? ⟨g, i, none⟩ = false := Bk.thaw (h.1 k g T cs hk).1 i

theorem Hs.below {w wx wy : World} {l : List (Nat × TypeId × List Value)} (h : Hs w l wx) (b : Below wx.heap.size wx wy) : Hs w l wy :=
  ⟨fun k g T cs hk => ⟨(h.1 k g T cs hk).1.below b (h.lt k hk), (h.1 k g T cs hk).2⟩, h.2.1, h.2.2.trans (b.mono h.2.2.size)⟩
theorem Hs.drew {w wx : World} {l : List (Nat × TypeId × List Value)} (h : Hs w l wx) : Hs w l wx.drew :=
  ⟨fun k g T cs hk => ⟨(h.1 k g T cs hk).1, (h.1 k g T cs hk).2⟩, h.2.1, h.2.2.drew⟩

theorem Hs.tail {w wx : World} {e : Nat × TypeId × List Value} {l : List (Nat × TypeId × List Value)} (h : Hs w (e :: l) wx) : Hs w l wx :=
  ⟨fun k g T cs hk => h.1 (k + 1) g T cs hk, fun j k a b hn hj hk => h.2.1 (j + 1) (k + 1) a b (by omega) hj hk, h.2.2⟩

/-- A new block. -/
theorem Hs.al {w wx : World} {l : List (Nat × TypeId × List Value)} (h : Hs w l wx) {g : Nat} (hg : wx.heap.size = g) (T : TypeId) (cs : List Value) : Hs w ((g, T, cs) :: l) (wx.alloc (.cells cs.toArray T)) := by
  subst hg
  have b : Below wx.heap.size wx (wx.alloc (.cells cs.toArray T)) := (Below.refl _ _).alloc (Nat.le_refl _) _
  have h' := h.below b
  refine ⟨fun k g T' cs' hk => ?_, fun j k a c hn hj hk => ?_, h'.2.2⟩
  · cases k with
    | zero => cases hk; exact ⟨heap_alloc_new wx _, h.2.2.size⟩
    | succ k => exact h'.1 k g T' cs' hk
  · cases j with
    | zero =>
      cases k with
      | zero => exact absurd rfl hn
      | succ k =>
        cases hj
        have := h.lt (g := c.1) (T := c.2.1) (cs := c.2.2) k hk
        show wx.heap.size ≠ c.1
        omega
    | succ j =>
      cases k with
      | zero =>
        cases hk
        have := h.lt (g := a.1) (T := a.2.1) (cs := a.2.2) j hj
        show a.1 ≠ wx.heap.size
        omega
      | succ k => exact h.2.1 j k a c (fun e => hn (by rw [e])) hj hk

/-- One block's cells changed. -/
theorem Hs.put {w wx wy : World} {l : List (Nat × TypeId × List Value)} (h : Hs w l wx) (i : Nat) {g : Nat} {T : TypeId} {cs : List Value} (hi : l[i]? = some (g, T, cs)) (cs' : List Value)
    (h1 : Bk wy g T cs') (h2 : ∀ k, k ≠ g → wy.heap[k]? = wx.heap[k]?) (h3 : Below w.heap.size w wy) : Hs w (l.set i (g, T, cs')) wy := by
  have hlen : i < l.length := (List.getElem?_eq_some_iff.1 hi).1
  have hat : ∀ k x, (l.set i (g, T, cs'))[k]? = some x → (k = i ∧ x = (g, T, cs')) ∨ (k ≠ i ∧ l[k]? = some x) := by
    intro k x hx
    by_cases e : k = i
    · subst e
      rw [List.getElem?_set_self hlen] at hx
      exact .inl ⟨rfl, (Option.some.inj hx).symm⟩
    · rw [List.getElem?_set_ne (fun q => e q.symm)] at hx
      exact .inr ⟨e, hx⟩
  refine ⟨fun k g' T' cs'' hk => ?_, fun j k a b hn hj hk => ?_, h3⟩
  · rcases hat k _ hk with ⟨rfl, e⟩ | ⟨hn, hx⟩
    · cases e
      exact ⟨h1, (h.1 _ _ _ _ hi).2⟩
    · have hne := h.2.1 k i _ _ hn hx hi
      exact ⟨(h2 g' hne).trans (h.1 _ _ _ _ hx).1, (h.1 _ _ _ _ hx).2⟩
  · rcases hat j _ hj with ⟨rfl, rfl⟩ | ⟨hnj, hxj⟩
    · rcases hat k _ hk with ⟨rfl, rfl⟩ | ⟨hnk, hxk⟩
      · exact absurd rfl hn
      · exact h.2.1 j k (g, T, cs) _ hn hi hxk
    · rcases hat k _ hk with ⟨rfl, rfl⟩ | ⟨hnk, hxk⟩
      · exact h.2.1 j k _ (g, T, cs) hn hxj hi
      · exact h.2.1 j k _ _ hn hxj hxk

theorem Hs.set {w wx : World} {l : List (Nat × TypeId × List Value)} (h : Hs w l wx) (i : Nat) {g : Nat} {T : TypeId} {cs : List Value} (hi : l[i]? = some (g, T, cs)) (j : Nat) (u : Value) :
    Hs w (l.set i (g, T, cs.set j u)) (wx.setCell ⟨g, j, none⟩ u) :=
  h.put i hi _ ((h.1 _ _ _ _ hi).1.set j u) (fun k hk => Below.heap_setCell wx ⟨g, j, none⟩ u k hk) (h.2.2.setCell (p := ⟨g, j, none⟩) (h.1 _ _ _ _ hi).2 u)

theorem Hs.row {w wx : World} {l : List (Nat × TypeId × List Value)} (h : Hs w l wx) (i : Nat) {g : Nat} {T : TypeId} {cs : List Value} (hi : l[i]? = some (g, T, cs)) (cs' : List Value) :
    Hs w (l.set i (g, T, cs')) (wx.setRow g cs'.toArray) :=
  h.put i hi _ (setRow_heap wx g _ cs'.toArray T (0, 0) (h.bk i hi)) (fun k hk => setRow_other wx g k _ hk) (below_setRow h.2.2 (h.1 _ _ _ _ hi).2 _)

/-- A new block, and then its row. -/
theorem alloc_row (w : World) (old cs : Array Value) (T : TypeId) : (w.alloc (.cells old T)).setRow w.heap.size cs = w.alloc (.cells cs T) := by
  unfold World.setRow World.alloc
  congr 1
  apply Array.ext
  · simp
  · intro i h1 h2
    simp only [Array.getElem_modify, Array.getElem_push]
    simp at h1 h2
    by_cases e : i < w.heap.size
    · simp [e, show w.heap.size ≠ i by omega]
    · have : i = w.heap.size := by omega
      subst this
      simp

/-- Boxes made at a call's start. -/
theorem hs_one (w : World) (T : TypeId) (cs : List Value) : ∃ wb, w.alloc (.cells cs.toArray T) = wb ∧ Hs w [(w.heap.size, T, cs)] wb := ⟨_, rfl, (Hs.nil w).al rfl T cs⟩
theorem hs_two (w : World) (T U : TypeId) (cs ds : List Value) : ∃ wb, (w.alloc (.cells cs.toArray T)).alloc (.cells ds.toArray U) = wb ∧ Hs w [(w.heap.size + 1, U, ds), (w.heap.size, T, cs)] wb :=
  ⟨_, rfl, ((Hs.nil w).al rfl T cs).al (by simp) U ds⟩
theorem hs_three (w : World) (T U V : TypeId) (cs ds es : List Value) : ∃ wb, ((w.alloc (.cells cs.toArray T)).alloc (.cells ds.toArray U)).alloc (.cells es.toArray V) = wb ∧ Hs w [(w.heap.size + 1 + 1, V, es), (w.heap.size + 1, U, ds), (w.heap.size, T, cs)] wb :=
  ⟨_, rfl, (((Hs.nil w).al rfl T cs).al (by simp) U ds).al (by simp) V es⟩

/-- A whole load that stands under a guard. -/
theorem wpList_load_rowG {P : Program} {ops : Array Oper} {rest : List Oper} {o : Oper} {a : Act} {w : World} {Q : Exit → Act → World → Prop} (hw : Region.wanted o (yielded ops a.tmps) = true) (ty : TypeId) (x : Operand) (ho : o.op = .load ty x)
    (g : Nat) (hx : a.eval x = .pointer (some ⟨g, 0, none⟩)) (t : TypeId) (cs : Array Value) (fr : Nat × Nat) (d : TypeDesc) (hg : w.heap[g]? = some (.cells cs t fr))
    (hu : P.underlying ty = some d) (hd : (match d with | .struct _ | .array _ _ => true | _ => false) = true) (hi : (P.info? ty).map (·.size) = some cs.size)
    (h : wpList P ops Q rest (a.put o.dst (.agg cs)) w) : wpList P ops Q (o :: rest) a w :=
  wpList_step fun _ hK => by rw [if_pos hw]; exact wp_load_row ty x ho g hx t cs fr d hg hu hd hi (hK _ _ h)

/-- A result of many cells in its box, beside one in a slot. -/
theorem results_two {P : Program} {fn : Func} {p r : Tmp} {ty : TypeId} (h : fn.results = #[.cell p ty, .tmp r]) (tmps : Array Value) (w : World) (g : Nat) (t : TypeId) (cs : Array Value) (fr : Nat × Nat) (d : TypeDesc)
    (hp : tmps.getD p undef = .pointer (some ⟨g, 0, none⟩)) (v : Value) (hv : tmps.getD r undef = v) (hg : w.heap[g]? = some (.cells cs t fr))
    (hu : P.underlying ty = some d) (hd : (match d with | .struct _ | .array _ _ => true | _ => false) = true) (hi : (P.info? ty).map (·.size) = some cs.size) :
    (results fn tmps).run P w = .ok (.tuple #[.agg cs, v]) w := by
  have hp' : tmps[p]?.getD undef = .pointer (some ⟨g, 0, none⟩) := by simpa using hp
  have hv' : tmps[r]?.getD undef = v := by simpa using hv
  simp [results, h, hp', hv', asAddr, run_loadVar_row w g t ty cs fr d hg hu hd hi]

end Go.Proofs.YtcamakkicmapcaaDoor

/- Tellings compared, as numbers: no program. -/
namespace Go.Proofs.YtcamakkicmapcaaDoor
set_option maxRecDepth 100000
set_option linter.unusedVariables false

/-- The order of two numbers. -/
def cmpI (x y : Int) : Int := if x < y then -1 else if y < x then 1 else 0
/-- The first that isn't 0. -/
def orI (x y : Int) : Int := if x = 0 then y else x

theorem cmpI_lt {x y : Int} (h : x < y) : cmpI x y = -1 := if_pos h
theorem cmpI_eq (x : Int) : cmpI x x = 0 := by unfold cmpI; rw [if_neg (by omega), if_neg (by omega)]
theorem cmpI_gt {x y : Int} (h : y < x) : cmpI x y = 1 := by unfold cmpI; rw [if_neg (by omega), if_pos h]
theorem cmpI_cases (x y : Int) : (x < y ∧ cmpI x y = -1) ∨ (x = y ∧ cmpI x y = 0) ∨ (y < x ∧ cmpI x y = 1) := by
  rcases Int.lt_trichotomy x y with h | h | h
  · exact .inl ⟨h, cmpI_lt h⟩
  · subst h; exact .inr (.inl ⟨rfl, cmpI_eq x⟩)
  · exact .inr (.inr ⟨h, cmpI_gt h⟩)

/-- A telling. -/
structure Vec where
  r : Int
  c : Int
  b : Int
  p : Int

/-- All but the port; all. -/
def wpI (x y : Vec) : Int := orI (cmpI x.r y.r) (orI (cmpI x.c y.c) (cmpI x.b y.b))
def cmpV (x y : Vec) : Int := orI (wpI x y) (cmpI x.p y.p)
/-- A sum, at most the greatest. -/
def farI (a b : Int) : Int := min (a + b) 4294967295
/-- Behind a port of some cost. -/
def viaV (x : Vec) (k : Int) : Vec := ⟨x.r, farI x.c k, x.b, x.p⟩
/-- Does x take the place of y? -/
def supB (x y : Vec) (own : Int) : Bool := if wpI x y = 0 then (!decide (x.b = own)) || decide (x.p ≤ y.p) else decide (wpI x y < 0)
/-- The document's: is x the better one? -/
def lessB (x y : Vec) : Bool :=
  if x.r = y.r then if x.c = y.c then if x.b = y.b then decide (x.p < y.p) else decide (x.b < y.b) else decide (x.c < y.c) else decide (x.r < y.r)

/-- A telling's numbers are in their ranges. -/
def VB (x : Vec) : Prop := (0 ≤ x.r ∧ x.r < 18446744073709551616) ∧ (0 ≤ x.c ∧ x.c < 4294967296) ∧ (0 ≤ x.b ∧ x.b < 18446744073709551616) ∧ (0 ≤ x.p ∧ x.p < 65536)

theorem farI_bd {a b : Int} (ha : 0 ≤ a) (hb : 0 ≤ b) : 0 ≤ farI a b ∧ farI a b < 4294967296 := by unfold farI; omega
theorem VB.via {x : Vec} (h : VB x) {k : Int} (hk : 0 ≤ k) : VB (viaV x k) := ⟨h.1, farI_bd h.2.1.1 hk, h.2.2.1, h.2.2.2⟩

/-- Where two tellings part. -/
theorem wpI_cases (x y : Vec) :
    ((x.r < y.r ∨ x.r = y.r ∧ (x.c < y.c ∨ x.c = y.c ∧ x.b < y.b)) ∧ wpI x y = -1) ∨
    ((x.r = y.r ∧ x.c = y.c ∧ x.b = y.b) ∧ wpI x y = 0) ∨
    ((y.r < x.r ∨ x.r = y.r ∧ (y.c < x.c ∨ x.c = y.c ∧ y.b < x.b)) ∧ wpI x y = 1) := by
  unfold wpI orI
  rcases cmpI_cases x.r y.r with ⟨h, e⟩ | ⟨h, e⟩ | ⟨h, e⟩ <;> rcases cmpI_cases x.c y.c with ⟨h2, e2⟩ | ⟨h2, e2⟩ | ⟨h2, e2⟩ <;> rcases cmpI_cases x.b y.b with ⟨h3, e3⟩ | ⟨h3, e3⟩ | ⟨h3, e3⟩ <;>
    rw [e, e2, e3] <;> simp <;> omega

theorem cmpV_cases (x y : Vec) :
    ((wpI x y = -1 ∨ wpI x y = 0 ∧ x.p < y.p) ∧ cmpV x y = -1) ∨ (wpI x y = 0 ∧ x.p = y.p ∧ cmpV x y = 0) ∨ ((wpI x y = 1 ∨ wpI x y = 0 ∧ y.p < x.p) ∧ cmpV x y = 1) := by
  unfold cmpV orI
  rcases wpI_cases x y with ⟨_, e⟩ | ⟨_, e⟩ | ⟨_, e⟩ <;> rcases cmpI_cases x.p y.p with ⟨h3, e3⟩ | ⟨h3, e3⟩ | ⟨h3, e3⟩ <;>
    rw [e, e3] <;> simp [h3] <;> omega

theorem cmpV_anti (x y : Vec) : cmpV x y = -cmpV y x := by
  have := wpI_cases x y; have := wpI_cases y x; have := cmpV_cases x y; have := cmpV_cases y x
  omega
theorem cmpV_zero (x y : Vec) : cmpV x y = 0 ↔ x = y := by
  have h1 := wpI_cases x y; have h2 := cmpV_cases x y
  constructor
  · intro h; cases x; cases y; simp only [Vec.mk.injEq] at *; omega
  · rintro rfl; omega
theorem cmpV_trans {x y z : Vec} (h1 : cmpV x y ≤ 0) (h2 : cmpV y z ≤ 0) : cmpV x z ≤ 0 := by
  have := wpI_cases x y; have := wpI_cases y z; have := wpI_cases x z; have := cmpV_cases x y; have := cmpV_cases y z; have := cmpV_cases x z
  omega
theorem cmpV_via {x : Vec} (h : VB x) {k : Int} (hk : 0 ≤ k) : 0 ≤ cmpV (viaV x k) x ∧ cmpV x (viaV x k) ≤ 0 := by
  have h1 := wpI_cases x (viaV x k); have h2 := wpI_cases (viaV x k) x; have := cmpV_cases x (viaV x k); have := cmpV_cases (viaV x k) x
  obtain ⟨_, ⟨_, _⟩, _, _⟩ := h
  simp only [viaV, farI] at *
  omega
theorem lessB_iff (x y : Vec) : lessB x y = true ↔ (x.r < y.r ∨ x.r = y.r ∧ (x.c < y.c ∨ x.c = y.c ∧ (x.b < y.b ∨ x.b = y.b ∧ x.p < y.p))) := by
  unfold lessB
  split
  · split
    · split
      · simp only [decide_eq_true_eq]; omega
      · simp only [decide_eq_true_eq]; omega
    · simp only [decide_eq_true_eq]; omega
  · simp only [decide_eq_true_eq]; omega
theorem lessB_no (x y : Vec) (h : lessB x y = false) : ¬ (x.r < y.r ∨ x.r = y.r ∧ (x.c < y.c ∨ x.c = y.c ∧ (x.b < y.b ∨ x.b = y.b ∧ x.p < y.p))) := by
  rw [← lessB_iff, h]; decide
/-- The law's 'want'. -/
def wantI (x y : Vec) : Int := if lessB y x = true then 1 else if lessB x y = true then -1 else 0
theorem want_is (x y : Vec) : wantI x y = cmpV x y := by
  have h1 := wpI_cases x y; have h2 := cmpV_cases x y
  unfold wantI
  cases e : lessB y x with
  | true => have := (lessB_iff y x).1 e; rw [if_pos rfl]; omega
  | false =>
    have n := lessB_no y x e
    cases f : lessB x y with
    | true => have := (lessB_iff x y).1 f; rw [if_neg (by decide), if_pos rfl]; omega
    | false => have := lessB_no x y f; rw [if_neg (by decide), if_neg (by decide)]; omega

/-- What takes the place of what, as the document says it. -/
def near3 (x y : Vec) : Bool := decide (x.r < y.r) || (decide (x.r = y.r) && decide (x.c < y.c)) || ((decide (x.r = y.r) && decide (x.c = y.c)) && decide (x.b < y.b))
def same3 (x y : Vec) : Bool := (decide (x.r = y.r) && decide (x.c = y.c)) && decide (x.b = y.b)
theorem same3_iff (x y : Vec) : same3 x y = true ↔ (x.r = y.r ∧ x.c = y.c ∧ x.b = y.b) := by unfold same3; simp [and_assoc]
theorem same3_wp (x y : Vec) : same3 x y = decide (wpI x y = 0) := by
  have h1 := wpI_cases x y; have h2 := same3_iff x y
  rw [Bool.eq_iff_iff, h2, decide_eq_true_eq]; omega
theorem supB_lt {x y : Vec} {o : Int} (h : wpI x y = -1) : supB x y o = true := by unfold supB; rw [if_neg (by omega)]; simp [h]
theorem supB_gt {x y : Vec} {o : Int} (h : wpI x y = 1) : supB x y o = false := by unfold supB; rw [if_neg (by omega)]; simp [h]
theorem supB_eq {x y : Vec} {o : Int} (h : wpI x y = 0) : supB x y o = ((!decide (x.b = o)) || decide (x.p ≤ y.p)) := by unfold supB; rw [if_pos h]
theorem supB_self (x : Vec) (o : Int) : supB x x o = true := by
  have h1 := wpI_cases x x
  rw [supB_eq (by omega)]; simp
theorem cmpV_not0 {x y : Vec} (h : wpI x y ≠ 0) : cmpV x y = wpI x y := by
  have := wpI_cases x y; have := cmpV_cases x y; omega

end Go.Proofs.YtcamakkicmapcaaDoor

/- A port, and what becomes of it: no program. -/
namespace Go.Proofs.YtcamakkicmapcaaDoor
set_option maxRecDepth 100000
set_option linter.unusedVariables false

/-- A port: its number, state and cost; what it holds; what it owes; its timers. -/
structure Po where
  id : Int
  st : Int
  co : Int
  hr : Int
  hc : Int
  hb : Int
  hp : Int
  ak : Bool
  pe : Bool
  ao : Bool
  av : Int
  yo : Bool
  yv : Int
  ho : Bool
  hv : Int

/-- What becomes of it. -/
def riseP (p : Po) : Po := if p.st = 1 then { p with st := 2, yo := true, yv := 0 } else p
def learnsB (s : Int) : Bool := decide (s = 3) || decide (s = 4)
def blockP (p : Po) : Po × Bool := if p.st = 0 ∨ p.st = 1 then (p, false) else ({ p with st := 1, yo := false, yv := 0 }, learnsB p.st)
def nextP (p : Po) : Po × Bool := if p.st = 2 then ({ p with st := 3, yo := true, yv := 0 }, false) else if p.st = 3 then ({ p with st := 4 }, true) else (p, false)

end Go.Proofs.YtcamakkicmapcaaDoor

/- '==' of ports that are alike. -/
namespace Go.Proofs.YtcamakkicmapcaaDoor
set_option maxRecDepth 100000
open Go.ChangeShapes Go.WideShapes Go.ChangeAt Go.RowKit
set_option linter.unusedVariables false

/-- '==' of ports that are alike. -/
theorem port_same (p : Po) (w : World) : (Op.equalIn 10000 48 (.agg #[.int .u16 p.id, .int .i64 p.st, .int .u32 p.co, .int .u64 p.hr, .int .u32 p.hc, .int .u64 p.hb, .int .u16 p.hp, .bool p.ak, .bool p.pe, .bool p.ao, .int .i64 p.av, .bool p.yo, .int .i64 p.yv, .bool p.ho, .int .i64 p.hv]) (.agg #[.int .u16 p.id, .int .i64 p.st, .int .u32 p.co, .int .u64 p.hr, .int .u32 p.hc, .int .u64 p.hb, .int .u16 p.hp, .bool p.ak, .bool p.pe, .bool p.ao, .int .i64 p.av, .bool p.yo, .int .i64 p.yv, .bool p.ho, .int .i64 p.hv])).run Tryd.prog w = .ok true w := by
  have ev : ∀ w, (Op.equalIn 9999 46 (.agg #[.int .u64 p.hr, .int .u32 p.hc, .int .u64 p.hb, .int .u16 p.hp]) (.agg #[.int .u64 p.hr, .int .u32 p.hc, .int .u64 p.hb, .int .u16 p.hp])).run Tryd.prog w = .ok true w := by
    intro w
    rw [show (9999 : Nat) = 9998 + 1 from rfl, run_equalIn_struct w 9998 46 _ _ (by kernel_rfl) (by kernel_rfl)]
    simp only [Program.fieldsOf, Tryd.underlying46]
    go_simp
  have et : ∀ (o : Bool) (v : Int) w, (Op.equalIn 9999 28 (.agg #[.bool o, .int .i64 v]) (.agg #[.bool o, .int .i64 v])).run Tryd.prog w = .ok true w := by
    intro o v w
    rw [show (9999 : Nat) = 9998 + 1 from rfl, run_equalIn_struct w 9998 28 _ _ (by kernel_rfl) (by kernel_rfl)]
    simp only [Program.fieldsOf, Tryd.underlying28]
    cases o <;> go_simp
  rw [show (10000 : Nat) = 9999 + 1 from rfl, run_equalIn_struct w 9999 48 _ _ (by kernel_rfl) (by kernel_rfl)]
  simp only [Program.fieldsOf, Tryd.underlying48]
  go_simp

end Go.Proofs.YtcamakkicmapcaaDoor

/- Timers: what they are; Start and Stop: contracts. -/
namespace Go.Proofs.YtcamakkicmapcaaDoor
set_option maxRecDepth 100000
open Go.ChangeShapes Go.WideShapes Go.ChangeAt Go.RowKit
set_option linter.unusedVariables false

/-- A timer, as a value. -/
def tmr (o : Bool) (v : Int) : Value := .agg #[.bool o, .int .i64 v]

/-- How long one has run that was started; that ran a second longer. -/
def startI (v : Int) : Int := min (max v 0) 1073741824
def laterI (v : Int) : Int := min v 1073741568 + 256

theorem startI_bd (v : Int) : 0 ≤ startI v ∧ startI v ≤ 1073741824 := by unfold startI; omega
theorem laterI_bd (v : Int) (h : 0 ≤ v) : 256 ≤ laterI v ∧ laterI v ≤ 1073741824 := by unfold laterI; omega
theorem laterI_is (v : Int) (h : 0 ≤ v) : laterI v = startI (v + 256) := by unfold laterI startI; omega

/-- What one calls that answers a timer. -/
def TEnd (W : World) (o : Bool) (v : Int) (e : Ending) (W' : World) : Prop :=
  e = .returned (.agg #[.bool o, .int .i64 v]) ∧ Below W.heap.size W W'

theorem start_is (v : Int) (h0 : -9223372036854775808 ≤ v) (h1 : v ≤ 9223372036854775807) (w : World) :
    Calls Tryd.prog 37 #[.int .i64 v] w (TEnd w true (startI v)) := by
  obtain ⟨s, hs⟩ : ∃ s, startI v = s := ⟨_, rfl⟩
  have hss : min (max v 0) 1073741824 = s := hs
  have sb := startI_bd v
  rw [hs] at sb ⊢
  clear hs
  go_enter Tryd.func37, Tryd.ntmps37
  go_wp2
  exact bodyPost_ret (v := .agg #[.bool true, .int .i64 s]) (by simp [results, Tryd.results37, go_sem]) rfl ⟨rfl, ((Below.refl _ _).alloc (Nat.le_refl _) _)⟩

theorem stop_is (w : World) : Calls Tryd.prog 38 #[] w (TEnd w false 0) := by
  go_enter Tryd.func38, Tryd.ntmps38
  go_wp2
  exact bodyPost_ret (v := .agg #[.bool false, .int .i64 0]) (by simp [results, Tryd.results38, go_sem]) rfl ⟨rfl, ((Below.refl _ _).alloc (Nat.le_refl _) _)⟩

end Go.Proofs.YtcamakkicmapcaaDoor

/- Rise: contract. -/
namespace Go.Proofs.YtcamakkicmapcaaDoor
set_option maxRecDepth 100000
open Go.ChangeShapes Go.WideShapes Go.ChangeAt Go.RowKit
set_option linter.unusedVariables false

theorem start0 (w : World) : Calls Tryd.prog 37 #[.int .i64 0] w (TEnd w true 0) := by
  have h := start_is 0 (by decide) (by decide) w
  rwa [show startI 0 = 0 from by decide] at h

end Go.Proofs.YtcamakkicmapcaaDoor

/- Forwards, Learns, Designated: contracts. -/
namespace Go.Proofs.YtcamakkicmapcaaDoor
set_option maxRecDepth 100000
open Go.ChangeShapes Go.WideShapes Go.ChangeAt Go.RowKit
set_option linter.unusedVariables false

theorem desig_is (p : Po) (o : Int) (q : Bool) (hq : Hid ((decide (p.hb = o) && decide (p.hp = p.id)) = q)) (w : World) :
    Calls Tryd.prog 22 #[.agg #[.int .u16 p.id, .int .i64 p.st, .int .u32 p.co, .int .u64 p.hr, .int .u32 p.hc, .int .u64 p.hb, .int .u16 p.hp, .bool p.ak, .bool p.pe, .bool p.ao, .int .i64 p.av, .bool p.yo, .int .i64 p.yv, .bool p.ho, .int .i64 p.hv], .int .u64 o] w fun e w' => e = .returned (.bool q) ∧ Below w.heap.size w w' := by
  have hq := hq.out
  obtain ⟨wb, hwb, S⟩ := hs_one w 48 [.int .u16 p.id, .int .i64 p.st, .int .u32 p.co, .int .u64 p.hr, .int .u32 p.hc, .int .u64 p.hb, .int .u16 p.hp, .bool p.ak, .bool p.pe, .bool p.ao, .int .i64 p.av, .bool p.yo, .int .i64 p.yv, .bool p.ho, .int .i64 p.hv]
  by_cases h : p.hb = o
  · rw [decide_eq_true h, Bool.true_and] at hq
    have hb : (p.hb == o) = true := by simpa using h
    clear h
    by_cases k : p.hp = p.id
    · have kb : (p.hp == p.id) = true := by simpa using k
      rw [decide_eq_true k] at hq
      subst hq
      clear k
      go_enter Tryd.func22, Tryd.ntmps22
      go_upto_region 1 with fail
      clear hwb
      have c0 := S.cell 0 0 rfl rfl
      have c5 := S.cell 0 5 rfl rfl
      have c6 := S.cell 0 6 rfl rfl
      go_wp2
      go_ret
      exact ⟨rfl, S.old⟩
    · have kb : (p.hp == p.id) = false := by simpa using k
      rw [decide_eq_false k] at hq
      subst hq
      clear k
      go_enter Tryd.func22, Tryd.ntmps22
      go_upto_region 1 with fail
      clear hwb
      have c0 := S.cell 0 0 rfl rfl
      have c5 := S.cell 0 5 rfl rfl
      have c6 := S.cell 0 6 rfl rfl
      go_wp2
      go_ret
      exact ⟨rfl, S.old⟩
  · rw [decide_eq_false h, Bool.false_and] at hq
    have hb : (p.hb == o) = false := by simpa using h
    clear h
    subst hq
    go_enter Tryd.func22, Tryd.ntmps22
    go_upto_region 1 with fail
    clear hwb
    have c5 := S.cell 0 5 rfl rfl
    go_wp2
    go_ret
    exact ⟨rfl, S.old⟩

end Go.Proofs.YtcamakkicmapcaaDoor

/- Block, Become, New: contracts. -/
namespace Go.Proofs.YtcamakkicmapcaaDoor
set_option maxRecDepth 100000
open Go.ChangeShapes Go.WideShapes Go.ChangeAt Go.RowKit
set_option linter.unusedVariables false

theorem become_is (p : Po) (v : Vec) (w : World) :
    Calls Tryd.prog 63 #[.agg #[.int .u16 p.id, .int .i64 p.st, .int .u32 p.co, .int .u64 p.hr, .int .u32 p.hc, .int .u64 p.hb, .int .u16 p.hp, .bool p.ak, .bool p.pe, .bool p.ao, .int .i64 p.av, .bool p.yo, .int .i64 p.yv, .bool p.ho, .int .i64 p.hv], .agg #[.int .u64 v.r, .int .u32 v.c, .int .u64 v.b, .int .u16 v.p]] w fun e w' => e = .returned (.agg #[.int .u16 p.id, .int .i64 p.st, .int .u32 p.co, .int .u64 v.r, .int .u32 v.c, .int .u64 v.b, .int .u16 p.id, .bool p.ak, .bool p.pe, .bool p.ao, .int .i64 p.av, .bool p.yo, .int .i64 p.yv, .bool p.ho, .int .i64 p.hv]) ∧ Below w.heap.size w w' := by
  obtain ⟨wb, hwb, S⟩ := hs_three w 48 46 48 [.int .u16 p.id, .int .i64 p.st, .int .u32 p.co, .int .u64 p.hr, .int .u32 p.hc, .int .u64 p.hb, .int .u16 p.hp, .bool p.ak, .bool p.pe, .bool p.ao, .int .i64 p.av, .bool p.yo, .int .i64 p.yv, .bool p.ho, .int .i64 p.hv] [.int .u64 v.r, .int .u32 v.c, .int .u64 v.b, .int .u16 v.p] [.int .u16 0, .int .i64 0, .int .u32 0, .int .u64 0, .int .u32 0, .int .u64 0, .int .u16 0, .bool false, .bool false, .bool false, .int .i64 0, .bool false, .int .i64 0, .bool false, .int .i64 0]
  go_enter Tryd.func63, Tryd.ntmps63
  go_upto_region 1 with fail
  clear hwb
  obtain ⟨X, hX⟩ : ∃ X, w.heap.size = X := ⟨_, rfl⟩
  rw [hX] at S ⊢
  obtain ⟨V, hV⟩ : ∃ V, X + 1 = V := ⟨_, rfl⟩
  rw [hV] at S ⊢
  obtain ⟨Y, hY⟩ : ∃ Y, V + 1 = Y := ⟨_, rfl⟩
  rw [hY] at S ⊢
  have v0 := S.cell 1 0 rfl rfl
  have v1 := S.cell 1 1 rfl rfl
  have v2 := S.cell 1 2 rfl rfl
  have v3 := S.cell 1 3 rfl rfl
  have c0 := S.cell 2 0 rfl rfl
  have c3 := S.cell 2 3 rfl rfl
  have c4 := S.cell 2 4 rfl rfl
  have c5 := S.cell 2 5 rfl rfl
  have c6 := S.cell 2 6 rfl rfl
  have f3 := S.thaw 2 3 rfl
  have f4 := S.thaw 2 4 rfl
  have f5 := S.thaw 2 5 rfl
  have f6 := S.thaw 2 6 rfl
  go_upto_region 3 with fail
  have S3 := ((((S.set 2 rfl 3 (.int .u64 v.r)).set 2 rfl 4 (.int .u32 v.c)).set 2 rfl 5 (.int .u64 v.b)).set 2 rfl 6 (.int .u16 v.p)).set 2 rfl 6 (.int .u16 p.id)
  simp only [List.set] at S3
  generalize ((((wb.setCell ⟨X, 3, none⟩ (.int .u64 v.r)).setCell ⟨X, 4, none⟩ (.int .u32 v.c)).setCell ⟨X, 5, none⟩ (.int .u64 v.b)).setCell ⟨X, 6, none⟩ (.int .u16 v.p)).setCell ⟨X, 6, none⟩ (.int .u16 p.id) = w2 at S3 ⊢
  clear S v0 v1 v2 v3 c0 c3 c4 c5 c6 f3 f4 f5 f6
  have hx := S3.bk 2 rfl
  have hy := S3.bk 0 rfl
  go_wp2_with (first | (refine wpList_load_row rfl 48 _ rfl X rfl _ _ (0, 0) _ hx Tryd.underlying48 rfl (by kernel_rfl) ?_) | (refine wpList_store_row rfl 48 _ _ rfl Y _ rfl rfl _ _ hy (by kernel_rfl) (by kernel_rfl) (by kernel_rfl) ?_))
  exact bodyPost_ret (v := .agg #[.int .u16 p.id, .int .i64 p.st, .int .u32 p.co, .int .u64 v.r, .int .u32 v.c, .int .u64 v.b, .int .u16 p.id, .bool p.ak, .bool p.pe, .bool p.ao, .int .i64 p.av, .bool p.yo, .int .i64 p.yv, .bool p.ho, .int .i64 p.hv]) (results_cell_row rfl _ _ Y _ _ _ _ rfl (setRow_heap _ _ _ _ _ _ hy) Tryd.underlying48 rfl (by kernel_rfl)) rfl ⟨rfl, (S3.row 0 rfl [.int .u16 p.id, .int .i64 p.st, .int .u32 p.co, .int .u64 v.r, .int .u32 v.c, .int .u64 v.b, .int .u16 p.id, .bool p.ak, .bool p.pe, .bool p.ao, .int .i64 p.av, .bool p.yo, .int .i64 p.yv, .bool p.ho, .int .i64 p.hv]).old⟩

set_option maxHeartbeats 1000000 in
theorem new_is (i k : Int) (on : Bool) (v : Vec) (s : Int) (hs : Hid ((if on then (1 : Int) else 0) = s)) (w : World) :
    Calls Tryd.prog 51 #[.int .u16 i, .int .u32 k, .bool on, .agg #[.int .u64 v.r, .int .u32 v.c, .int .u64 v.b, .int .u16 v.p]] w fun e w' => e = .returned (.agg #[.int .u16 i, .int .i64 s, .int .u32 k, .int .u64 v.r, .int .u32 v.c, .int .u64 v.b, .int .u16 i, .bool false, .bool false, .bool false, .int .i64 0, .bool false, .int .i64 0, .bool false, .int .i64 0]) ∧ Below w.heap.size w w' := by
  have HB := fun W => Lib.hid (become_is ⟨i, s, k, 0, 0, 0, 0, false, false, false, 0, false, 0, false, 0⟩ v W)
  dsimp only at HB
  obtain ⟨wb, hwb, S⟩ := hs_two w 46 48 [.int .u64 v.r, .int .u32 v.c, .int .u64 v.b, .int .u16 v.p] [.int .u16 0, .int .i64 0, .int .u32 0, .int .u64 0, .int .u32 0, .int .u64 0, .int .u16 0, .bool false, .bool false, .bool false, .int .i64 0, .bool false, .int .i64 0, .bool false, .int .i64 0]
  go_enter Tryd.func51, Tryd.ntmps51
  go_upto_region 1 with fail
  clear hwb
  obtain ⟨V, hV⟩ : ∃ V, w.heap.size = V := ⟨_, rfl⟩
  rw [hV] at S ⊢
  obtain ⟨Y, hY⟩ : ∃ Y, V + 1 = Y := ⟨_, rfl⟩
  rw [hY] at S ⊢
  go_wp2_with fail
  (with_reducible refine (stop_is _).mono ?_); rintro e w1 ⟨rfl, b1⟩
  have S1 := S.below b1
  clear S b1
  go_wp2_with fail
  (with_reducible refine (stop_is _).mono ?_); rintro e w2 ⟨rfl, b2⟩
  have S2 := S1.below b2
  clear S1 b2
  go_wp2_with fail
  (with_reducible refine (stop_is _).mono ?_); rintro e w3 ⟨rfl, b3⟩
  have S3 := S2.below b3
  clear S2 b3
  go_upto_if 16 with (refine wpList_store_row rfl 48 _ _ rfl _ _ rfl rfl _ _ (heap_alloc_new _ _) (by kernel_rfl) (by kernel_rfl) (by kernel_rfl) ?_)
  rw [alloc_row]
  have S4 := S3.al rfl 48 [.int .u16 i, .int .i64 0, .int .u32 k, .int .u64 0, .int .u32 0, .int .u64 0, .int .u16 0, .bool false, .bool false, .bool false, .int .i64 0, .bool false, .int .i64 0, .bool false, .int .i64 0]
  obtain ⟨Z, hZ⟩ : ∃ Z, w3.heap.size = Z := ⟨_, rfl⟩
  rw [hZ] at S4 ⊢
  generalize w3.alloc (.cells #[.int .u16 i, .int .i64 0, .int .u32 k, .int .u64 0, .int .u32 0, .int .u64 0, .int .u16 0, .bool false, .bool false, .bool false, .int .i64 0, .bool false, .int .i64 0, .bool false, .int .i64 0] 48) = w4 at S4 ⊢
  clear S3 hZ
  cases on with
  | false =>
    obtain rfl : s = 0 := by simpa using hs.out.symm
    have S5 := S4
    clear S4
    have z0 := S5.cell 2 0 rfl rfl
    have z1 := S5.cell 2 1 rfl rfl
    have z2 := S5.cell 2 2 rfl rfl
    have z3 := S5.cell 2 3 rfl rfl
    have hz := S5.bk 0 rfl
    go_upto_region 4 with fail
    go_wp2_with (first | (refine wpList_load_row rfl 48 _ rfl Z rfl _ _ (0, 0) _ hz Tryd.underlying48 rfl (by kernel_rfl) ?_) | fail)
    (with_reducible refine (HB _).out.mono ?_); rintro e w6 ⟨rfl, b6⟩
    have S6 := S5.below b6
    have hy := S6.bk 1 rfl
    go_wp2_with (refine wpList_store_row rfl 48 _ _ rfl Y _ rfl rfl _ _ hy (by kernel_rfl) (by kernel_rfl) (by kernel_rfl) ?_)
    exact bodyPost_ret (v := .agg #[.int .u16 i, .int .i64 0, .int .u32 k, .int .u64 v.r, .int .u32 v.c, .int .u64 v.b, .int .u16 i, .bool false, .bool false, .bool false, .int .i64 0, .bool false, .int .i64 0, .bool false, .int .i64 0]) (results_cell_row rfl _ _ Y _ _ _ _ rfl (setRow_heap _ _ _ _ _ _ hy) Tryd.underlying48 rfl (by kernel_rfl)) rfl ⟨rfl, (S6.row 1 rfl [.int .u16 i, .int .i64 0, .int .u32 k, .int .u64 v.r, .int .u32 v.c, .int .u64 v.b, .int .u16 i, .bool false, .bool false, .bool false, .int .i64 0, .bool false, .int .i64 0, .bool false, .int .i64 0]).old⟩
  | true =>
    obtain rfl : s = 1 := by simpa using hs.out.symm
    have y1 := S4.cell 0 1 rfl rfl
    have g1 := S4.thaw 0 1 rfl
    go_upto_region 4 with fail
    have S5 := S4.set 0 rfl 1 (.int .i64 1)
    simp only [List.set] at S5
    generalize w4.setCell ⟨Z, 1, none⟩ (.int .i64 1) = w5 at S5 ⊢
    clear S4 y1 g1
    have z0 := S5.cell 2 0 rfl rfl
    have z1 := S5.cell 2 1 rfl rfl
    have z2 := S5.cell 2 2 rfl rfl
    have z3 := S5.cell 2 3 rfl rfl
    have hz := S5.bk 0 rfl
    go_wp2_with (first | (refine wpList_load_row rfl 48 _ rfl Z rfl _ _ (0, 0) _ hz Tryd.underlying48 rfl (by kernel_rfl) ?_) | fail)
    (with_reducible refine (HB _).out.mono ?_); rintro e w6 ⟨rfl, b6⟩
    have S6 := S5.below b6
    have hy := S6.bk 1 rfl
    go_wp2_with (refine wpList_store_row rfl 48 _ _ rfl Y _ rfl rfl _ _ hy (by kernel_rfl) (by kernel_rfl) (by kernel_rfl) ?_)
    exact bodyPost_ret (v := .agg #[.int .u16 i, .int .i64 1, .int .u32 k, .int .u64 v.r, .int .u32 v.c, .int .u64 v.b, .int .u16 i, .bool false, .bool false, .bool false, .int .i64 0, .bool false, .int .i64 0, .bool false, .int .i64 0]) (results_cell_row rfl _ _ Y _ _ _ _ rfl (setRow_heap _ _ _ _ _ _ hy) Tryd.underlying48 rfl (by kernel_rfl)) rfl ⟨rfl, (S6.row 1 rfl [.int .u16 i, .int .i64 1, .int .u32 k, .int .u64 v.r, .int .u32 v.c, .int .u64 v.b, .int .u16 i, .bool false, .bool false, .bool false, .int .i64 0, .bool false, .int .i64 0, .bool false, .int .i64 0]).old⟩

end Go.Proofs.YtcamakkicmapcaaDoor

/- A region that draws its order, whose operations only read, and whose callees leave all that is older as it lay (they may draw, and lay blocks of their own, and write there): walked once, in the order of the text. The how-to's theorem on quiet regions, at the class 'the worlds that agree with w below its end'. -/
namespace Go.Proofs.YtcamakkicmapcaaDoor
set_option maxRecDepth 100000
open Go.RowKit
set_option linter.unusedVariables false

/-- A world that agrees with w on all blocks that w has. -/
structure LaterW (w : World) where
  w' : World
  h : Below w.heap.size w w'

instance (w : World) : Inhabited (LaterW w) := ⟨⟨w, Below.refl _ _⟩⟩

theorem region_later {P : Program} {id : Nat} {Q : Exit → Act → World → Prop} {a : Act} {w : World} {l : List Oper} (hm : P.follows .mixedOrders = true) (hB : Region.lexB .any l.toArray = true)
    (h : wpQuiet P l.toArray (fun v => ∃ p : LaterW w, v = p.w') (fun a' => ∀ v, (∃ p : LaterW w, v = p.w') → Q .normal a' v) l a) : (Code.region id l.toArray true).wp P Q a w :=
  wp_region_quiet (C := fun v => ∃ p : LaterW w, v = p.w') hm hB ⟨⟨w.drew, (Below.refl _ _).drew⟩, rfl⟩ (by simpa using h)

/-- A callee's contract, met in a world of the class. -/
theorem Calls.later {P : Program} {f : FuncId} {args : Array Value} {w : World} {q : LaterW w} {v : Value}
    (h : Calls P f args q.w' fun e v' => e = .returned v ∧ Below q.w'.heap.size q.w' v') : Calls P f args q.w' fun e v' => e = .returned v ∧ ∃ p : LaterW w, v' = p.w' :=
  h.mono fun _ v' ⟨he, hb⟩ => ⟨he, ⟨v', q.h.trans (hb.mono q.h.size)⟩, rfl⟩
theorem Calls.later_same {P : Program} {f : FuncId} {args : Array Value} {w : World} {q : LaterW w} {v : Value}
    (h : Calls P f args q.w' fun e v' => e = .returned v ∧ q.w' = v') : Calls P f args q.w' fun e v' => e = .returned v ∧ ∃ p : LaterW w, v' = p.w' :=
  h.mono fun _ v' ⟨he, hb⟩ => ⟨he, q, hb.symm⟩

/-- A cell that w has reads the same in every world of the class. -/
theorem later_cell {w : World} {a : Addr} {v : Value} (hb : a.block < w.heap.size) (h : w.cell? a = some v) (q : LaterW w) : q.w'.cell? a = some v :=
  (q.h.cell hb).trans h

theorem mixedL : Tryd.prog.follows .mixedOrders = true := by kernel_rfl

end Go.Proofs.YtcamakkicmapcaaDoor

/- A port's row under a name, so that a walk's slots stay small; a whole row loaded and stored, as the walk's simp meets it. -/
namespace Go.Proofs.YtcamakkicmapcaaDoor
set_option maxRecDepth 100000
open Go.ChangeShapes Go.WideShapes Go.ChangeAt Go.RowKit
set_option linter.unusedVariables false

section
variable {P : Program}
/-- A whole block, loaded: the walk's simp opens the load down to its cells. -/
theorem Hs.ldc {w wx : World} {l : List (Nat × TypeId × List Value)} (h : Hs w l wx) (k : Nat) {g : Nat} {T : TypeId} {cs : List Value} (n : Nat) (hk : l[k]? = some (g, T, cs)) (hn : cs.length = n) :
    (loadCellsFrom ⟨g, 0, none⟩ 0 n #[]).run P wx = .ok cs.toArray wx := by
  subst hn
  have := run_loadCells_list (P := P) wx ⟨g, 0, none⟩ cs (fun j v hv => by
    have hadd : (⟨g, 0, none⟩ : Addr).add j = ⟨g, j, none⟩ := by unfold Addr.add; split <;> simp_all
    rw [hadd]
    exact h.cell k j hk hv)
  simpa [loadCells] using this
/-- A whole block, stored. -/
theorem Hs.stc {w wx : World} {l : List (Nat × TypeId × List Value)} (h : Hs w l wx) (k : Nat) {g : Nat} {T : TypeId} {cs : List Value} (cs' : List Value) (hk : l[k]? = some (g, T, cs)) (hn : cs.length = cs'.length) (ho : cs'.all (·.oneCell') = true) :
    (storeCells ⟨g, 0, none⟩ cs' 0).run P wx = .ok () (wx.setRow g cs'.toArray) := by
  have := run_storeCells_from (P := P) g T cs' 0 cs.toArray wx (h.bk k hk) (by simp; omega) (fun v hv => (List.all_eq_true.1 ho) v hv)
  simpa using this
/-- A whole row into a block just made. -/
theorem new_row (W : World) (T : TypeId) (old cs : List Value) (hn : old.length = cs.length) (ho : cs.all (·.oneCell') = true) :
    (storeCells ⟨W.heap.size, 0, none⟩ cs 0).run P (W.alloc (.cells old.toArray T)) = .ok () (W.alloc (.cells cs.toArray T)) := by
  have h := ((Hs.nil W).al rfl T old).stc (P := P) 0 cs rfl hn ho
  rwa [alloc_row] at h
end

/-- A whole block in every later world. -/
theorem Hs.bkq {w wx : World} {l : List (Nat × TypeId × List Value)} (h : Hs w l wx) (k : Nat) {g : Nat} {T : TypeId} {cs : List Value} (hk : l[k]? = some (g, T, cs)) (v : World) (hv : ∃ q : LaterW wx, v = q.w') :
    v.heap[g]? = some (.cells cs.toArray T (0, 0)) := by
  obtain ⟨q, rfl⟩ := hv
  exact (h.below q.h).bk k hk
/-- A whole load in a region that draws its order. -/
theorem quiet_load_row {P : Program} {C : World → Prop} {o : Oper} {a : Act} {K : Act → Prop} (ty : TypeId) (x : Operand) (ho : o.op = .load ty x)
    (g : Nat) (hx : a.eval x = .pointer (some ⟨g, 0, none⟩)) (t : TypeId) (cs : Array Value) (fr : Nat × Nat) (d : TypeDesc) (hg : ∀ w, C w → w.heap[g]? = some (.cells cs t fr))
    (hu : P.underlying ty = some d) (hd : (match d with | .struct _ | .array _ _ => true | _ => false) = true) (hi : (P.info? ty).map (·.size) = some cs.size)
    (h : K (a.put o.dst (.agg cs))) : o.quiet P a C K := by
  refine ⟨.agg cs, fun w hw => ?_, h⟩
  unfold Oper.quietAt execOp
  simp only [ho, hx, Instr.loadAt, Instr.sureAddr, Sem.run_bind, Sem.run_pure, Result.andThen_ok, run_loadVar_row w g t ty cs fr d (hg w hw) hu hd hi]
  exact ⟨rfl, rfl⟩

/-- A port's cells. -/
def lP (p : Po) : List Value := [.int .u16 p.id, .int .i64 p.st, .int .u32 p.co, .int .u64 p.hr, .int .u32 p.hc, .int .u64 p.hb, .int .u16 p.hp, .bool p.ak, .bool p.pe, .bool p.ao, .int .i64 p.av, .bool p.yo, .int .i64 p.yv, .bool p.ho, .int .i64 p.hv]
theorem lP_len (p : Po) : (lP p).length = 15 := rfl
theorem lP_one (p : Po) : (lP p).all (·.oneCell') = true := rfl

theorem same_row (p : Po) (w : World) : (Op.equalIn 10000 48 (.agg (lP p).toArray) (.agg (lP p).toArray)).run Tryd.prog w = .ok true w := port_same p w
/-- The zero port's row, made anew. -/
theorem new_port (W : World) (q : Po) : (storeCells ⟨W.heap.size, 0, none⟩ (lP q) 0).run Tryd.prog (W.alloc (.cells #[.int .u16 0, .int .i64 0, .int .u32 0, .int .u64 0, .int .u32 0, .int .u64 0, .int .u16 0, .bool false, .bool false, .bool false, .int .i64 0, .bool false, .int .i64 0, .bool false, .int .i64 0] 48)) = .ok () (W.alloc (.cells (lP q).toArray 48)) :=
  new_row W 48 [.int .u16 0, .int .i64 0, .int .u32 0, .int .u64 0, .int .u32 0, .int .u64 0, .int .u16 0, .bool false, .bool false, .bool false, .int .i64 0, .bool false, .int .i64 0, .bool false, .int .i64 0] (lP q) rfl rfl

end Go.Proofs.YtcamakkicmapcaaDoor
