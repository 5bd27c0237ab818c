/- Open: a Bpdu's bytes of a frame; the document's; Wrap. The variable bpduHead holds its three bytes. -/
import Derived.Test.YtbjcjeadnfckgaaDoorFrameClone
import Derived.Test.YtbjcjeadnfckgaaDoorWireCut
import Derived.RegionTactic
import Derived.Deep.RegionLaw
namespace Go.Proofs.YtbjcjeadnfckgaaDoor
set_option maxRecDepth 100000
open Go.ChangeShapes Go.WideShapes Go.ChangeAt Go.RowKit
set_option linter.unusedVariables false

/-- The variable bpduHead holds 42 42 3 (hexadecimal). -/
def Hd (w : World) : Prop := w.cell? ⟨0, 0, none⟩ = some (.int .u8 66) ∧ w.cell? ⟨0, 1, none⟩ = some (.int .u8 66) ∧ w.cell? ⟨0, 2, none⟩ = some (.int .u8 3) ∧ 0 < w.heap.size

theorem Hd.below {w w' : World} {B : Nat} (h : Hd w) (hb : Below B w w') (hB : w.heap.size ≤ B) : Hd w' := by
  obtain ⟨h0, h1, h2, h3⟩ := h
  have h4 : 0 < B := Nat.lt_of_lt_of_le h3 hB
  exact ⟨(hb.cell h4).trans h0, (hb.cell h4).trans h1, (hb.cell h4).trans h2, Nat.lt_of_lt_of_le h3 hb.size⟩

theorem Hd.below' {w w' : World} {B : Nat} (h : Hd w) (hb : Below B w w') (h4 : 0 < B) : Hd w' := by
  obtain ⟨h0, h1, h2, h3⟩ := h
  exact ⟨(hb.cell h4).trans h0, (hb.cell h4).trans h1, (hb.cell h4).trans h2, Nat.lt_of_lt_of_le h3 hb.size⟩

theorem three {w : World} {g : Nat} {b0 b1 b2 : UInt8} (h : w.heap[g]? = some (.cells (splice [Value.int .u8 0, .int .u8 0, .int .u8 0] 0 ([b0, b1, b2].map bc)).toArray 49 (0, 0))) :
    w.cell? ⟨g, 0, none⟩ = some (.int .u8 (b0.toNat : Int)) ∧ w.cell? ⟨g, 1, none⟩ = some (.int .u8 (b1.toNat : Int)) ∧ w.cell? ⟨g, 2, none⟩ = some (.int .u8 (b2.toNat : Int)) := by
  have hb : Bk w g 49 [bc b0, bc b1, bc b2] := h
  exact ⟨hb.cell 0, hb.cell 1, hb.cell 2⟩

theorem eq3 (a b c d e f : Int) (w : World) : (Op.equalIn 10000 49 (.agg #[.int .u8 a, .int .u8 b, .int .u8 c]) (.agg #[.int .u8 d, .int .u8 e, .int .u8 f])).run Tryd.prog w = .ok (a == d && b == e && c == f) w := by
  have u5 := Tryd.underlying5
  have a5 := Tryd.isAgg5
  have z5 := Tryd.sizeOf5
  rw [show (10000 : Nat) = 9999 + 1 from rfl, Op.equalIn]
  simp only [Sem.run_bind, run_underlying Tryd.underlying49, Result.andThen_ok]
  simp only [Std.Legacy.Range.forIn_eq_forIn_range', Std.Legacy.Range.size, Nat.sub_zero, Nat.add_sub_cancel, Nat.div_one, List.range'_succ, List.range'_zero, List.forIn_cons, List.forIn_nil]
  go_simp
  by_cases h1 : a = d <;> by_cases h2 : b = e <;> by_cases h3 : c = f <;> simp [h1, h2, h3]

theorem short3 (l : List UInt8) (h : l.length < 3) : (l.take 3 == [66, 66, 3]) = false := by
  rw [beq_eq_false_iff_ne]
  intro e
  have := congrArg List.length e
  simp at this
  omega

theorem first3 (b0 b1 b2 : UInt8) (tl : List UInt8) : ((b0 :: b1 :: b2 :: tl).take 3 == [66, 66, 3]) = ((b0.toNat : Int) == 66 && (b1.toNat : Int) == 66 && (b2.toNat : Int) == 3) := by
  have e : ∀ (b : UInt8) (m : Nat), m < 256 → (b == UInt8.ofNat m) = ((b.toNat : Int) == (m : Int)) := by
    intro b m hm
    rw [Bool.eq_iff_iff, beq_iff_eq, beq_iff_eq]
    constructor
    · intro h; rw [h]; simp; omega
    · intro h; apply UInt8.toNat_inj.1; simp; omega
  have e0 := e b0 66 (by omega)
  have e1 := e b1 66 (by omega)
  have e2 := e b2 3 (by omega)
  simp only [List.take_succ_cons, List.take_zero, List.cons_beq_cons]
  have f0 : (b0 == 66) = ((b0.toNat : Int) == 66) := e0
  have f1 : (b1 == 66) = ((b1.toNat : Int) == 66) := e1
  have f2 : (b2 == 3) = ((b2.toNat : Int) == 3) := e2
  rw [f0, f1, f2, Bool.and_assoc]
  simp

/-- A frame that bridges tell each other? -/
def openB (t k : Int) (l : List UInt8) : Bool := t == 1652522221568 && decide (k ≤ 1500) && (l.take 3 == [66, 66, 3])

def OpenYes (x : List UInt8) (m : Nat) (w : World) (e : Ending) (w' : World) : Prop :=
  ∃ D cap, e = .returned (.tuple #[.slice D m cap, .bool true]) ∧ RB w' D 0 w'.heap.size x ∧ Below w.heap.size w w'

def OpenNo (w : World) (e : Ending) (w' : World) : Prop := e = .returned (.tuple #[.slice none 0 0, .bool false]) ∧ Below w.heap.size w w'

/-- What 'Open' leaves. -/
def OpenEnd (t k : Int) (l : List UInt8) (n : Nat) (w : World) (e : Ending) (w' : World) : Prop :=
  (openB t k l = true ∧ OpenYes (l.drop 3) (n - 3) w e w') ∨ (openB t k l = false ∧ OpenNo w e w')

theorem isLen_yes (k : Int) (h : k ≤ 1500) (w : World) : Calls Tryd.prog 25 #[.int .u16 k] w fun e w' => e = .returned (.bool true) ∧ w = w' := by
  go_enter Tryd.func25, Tryd.ntmps25
  go_wp2
  go_ret
  exact ⟨rfl, rfl⟩

theorem isLen_no (k : Int) (h : decide (k ≤ 1500) = false) (w : World) : Calls Tryd.prog 25 #[.int .u16 k] w fun e w' => e = .returned (.bool false) ∧ w = w' := by
  go_enter Tryd.func25, Tryd.ntmps25
  go_wp2
  go_ret
  exact ⟨rfl, rfl⟩

theorem open_far (t f k : Int) (A : Option Addr) (n c : Nat) (h2 : 0 ≤ k) (h5 : k < 65536) (h : (t == 1652522221568) = false ∨ decide (k ≤ 1500) = false) (w : World) :
    Calls Tryd.prog 17 #[.agg #[.int .u64 t, .int .u64 f, .int .u16 k, .slice A n c]] w (OpenNo w) := by
  cases ht : t == 1652522221568
  · have ht' : (t != 1652522221568) = true := by simp [bne, ht]
    clear h ht
    go_enter Tryd.func17, Tryd.ntmps17
    go_wp2
    go_ret2
    exact ⟨rfl, below_new (Nat.le_refl _)⟩
  · have ht' : (t != 1652522221568) = false := by simp [bne, ht]
    have hk : decide (k ≤ 1500) = false := by
      rcases h with h | h
      · rw [ht] at h; cases h
      · exact h
    clear h ht
    go_enter Tryd.func17, Tryd.ntmps17
    go_wp2_with fail
    (with_reducible refine (isLen_no _ hk _).mono ?_); rintro e w' ⟨rfl, rfl⟩
    go_wp2
    go_ret2
    exact ⟨rfl, below_new (Nat.le_refl _)⟩

theorem min3 (l : List UInt8) (n : Nat) (h : l.length = n) : ((l.take 3).map bc).length = Nat.min n 3 := by
  simp [← h, Nat.min_comm]

theorem open_near (t f k : Int) (A : Option Addr) (n c : Nat) (l : List UInt8) (hl : Hid (l.length = n)) (hc : n ≤ c) (hnc : Hid (A = none → c = 0)) (hn : n ≤ 10000) (h2 : 0 ≤ k) (h5 : k ≤ 1500) (ht : (t == 1652522221568) = true) (w : World) (hd : Hd w) (hr : RB w A 0 w.heap.size l) :
    Calls Tryd.prog 17 #[.agg #[.int .u64 t, .int .u64 f, .int .u16 k, .slice A n c]] w (OpenEnd t k l n w) := by
  have ht' : (t != 1652522221568) = false := by simp [bne, ht]
  have hob : Hid (openB t k l = (l.take 3 == [66, 66, 3])) := by show _ = _; unfold openB; rw [ht]; simp [h5]
  clear ht
  go_enter Tryd.func17, Tryd.ntmps17
  go_wp2_with fail
  (with_reducible refine (isLen_yes _ h5 _).mono ?_); rintro e w' ⟨rfl, rfl⟩
  go_wp2_with fail
  obtain ⟨w0, hB0, hb0, hs0, hw0⟩ := boxed w t f k A n c
  rw [← hw0]
  have hsz0 : w0.heap.size = w.heap.size + 1 := by rw [hw0]; simp
  clear hw0
  obtain ⟨w1, hw1⟩ : ∃ w1, w1 = w0.alloc (.cells #[.int .u8 0, .int .u8 0, .int .u8 0] 49) := ⟨_, rfl⟩
  rw [← hw1]
  have hb1 : Below w0.heap.size w0 w1 := by rw [hw1]; exact below_new (Nat.le_refl _)
  have hH1 : Bk w1 (w.heap.size + 1) 49 [.int .u8 0, .int .u8 0, .int .u8 0] := by rw [hw1, ← hsz0]; exact heap_alloc_new w0 _
  have hs1 : w1.heap.size = w.heap.size + 2 := by rw [hw1]; simp [hsz0]
  clear hw1
  have hB1 := hB0.below hb1 hs0
  have hbw1 : Below w.heap.size w w1 := below_two hb0 hb1 hb0.size
  have hd1 : Hd w1 := hd.below hbw1 (Nat.le_refl _)
  have HS1 := Lib.hid hs1
  clear hB0 hb0 hb1 hs0 hsz0 hs1
  obtain ⟨c0, c1, c2, c3⟩ := hB1.cells
  obtain ⟨y0, y1, y2, y3⟩ := hd1
  have hg1 : Hid (w1.drew.heap[w.heap.size + 1]? = some (.cells [Value.int .u8 0, .int .u8 0, .int .u8 0].toArray 49 (0, 0))) := hH1
  have hbd : Below (w.heap.size + 1) w1 w1.drew := (Below.refl _ _).drew
  by_cases h3 : n < 3
  · have d3 : decide ((n : Int) < 3) = true := by simp; omega
    have hsrc : Hid (0 < (l.map bc).length → some (⟨w.heap.size + 1, 0, none⟩ : Addr) = some ⟨w.heap.size + 1, 0, none⟩ ∧ ∃ ad, A = some ad ∧ ∀ (j : Nat) v, (l.map bc)[j]? = some v → w1.drew.cell? (ad.add j) = some v) := copy_src hr (w' := w1.drew) hbw1.drew _
    have hlm : Hid ((l.map bc).length = Nat.min n 3) := by show _ = _; rw [List.length_map, hl.out]; exact (Nat.min_eq_left (by omega)).symm
    have hlf : Hid (0 + (l.map bc).length ≤ [Value.int .u8 0, .int .u8 0, .int .u8 0].length) := by show _ ≤ _; simp [hl.out]; omega
    have hln : Hid ((l.map bc).length = n) := by show _ = _; rw [List.length_map, hl.out]
    go_region_law (refine step_copy_splice rfl (.tmp 14) (.tmp 16) 25 25 rfl 5 Tryd.underlying25 Tryd.sizeByte (some ⟨w.heap.size + 1, 0, none⟩) A 3 3 n c (by simp [Act.eval]) (by simp [Act.eval]) (w.heap.size + 1) 0 [.int .u8 0, .int .u8 0, .int .u8 0] 49 hg1.out (l.map bc) hlm.out hsrc.out hlf.out (one_bcs l) (w.heap.size + 1) w1 hbd (Nat.le_refl _) ?_; intro w2 hg2 hb2; rw [hln.out])
    all_goals go_wp2
    all_goals go_ret2
    all_goals exact .inr ⟨by rw [hob.out]; exact short3 l (by rw [hl.out]; exact h3), rfl, hbw1.trans (hb2.mono (Nat.le_succ _))⟩
  · obtain ⟨b0, b1, b2, tl, rfl⟩ : ∃ b0 b1 b2 tl, l = b0 :: b1 :: b2 :: tl := by
      have := hl.out
      match l, this with
      | [], e => simp at e; omega
      | [_], e => simp at e; omega
      | [_, _], e => simp at e; omega
      | b0 :: b1 :: b2 :: tl, _ => exact ⟨b0, b1, b2, tl, rfl⟩
    have hsrc : Hid (0 < ([b0, b1, b2].map bc).length → some (⟨w.heap.size + 1, 0, none⟩ : Addr) = some ⟨w.heap.size + 1, 0, none⟩ ∧ ∃ ad, A = some ad ∧ ∀ (j : Nat) v, ([b0, b1, b2].map bc)[j]? = some v → w1.drew.cell? (ad.add j) = some v) := copy_src (hr.take 3) (w' := w1.drew) hbw1.drew _
    have hmn : Hid (3 = Nat.min n 3) := Lib.hid (Nat.min_eq_right (by omega)).symm
    have hd1 : Hd w1 := ⟨y0, y1, y2, y3⟩
    obtain ⟨E, hE⟩ : ∃ E, E = ((b0.toNat : Int) == 66 && (b1.toNat : Int) == 66 && (b2.toNat : Int) == 3) := ⟨_, rfl⟩
    have heq : ∀ w : World, (Op.equalIn 10000 49 (.agg #[.int .u8 (b0.toNat : Int), .int .u8 (b1.toNat : Int), .int .u8 (b2.toNat : Int)]) (.agg #[.int .u8 66, .int .u8 66, .int .u8 3])).run Tryd.prog w = .ok E w := by rw [hE]; exact eq3 _ _ _ _ _ _
    have hoE : Hid (openB t k (b0 :: b1 :: b2 :: tl) = E) := by show _ = _; rw [hob.out, hE]; exact first3 b0 b1 b2 tl
    have d3 : decide ((n : Int) < 3) = false := by simp; omega
    clear hE
    cases E
    · go_region_law (refine step_copy_splice rfl (.tmp 14) (.tmp 16) 25 25 rfl 5 Tryd.underlying25 Tryd.sizeByte (some ⟨w.heap.size + 1, 0, none⟩) A 3 3 n c (by simp [Act.eval]) (by simp [Act.eval]) (w.heap.size + 1) 0 [.int .u8 0, .int .u8 0, .int .u8 0] 49 hg1.out ([b0, b1, b2].map bc) hmn.out hsrc.out (by simp) (one_bcs _) (w.heap.size + 1) w1 hbd (Nat.le_refl _) ?_; intro w2 hg2 hb2; obtain ⟨x0, x1, x2⟩ := three hg2.out; obtain ⟨v0, v1, v2, v3⟩ := hd1.below' hb2 (Nat.lt_succ_of_lt hd.2.2.2); have hB2 := hB1.below hb2 (Nat.lt_succ_self _); obtain ⟨p0, p1, p2, p3⟩ := hB2.cells; have hbw2 := hbw1.trans (hb2.mono (Nat.le_succ _)))
      all_goals go_wp2
      all_goals go_ret2
      all_goals exact .inr ⟨hoE.out, rfl, hbw2⟩
    · have s3 : ∀ w : World, (Instr.sliceAt 25 (.slice A n c) (some (.int .i64 3)) none none).run Tryd.prog w = .ok (.slice (cutA A 3 c) (n - 3) (c - 3)) w := scut_any A n c 3 (by omega)
      have hr4 : RB w (cutA A 3 c) 0 w.heap.size tl := hr.drop 3 c (by rw [hl.out]; exact hc)
      have htl : Hid (tl.length = n - 3) := by show _ = _; have := hl.out; simp at this; omega
      have hc3 : Hid (cutA A 3 c = none → c - 3 = 0) := by
        intro e
        unfold cutA at e
        split at e
        · omega
        · cases A with
          | none => have := hnc.out rfl; omega
          | some ad => cases e
      go_region_law (refine step_copy_splice rfl (.tmp 14) (.tmp 16) 25 25 rfl 5 Tryd.underlying25 Tryd.sizeByte (some ⟨w.heap.size + 1, 0, none⟩) A 3 3 n c (by simp [Act.eval]) (by simp [Act.eval]) (w.heap.size + 1) 0 [.int .u8 0, .int .u8 0, .int .u8 0] 49 hg1.out ([b0, b1, b2].map bc) hmn.out hsrc.out (by simp) (one_bcs _) (w.heap.size + 1) w1 hbd (Nat.le_refl _) ?_; intro w2 hg2 hb2; obtain ⟨x0, x1, x2⟩ := three hg2.out; obtain ⟨v0, v1, v2, v3⟩ := hd1.below' hb2 (Nat.lt_succ_of_lt hd.2.2.2); have hB2 := hB1.below hb2 (Nat.lt_succ_self _); obtain ⟨p0, p1, p2, p3⟩ := hB2.cells; have hbw2 := hbw1.trans (hb2.mono (Nat.le_succ _)))
      all_goals go_wp2_with fail
      all_goals (with_reducible refine (clone_any (cutA A 3 c) (n - 3) (c - 3) tl htl hc3 (by omega) _ ((hr4.below hbw2 (Nat.le_refl _)).wide (Nat.le_refl _) hbw2.size)).mono ?_)
      all_goals (rintro e w3 ⟨D, cap, rfl, hD, r1, r2, hb3⟩)
      all_goals go_wp2
      all_goals go_ret2
      all_goals exact .inl ⟨hoE.out, D, cap, rfl, hD.rb.wide (Nat.zero_le _) (Nat.le_refl _), below_two hbw2 hb3 hbw2.size⟩

theorem open_any (t f k : Int) (A : Option Addr) (n c : Nat) (l : List UInt8) (hl : Hid (l.length = n)) (hc : n ≤ c) (hnc : Hid (A = none → c = 0)) (hn : n ≤ 10000) (h2 : 0 ≤ k) (h5 : k < 65536) (w : World) (hd : Hd w) (hr : RB w A 0 w.heap.size l) :
    Calls Tryd.prog 17 #[.agg #[.int .u64 t, .int .u64 f, .int .u16 k, .slice A n c]] w (OpenEnd t k l n w) := by
  cases ht : t == 1652522221568
  · exact (open_far t f k A n c h2 h5 (.inl ht) w).mono fun e w' h => .inr ⟨by unfold openB; rw [ht]; rfl, h⟩
  · cases hk : decide (k ≤ 1500)
    · exact (open_far t f k A n c h2 h5 (.inr hk) w).mono fun e w' h => .inr ⟨by unfold openB; rw [hk]; simp, h⟩
    · exact open_near t f k A n c l hl hc hnc hn h2 (by simpa using hk) ht w hd hr

end Go.Proofs.YtbjcjeadnfckgaaDoor
